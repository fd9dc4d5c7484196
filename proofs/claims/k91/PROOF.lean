import PyProof.Rows.All
import Wide.All
import OpenK.AllK
import Wide.FinOn
import Lean
import PyProof.EqAt
import PyProof.EqKinds
import PyProof.TupleCall
import PySem.Challenge.RW_dialvault_k91_whole_pulls_and_weights
set_option Elab.async false
set_option linter.all false
set_option maxRecDepth 100000
set_option maxHeartbeats 0
noncomputable section
theorem aR(h:True:=by rfl):True:=h
theorem aD(h:True:=by decide):True:=h
theorem aI(h:True:=by intro _;rfl):True:=h
theorem aK(h:True:=by kernel_rfl):True:=h
theorem aF(h:True:=by first | exact .inl rfl | exact .inr rfl | assumption):True:=h
theorem aU(h:True:=by with_unfolding_all rfl):True:=h
theorem aN(h:True:=by decide +kernel):True:=h
theorem aG(h:True:=by first | exact .inl rfl | exact .inr rfl):True:=h
namespace L2
open PySem PySem.Spec PyProof.Rows
abbrev Key:=Sum Int Str
def Fn:Key->Value->Bool
 | .inl k,v=>Value.isInt k v
 | .inr x,v=>Value.isStrOf x v
def LN(w:World):Key->Int
 | .inl k=>hashInt k
 | .inr x=>hashStr w x
theorem cz:∀ {k:Key} {v:Value},Fn k v=true->(∃ i t,k=Sum.inl i/\v=Value.int i t)\/(∃ x t,k=Sum.inr x/\v=Value.str x t)
 | .inl i,v,h=>by
  obtain⟨t,e⟩:=Value.isInt_shape (k:=i) (v:=v) h
  exact .inl ⟨i,t,rfl,e⟩
 | .inr x,v,h=>by
  obtain⟨t,e⟩:=Value.isStrOf_shape (x:=x) (v:=v) h
  exact .inr ⟨x,t,rfl,e⟩
theorem FF(a b:Int):decide ((Sum.inl a:Key)=Sum.inl b)=(a==b):=by
 by_cases e:a=b
 ·subst e;simp
 ·have h:¬ (Sum.inl a:Key)=Sum.inl b:=λq=>e (Sum.inl.inj q)
  rw[decide_eq_false h]
  exact(beq_eq_false_iff_ne.mpr e).symm
theorem GW(a b:Str):decide ((Sum.inr a:Key)=Sum.inr b)=decide (a=b):=by
 by_cases e:a=b
 ·subst e;simp
 ·have h:¬ (Sum.inr a:Key)=Sum.inr b:=λq=>e (Sum.inr.inj q)
  rw[decide_eq_false h,decide_eq_false e]
theorem GK(a:Int)(b:Str):decide ((Sum.inl a:Key)=Sum.inr b)=false:=decide_eq_false (λq=>nomatch q)
theorem Hn(a:Str)(b:Int):decide ((Sum.inr a:Key)=Sum.inl b)=false:=decide_eq_false (λq=>nomatch q)
def xq(prog:Program)(w:World):PySem.KeyKind prog w Key where
 is:=Fn
 hash:=LN w
 inj:=λv a b ha hb=>by
  rcases cz ha with ⟨i,t,rfl,rfl⟩ | ⟨x,t,rfl,rfl⟩
  ·rcases cz hb with ⟨j,u,rfl,e⟩ | ⟨y,u,rfl,e⟩
   ·injection e with e1 _;rw[e1]
   ·exact nomatch e
  ·rcases cz hb with ⟨j,u,rfl,e⟩ | ⟨y,u,rfl,e⟩
   ·exact nomatch e
   ·injection e with e1 _;rw[e1]
 byValue:=λk v h=>by
  rcases cz h with ⟨i,t,rfl,rfl⟩ | ⟨x,t,rfl,rfl⟩ <;> rfl
 pyHash:=λhv h=>by
  rcases cz hv with ⟨i,t,rfl,rfl⟩ | ⟨x,t,rfl,rfl⟩
  ·exact wpAny_pyHash_int h
  ·exact wpAny_pyHash_str h
 eqBool:=λhu hv h=>by
  rcases cz hu with ⟨i,t,rfl,rfl⟩ | ⟨x,t,rfl,rfl⟩
  ·rcases cz hv with ⟨j,u,rfl,rfl⟩ | ⟨y,u,rfl,rfl⟩
   ·rw[FF] at h;exact wpAny_eqBool_int h
   ·rw[GK] at h;exact SeqAt.EqAt.int_str i t y u _ _ _ _ h
  ·rcases cz hv with ⟨j,u,rfl,rfl⟩ | ⟨y,u,rfl,rfl⟩
   ·rw[Hn] at h;exact SeqAt.EqAt.str_int x t j u _ _ _ _ h
   ·rw[GW] at h;exact wpAny_eqBool_str h
 «strs»:=λk x t v h=>by
  rcases cz h with ⟨i,u,rfl,e⟩ | ⟨y,u,rfl,e⟩
  ·exact nomatch e
  ·injection e with e1 _
   subst e1
   cases v <;> rfl
end L2
namespace L2
open PySem PySem.Spec PyProof.Rows
inductive V where
 | cR | bl (b:Bool) | int (i:Int) | str (x:Str) | byt (b:Array UInt8) | E6 (b:UInt64) | ref (a:Addr) | ty (n:String)
 deriving DecidableEq
def RelV:V->Value->Prop
 | .cR,u=>u=Value.none
 | .bl b,u=>u=Value.bool b
 | .int i,u=>∃ t,u=Value.int i t
 | .str x,u=>∃ t,u=Value.str x t
 | .byt b,u=>∃ t,u=Value.bytes b t
 | .E6 b,u=>∃ t,u=Value.float b t
 | .ref a,u=>u=Value.ref a
 | .ty n,u=>u=Value.type n
abbrev Vals:List V->List Value->Prop:=Paired RelV
theorem Vals.length{xs:List V}{us:List Value}(r:Vals xs us):xs.length=us.length:=Paired.length r
theorem Vals.get:∀ {xs:List V} {us:List Value} {i:Nat} {x:V},Vals xs us->xs[i]?=some x->∃ u,us[i]?=some u/\RelV x u
 | _,_,_,_,.nil,e=>by simp at e
 | _,_,0,_,.cons r _,e=>by simp at e;subst e;exact⟨_,rfl,r⟩
 | _,_,i+1,x,.cons _ t,e=>by
  obtain⟨u,h1,h2⟩:=Vals.get (i:=i) (x:=x) t (by simpa using e)
  exact⟨u,by simpa using h1,h2⟩
theorem Vals.set{x:V}{u:Value}(r:RelV x u):∀ {xs:List V} {us:List Value} (i:Nat),Vals xs us->Vals (xs.set i x) (us.set i u)
 | _,_,_,.nil=>.nil
 | _,_,0,.cons _ t=>.cons r t
 | _,_,i+1,.cons q t=>.cons q (Vals.set r i t)
theorem Vals.append:∀ {xs ys:List V} {us ws:List Value},Vals xs us->Vals ys ws->Vals (xs++ys) (us++ws)
 | _,_,_,_,.nil,s=>s
 | _,_,_,_,.cons r t,s=>.cons r (Vals.append t s)
theorem Vals.take:∀ {xs:List V} {us:List Value} (n:Nat),Vals xs us->Vals (xs.take n) (us.take n)
 | _,_,0,_=>.nil
 | _,_,_+1,.nil=>.nil
 | _,_,n+1,.cons r t=>.cons r (Vals.take n t)
theorem Vals.drop:∀ {xs:List V} {us:List Value} (n:Nat),Vals xs us->Vals (xs.drop n) (us.drop n)
 | _,_,0,r=>r
 | _,_,_+1,.nil=>.nil
 | _,_,n+1,.cons _ t=>Vals.drop n t
def mv:Option V->Option Value->Prop
 | some v,some u=>RelV v u
 | none,none=>True
 | _,_=>False
def KV{κ:Type}:List (κ×V)->List (κ×Value)->Prop:=Paired λ(p:κ×V) (q:κ×Value)=>p.1=q.1/\RelV p.2 q.2
def kV:Key->V
 | .inl i=>.int i
 | .inr x=>.str x
inductive HO where
 | lst (xs:List V)
 | tup (xs:List V)
 | dK (NF:List (Key×V)) | dT (NF:List (List Key×V))
 | set (S:Int->Bool) (n:Nat)
 | ins (C dx:Addr) (fs:List (Str×V))
 | own (x:Addr)
 | xd (fs:List (Str×V))
 | met (f x:Addr)
 | je (lo hi:Int)
 | qB (o:Obj) (u:HO)
 | Fb (ps:Array Value)
 | ext (φ:Heap->Prop)
abbrev Hp:=Addr->Option HO
def upd(H:Hp)(a:Addr)(o:HO):Hp:=λb=>if b=a then some o else H b
theorem aB{H:Hp}{a:Addr}{o:HO}:upd H a o a=some o:=by unfold upd;rw[if_pos rfl]
theorem aw{H:Hp}{a b:Addr}{o:HO}(h:b≠a):upd H a o b=H b:=by unfold upd;rw[if_neg h]
theorem xC{H:Hp}{a:Addr}{o u:HO}:upd (upd H a o) a u=upd H a u:=by
 funext b;unfold upd;split <;> rfl
theorem bW{H:Hp}{a b:Addr}{o:HO}(h:H a=some o)(h':H b=none):a≠b:=by
 intro e;subst e;rw[h] at h';cases h'
section
variable(P:Program)(w:World)
def cw(H:Hp)(h:Heap)(a:Addr):HO->Prop
 | .lst xs=>xs.length<=sizeLine/\∃ (MJ:List Value) (n:Nat),Vals xs MJ/\h.get? a=some { cls:=.type "list", data:=.seq MJ.toArray n }
 | .tup xs=>xs.length<=sizeLine/\∃ MJ:List Value,Vals xs MJ/\IsTup h a MJ.toArray
 | .dK NF=>NF.length<=sizeLine/\(a==sysModules)=false/\∃ vs,KV NF vs/\h.DictOf (xq P w) a vs
 | .dT NF=>NF.length<=sizeLine/\(a==sysModules)=false/\∃ xs:List (List Key×Addr×Value),
   Paired (λ(p:List Key×V) (q:List Key×Addr×Value)=>p.1=q.1/\H q.2.1=some (.tup (p.1.map kV))/\RelV p.2 q.2.2) NF xs ∧
   ∃ o es ep,h.get? a=some o/\o.ExactDict/\o.data=.dict es ep/\es.toList=xs.map (entryOfKey (tupleKind (xq P w)))/\(xs.map (·.1)).Nodup
 | .set S n=>h.SetOf (intKind P w) a S n
 | .ins C dx fs=>H dx=some (.own a)/\fs.length<=1000/\dx≠a/\h.get? a=some (PySem.W.instObj C dx) ∧
   ∃ mA,h.Ns1 dx mA/\(∀ f,mv (fs.lookup f) (mA f))/\PySem.Within mA (fs.map (·.1))
 | .own _=>∃ o,h.get? a=some o
 | .xd fs=>∃ mA,h.Ns1 a mA/\∀ f,mv (fs.lookup f) (mA f)
 | .je lo hi=>∃ t u v,h.get? a=some { cls:=.type "range", data:=.fields #[.int lo t,.int hi u,.int 1 v] }
 | .qB o u=>h.get? a=some o/\cw H h a u
 | .Fb ps=>h.get? a=some { cls:=.none,data:=.fields ps }
 | .met f x=>h.get? a=some (PySem.W.methodObj (.ref f) (.ref x))
 | .ext φ=>φ h/\(∃ o,h.get? a=some o)/\∀ h1 h2:Heap,φ h1->(∀ o,h1.get? a=some o->h2.get? a=some o)->φ h2
def mU(H:Hp)(h:Heap):Prop:=∀ a o,H a=some o->cw P w H h a o
end
section
variable{P:Program}{w:World}{H H':Hp}{h h':Heap}{a:Addr}{o:HO}
theorem cw.lt(x:cw P w H h a o):a<h.objs.size:=by
 cases o with
 | lst xs=>obtain⟨_,_,_,_,e⟩:=x;exact Heap.lt_size e
 | tup xs=>obtain⟨_,_,_,p⟩:=x;exact p.lt
 | dK NF=>obtain⟨_,_,_,_,o,_,_,e,_⟩:=x;exact Heap.lt_size e
 | dT NF=>obtain⟨_,_,_,_,o,_,_,e,_⟩:=x;exact Heap.lt_size e
 | set S n=>obtain⟨o,_,_,_,e,_⟩:=x;exact Heap.lt_size e
 | ins C dx fs=>obtain⟨_,_,_,e,_⟩:=x;exact Heap.lt_size e
 | own y=>obtain⟨_,e⟩:=x;exact Heap.lt_size e
 | xd fs=>obtain⟨_,⟨_,_,_,e,_⟩,_⟩:=x;exact Heap.lt_size e
 | je lo hi=>obtain⟨_,_,_,e⟩:=x;exact Heap.lt_size e
 | qB ob u=>obtain⟨e,_⟩:=x;exact Heap.lt_size e
 | Fb ps=>exact Heap.lt_size (show h.get? a=some _ from x)
 | met f y=>exact Heap.lt_size (show h.get? a=some _ from x)
 | ext φ=>obtain⟨_,⟨_,e⟩,_⟩:=x;exact Heap.lt_size e
theorem Paired.JD{α β:Type}{F G:α->β->Prop}:∀ {l₁:List α} {l₂:List β},Paired F l₁ l₂->(∀ a b,F a b->G a b)->Paired G l₁ l₂
 | _,_,.nil,_=>.nil
 | _,_,.cons r t,f=>.cons (f _ _ r) (Paired.JD t f)
theorem cw.nO(x:cw P w H h a o)(k:∀ b u,(b=a\/H b=some (.own a))->h.get? b=some u->h'.get? b=some u)
  (ho:∀ b,H b=some (.own a)->H' b=some (.own a)) (ht:∀ b xs,H b=some (.tup xs)->H' b=some (.tup xs)):cw P w H' h' a o:=by
 induction o with
 | lst xs=>obtain⟨z,MJ,n,r,e⟩:=x;exact⟨z,MJ,n,r,k _ _ (.inl rfl) e⟩
 | tup xs=>obtain⟨z,MJ,r,ob,e,c⟩:=x;exact⟨z,MJ,r,ob,k _ _ (.inl rfl) e,c⟩
 | dK NF=>obtain⟨z,y,vs,r,ob,es,ep,e,c⟩:=x;exact⟨z,y,vs,r,ob,es,ep,k _ _ (.inl rfl) e,c⟩
 | dT NF =>
  obtain⟨z,y,xs,r,ob,es,ep,e,c⟩:=x
  exact⟨z,y,xs,Paired.JD r λp q z=>⟨z.1,ht _ _ z.2.1,z.2.2⟩,ob,es,ep,k _ _ (.inl rfl) e,c⟩
 | set S n=>obtain⟨ob,es,ep,t,e,c⟩:=x;exact⟨ob,es,ep,t,k _ _ (.inl rfl) e,c⟩
 | ins C dx fs =>
  obtain⟨d,z,ne,e,mA,⟨od,es,ep,e2,c⟩,r⟩:=x
  exact⟨ho _ d,z,ne,k _ _ (.inl rfl) e,mA,⟨od,es,ep,k _ _ (.inr d) e2,c⟩,r⟩
 | own y=>obtain⟨ob,e⟩:=x;exact⟨ob,k _ _ (.inl rfl) e⟩
 | xd fs=>obtain⟨mA,⟨od,es,ep,e,c⟩,r⟩:=x;exact⟨mA,⟨od,es,ep,k _ _ (.inl rfl) e,c⟩,r⟩
 | je lo hi=>obtain⟨t,u,v,e⟩:=x;exact⟨t,u,v,k _ _ (.inl rfl) e⟩
 | qB ob u ih=>obtain⟨e,q⟩:=x;exact⟨k _ _ (.inl rfl) e,ih q⟩
 | Fb ps =>
  have e:h.get? a=some { cls:=.none,data:=.fields ps }:=x
  show h'.get? a=some { cls:=.none,data:=.fields ps }
  exact k a _ (.inl rfl) e
 | met f y =>
  have e:h.get? a=some (PySem.W.methodObj (.ref f) (.ref y)):=x
  show h'.get? a=some (PySem.W.methodObj (.ref f) (.ref y))
  exact k a _ (.inl rfl) e
 | ext φ=>obtain⟨p,⟨o,e⟩,st⟩:=x;exact⟨st _ _ p λo q=>k _ _ (.inl rfl) q,⟨o,k _ _ (.inl rfl) e⟩,st⟩
theorem mU.lt(x:mU P w H h)(e:H a=some o):a<h.objs.size:=(x a o e).lt
theorem mU.fresh(x:mU P w H h)(e:h.objs.size<=a):H a=none:=by
 cases q:H a with
 | none=>rfl
 | some u=>exact absurd (Nat.lt_of_lt_of_le (x.lt q) e) (Nat.lt_irrefl _)
theorem mU.kept(x:mU P w H h)(k:∀ b u,h.get? b=some u->h'.get? b=some u):mU P w H h':=λa o e =>
 (x a o e).nO (λb u _ q=>k b u q) (λ_ q=>q) λ_ _ q=>q
theorem mU.laid(x:mU P w H h)(k:∀ b u,h.get? b=some u->h'.get? b=some u)(hp:h.objs.size<=a)(new:cw P w (upd H a o) h' a o):mU P w (upd H a o) h':=λb u e=>by
 have hn:=x.fresh hp
 by_cases hb:b=a
 ·subst hb;rw[aB] at e;cases e;exact new
 ·rw[aw hb] at e
  exact(x b u e).nO (λc v _ q=>k c v q) (λc q=>by rw[aw (bW q hn)];exact q) λc xs q=>by rw[aw (bW q hn)];exact q
end
def Rd(H:Hp)(a:Addr)(u:HO):Prop:=H a=some u\/∃ o,H a=some (.qB o u)
theorem Rd.ok{P:Program}{w:World}{H:Hp}{h:Heap}{a:Addr}{u:HO}(r:Rd H a u)(x:mU P w H h):cw P w H h a u:=by
 rcases r with r | ⟨o,r⟩
 ·exact x a u r
 ·obtain⟨_,q⟩:=x a _ r
  exact q
def Kh:Option HO->Prop
 | some (.lst _)=>True
 | some (.dK _)=>True
 | some (.dT _)=>True
 | some (.set _ _)=>True
 | some (.ins _ _ _)=>True
 | some (.ext _)=>True
 | _=>False
section
variable{P:Program}{w:World}{H:Hp}{h h':Heap}{x e:Addr}{o':HO}
theorem mU.write(ok:mU P w H h)(mu:Kh (H x))(he:e=x\/H e=some (.own x))(k:∀ b u,b≠e->h.get? b=some u->h'.get? b=some u)(P7:∃ u,h'.get? e=some u)
  (new:cw P w (upd H x o') h' x o'):mU P w (upd H x o') h':=λb u q=>by
 have QB:∀ c y,H c=some (.own y)->c≠x:=λc y r z=>by subst z;rw[r] at mu;exact mu
 have ntup:∀ c xs,H c=some (.tup xs)->c≠x:=λc xs r z=>by subst z;rw[r] at mu;exact mu
 by_cases hb:b=x
 ·subst hb;rw[aB] at q;cases q;exact new
 ·rw[aw hb] at q
  by_cases OW:b=e
  ·have q':H b=some (.own x):=by
    rcases he with z | z
    ·exact absurd (OW.trans z) hb
    ·rw[OW];exact z
   rw[q] at q';cases q'
   obtain⟨v,hv⟩:=P7
   exact⟨v,by rw[OW];exact hv⟩
  ·refine(ok b u q).nO (λc v hc r=>k c v ?_ r) (λc r=>by rw[aw (QB c b r)];exact r) λc xs r=>by rw[aw (ntup c xs r)];exact r
   rcases hc with rfl | hc
   ·exact OW
   ·rintro rfl
    rcases he with z | z
    ·exact QB c b hc z
    ·rw[hc] at z;cases z;exact hb rfl
end
structure Un (fs ex:List Addr) (H H':Hp) (h h':Heap):Prop where
 keep:∀ b o,h.get? b=some o->H b=none->b ∉ fs->b ∉ ex->h'.get? b=some o
 slot:∀ b o,h.get? b=some o->H b=none->b∈fs->b ∉ ex->∃ sl,h'.get? b=some { o with slots:=sl }
 free:∀ b o,h.get? b=some o->H b=none->b ∉ ex->H' b=none
 there:∀ b o,h.get? b=some o->b ∉ ex->∃ o',h'.get? b=some o'
 sG:∀ b xs,H b=some (.tup xs)->H' b=some (.tup xs)
 mD:∀ b o u,H b=some (.qB o u)->H' b=some (.qB o u)
 tf:∀ b ps,H b=some (.Fb ps)->∃ more,H' b=some (.Fb (ps++more))
section
variable{fs PD ex ex':List Addr}{H H1 H2:Hp}{h h1 h2 h':Heap}{a x e:Addr}{o:HO}
theorem Un.any(u:Un fs ex H H1 h h1){b:Addr}{ob:Obj}(q:h.get? b=some ob)(n:H b=none)(hx:b ∉ ex):∃ sl,h1.get? b=some { ob with slots:=sl }:=by
 by_cases hb:b∈fs
 ·exact u.slot b ob q n hb hx
 ·exact⟨ob.slots,u.keep b ob q n hb hx⟩
theorem Un.kept(k:∀ b u,h.get? b=some u->h'.get? b=some u):Un fs ex H H h h' :=
 ⟨λb ob q _ _ _=>k b ob q,λb ob q _ _ _=>⟨ob.slots,k b ob q⟩,λ_ _ _ n _=>n,λb ob q _=>⟨ob,k b ob q⟩,λ_ _ q=>q,λ_ _ _ q=>q,λ_ ps q=>⟨#[],by rw[q];simp⟩⟩
theorem Un.refl:Un fs ex H H h h:=Un.kept λ_ _ q=>q
theorem Un.laid(k:∀ b u,h.get? b=some u->h'.get? b=some u)(hp:h.objs.size<=a)(hn:H a=none):Un fs ex H (upd H a o) h h' where
 keep:=λb u q _ _ _=>k b u q
 slot:=λb u q _ _ _=>⟨u.slots,k b u q⟩
 free:=λb u q n _=>by rw[aw (Nat.ne_of_lt (Nat.lt_of_lt_of_le (Heap.lt_size q) hp))];exact n
 there:=λb u q _=>⟨u,k b u q⟩
 sG:=λb xs q=>by rw[aw (bW q hn)];exact q
 mD:=λb u xs q=>by rw[aw (bW q hn)];exact q
 tf:=λb ps q=>⟨#[],by rw[aw (bW q hn),q];simp⟩
theorem Un.write(mu:Kh (H x))(he:e=x\/H e=some (.own x))(k:∀ b u,b≠e->h.get? b=some u->h'.get? b=some u)(P7:∃ u,h'.get? e=some u):Un fs ex H (upd H x o) h h':=by
 have hx:∀ b,H b=none->b≠x:=λb n z=>by subst z;rw[n] at mu;exact mu
 have hb:∀ b,H b=none->b≠e:=λb n z=>by
  subst z
  rcases he with r | r
  ·exact hx b n r
  ·rw[n] at r;cases r
 have hm:∀ b u,H b=some u->¬ Kh (some u)->b≠x:=λb u q nm z=>by subst z;rw[q] at mu;exact nm mu
 refine⟨λb u q n _ _=>k b u (hb b n) q,λb u q n _ _=>⟨u.slots,k b u (hb b n) q⟩,λb u q n _=>by rw[aw (hx b n)];exact n,λb u q _=>?_,
  λb xs q=>by rw[aw (hm b _ q λz=>z)];exact q,λb u xs q=>by rw[aw (hm b _ q λz=>z)];exact q,λb ps q=>⟨#[],by rw[aw (hm b _ q λz=>z),q];simp⟩⟩
 by_cases OW:b=e
 ·subst OW;exact P7
 ·exact⟨u,k b u OW q⟩
end
def Ki(h:Heap)(H:Hp):List Addr:=(List.range h.objs.size).filter λa=>(H a).isSome
def sZ(h:Heap)(H:Hp):Heap:=PySem.W.hideAll h (Ki h H)
theorem zd(h:Heap)(H:Hp):(sZ h H).objs.size=h.objs.size:=PySem.W.hideAll_size _ _
theorem Ce{h:Heap}{H:Hp}{b:Addr}{o:Obj}(e:h.get? b=some o)(n:H b=none):(sZ h H).get? b=some o :=
 PySem.W.hideAll_get _ e λhm=>by
  have q:(H b).isSome=true:=(List.mem_filter.mp hm).2
  rw[n] at q;simp at q
theorem Ec{h:Heap}{H:Hp}{b:Addr}{o:Obj}(e:(sZ h H).get? b=some o):h.get? b=some o/\H b=none:=by
 have e':h.get? b=some o:=PySem.W.of_hideAll (Ki h H) e
 refine⟨e',?_⟩
 cases q:H b with
 | none=>rfl
 | some x =>
  have hm:b∈Ki h H:=List.mem_filter.mpr ⟨List.mem_range.mpr (Heap.lt_size e'),by simp[q]⟩
  have z:(sZ h H).get? b=none:=PySem.W.hideAll_none (Ki h H) hm
  rw[z] at e;cases e
def Dz(g h:Heap)(L:Addr):List (Addr×Obj):=(List.range h.objs.size).filterMap λa=>if a=L\/(g.get? a).isSome=true then none else (h.get? a).map λo=>(a,o)
def rest(g h:Heap)(L d:Addr):List (Addr×Obj):=(Dz g h L).filter λp=>decide (p.1≠d)
end L2
namespace L2
open PySem PySem.Spec PyProof.Rows
structure Mod (K:PySem.W.Frag) (mg:Str->Option Value) (base:Heap):Prop where
 E5:K.In base
 glob:base.Ns mainGlobals mg
 blt:∃ mb,base.Ns builtinsNs mb/\∀ x:Str,x ≠ "__name__" -> mb x=bootBuiltins x
 nolimit:base.NoLimit
structure Cx where
 prog:Program
 w:World
 K:PySem.W.Frag
 mg:Str->Option Value
 base:Heap
 A:Around
 N:List Str
 s₀:Shared
 H₀:Hp
 env:Env
 outer:List Env
 stack:List Env
 ex:List Addr
 fn:Str->Bool
 calm:Bool
 pn:List (Addr×Obj)
 xe:Value->Shared->Prop
def vX(l:List Env):List Addr:=l.filterMap (·.frame)
abbrev Cx.fs(X:Cx):List Addr:=vX X.outer
def CS(sc:Scope)(x:Str):Prop:=sc.names.lookup x=some .local\/sc.names.lookup x=some .cell\/sc.names.lookup x=some .free
def Loc(sc:Scope)(x:Str):Prop:=sc.names.lookup x=some .local\/sc.names.lookup x=some .cell
def Look(env:Env)(h:Heap)(m:Str->Option Value)(x:Str)(u:Value):Prop :=
 (env.kindOf x=some .local/\m x=some u)\/((env.kindOf x=some .cell\/env.kindOf x=some .free)/\∃ c,env.cells.lookup x=some c/\h.IsCell c (some u))
structure Cx.Ok (X:Cx):Prop where
 mod:Mod X.K X.mg X.base
 kind:X.env.scope.kind=.function
 glob:X.env.globals=mainGlobals
 blt:X.env.builtins=builtinsNs
 above:X.s₀.heap.objs.size<=X.env.locals
 inj:∀ x y c,X.env.cells.lookup x=some c->X.env.cells.lookup y=some c->x=y
 has:∀ x,(X.env.kindOf x=some .cell\/X.env.kindOf x=some .free)->∃ c,X.env.cells.lookup x=some c
 Ji:∀ x c,X.fn x=true->X.env.cells.lookup x=some c->X.s₀.heap.objs.size<=c
 hd:X.calm=true->X.A.handled=none
 frames:X.A.frames=some X.stack
 J_:X.stack=X.outer\/(X.stack=X.env::X.outer/\X.env.frame=some X.env.locals)
 Kx:∀ b∈X.ex,b≠X.env.locals/\∀ x c,X.env.cells.lookup x=some c->c≠b
 bs:∀ b o,X.base.get? b=some o->X.s₀.heap.get? b=some o/\X.H₀ b=none
 Fg:X.base.objs.size<=X.s₀.heap.objs.size
 zE:∀ b o,X.base.get? b=some o->b ∉ X.ex
 Bk:∀ b∈X.ex,b ∉ X.fs
 n_:X.s₀.heap.FunFrames X.base X.outer
 HM:∀ b∈X.fs,X.H₀ b=none
structure Inv (X:Cx) (MG:List (Addr×Obj)) (σ:List (Option V)) (H:Hp) (s:Shared):Prop where
 ok:X.Ok
 os:s.os=X.s₀.os
 bare:AllBare s.gens
 base:Un X.fs X.ex X.H₀ H X.s₀.heap s.heap
 loc:∃ m,s.heap.Ns X.env.locals m/\∀ (i:Nat) (x:Str) (v:V),X.N[i]?=some x->σ[i]?=some (some v)->CS X.env.scope x->∃ u,RelV v u/\Look X.env s.heap m x u
 cell:∀ x c,X.env.cells.lookup x=some c->∃ v,s.heap.IsCell c v
 free:H X.env.locals=none
 kJ:∀ x c,X.env.cells.lookup x=some c->H c=none
 pin:∀ p∈X.pn++MG,s.heap.get? p.1=some p.2/\H p.1=none/\p.1≠X.env.locals/\p.1 ∉ X.fs/\∀ v,p.2.data≠.cell v
 bM:mU X.prog X.w H s.heap
 len:σ.length=X.N.length
section
variable{X:Cx}{MG:List (Addr×Obj)}{σ:List (Option V)}{H H':Hp}{s:Shared}{h':Heap}
theorem Cx.Ok.KR(ok:X.Ok){b:Addr}{o:Obj}(e:X.base.get? b=some o):b ∉ X.fs:=λhb=>by
 have:=(ok.n_.mem hb).1
 rw[e] at this;cases this
theorem Inv.bs(I:Inv X MG σ H s):∀ b o,X.base.get? b=some o->s.heap.get? b=some o/\H b=none:=λb o e =>
 ⟨I.base.keep b o (I.ok.bs b o e).1 (I.ok.bs b o e).2 (I.ok.KR e) (I.ok.zE b o e),I.base.free b o (I.ok.bs b o e).1 (I.ok.bs b o e).2 (I.ok.zE b o e)⟩
theorem Inv.bk(I:Inv X MG σ H s):∀ b o,X.base.get? b=some o->s.heap.get? b=some o:=λb o e=>(I.bs b o e).1
theorem Inv.mod(I:Inv X MG σ H s):Mod X.K X.mg X.base:=I.ok.mod
theorem Inv.jR(I:Inv X MG σ H s):X.K.In s.heap:=I.ok.mod.E5.keeps I.bk
theorem Inv.lt(I:Inv X MG σ H s):X.env.locals<s.heap.objs.size:=let ⟨_,hn,_⟩:=I.loc;hn.lt
theorem Inv.sz(I:Inv X MG σ H s):X.s₀.heap.objs.size<=s.heap.objs.size:=Nat.le_trans I.ok.above (Nat.le_of_lt I.lt)
theorem Inv.Ld(I:Inv X MG σ H s){a:Addr}(h:s.heap.objs.size<=a):a ∉ X.fs:=λhb=>by
 obtain⟨_,o,ho,_⟩:=I.ok.n_.mem hb
 exact absurd (Nat.lt_of_lt_of_le (Heap.lt_size ho) (Nat.le_trans I.sz h)) (Nat.lt_irrefl _)
theorem Inv.Hf(I:Inv X MG σ H s):∀ x c,X.env.cells.lookup x=some c->c≠X.env.locals:=λx c e z=>by
 obtain⟨v,o,ho,hd⟩:=I.cell x c e
 obtain⟨m,⟨o',es,ep,OD,Qi,_⟩,_⟩:=I.loc
 rw[z,OD] at ho;cases ho;rw[Qi] at hd;cases hd
theorem Inv.n_(I:Inv X MG σ H s):s.heap.FunFrames X.base X.outer:=by
 have all:∀ (l:List Env),(∀ b∈vX l,b∈X.fs)->X.s₀.heap.FunFrames X.base l->s.heap.FunFrames X.base l:=by
  intro l
  induction l with
  | nil=>intro _ _;trivial
  | cons env r ih =>
   intro hs hl
   obtain⟨hk,⟨L,o,hf,hn,ho,hd⟩,hr⟩:=hl
   have hL:L∈X.fs:=hs L (by unfold vX;rw[List.filterMap_cons,hf];exact List.mem_cons_self)
   obtain⟨sl,e⟩:=I.base.slot L o ho (I.ok.HM L hL) hL λz=>I.ok.Bk L z hL
   exact⟨hk,⟨L,_,hf,hn,e,hd⟩,ih (λb hb=>hs b (by unfold vX;rw[List.filterMap_cons,hf];exact List.mem_cons_of_mem _ hb)) hr⟩
 exact all X.outer (λ_ hb=>hb) I.ok.n_
theorem Inv.stack(I:Inv X MG σ H s):s.heap.FunFrames X.base X.stack:=by
 rcases I.ok.J_ with e | ⟨e,hf⟩
 ·rw[e];exact I.n_
 ·rw[e]
  obtain⟨m,hn,_⟩:=I.loc
  refine .cons (by rw[I.ok.kind];decide) hf hn ?_ I.n_
  exact Heap.get?_none_of_le (Nat.le_trans I.ok.Fg I.ok.above)
theorem Inv.sE(I:Inv X MG σ H s):∀ b∈vX X.stack,b∈X.env.locals::X.fs:=λb hb=>by
 rcases I.ok.J_ with e | ⟨e,hf⟩
 ·rw[e] at hb;exact List.mem_cons_of_mem _ hb
 ·rw[e] at hb
  unfold vX at hb
  rw[List.filterMap_cons,hf] at hb
  exact hb
theorem Inv.tJ(I:Inv X MG σ H s):∀ b∈vX X.stack,H b=none:=λb hb=>by
 rcases List.mem_cons.mp (I.sE b hb) with e | hb
 ·rw[e];exact I.free
 ·obtain⟨_,o,ho,_⟩:=I.ok.n_.mem hb
  exact I.base.free b o ho (I.ok.HM b hb) λz=>I.ok.Bk b z hb
theorem Inv.step{g':Array GenState}{t':Nat}{d':Drawn}{ch:List Addr}(I:Inv X MG σ H s)
  (Ow:∀ b∈ch,(b∈X.ex\/X.s₀.heap.objs.size<=b)/\b≠X.env.locals/\(∀ x c,X.env.cells.lookup x=some c->c≠b)/\∀ p∈X.pn++MG,p.1≠b)
  (keep:∀ b o,b≠X.env.locals->b ∉ X.fs->b ∉ ch->s.heap.get? b=some o->H b=none->h'.get? b=some o)
  (slot:∀ b o,b≠X.env.locals->b∈X.fs->b ∉ ch->s.heap.get? b=some o->H b=none->∃ sl,h'.get? b=some { o with slots:=sl }) (free:∀ b o,b ∉ ch->s.heap.get? b=some o->H b=none->H' b=none)
  (there:∀ b o,b ∉ ch->s.heap.get? b=some o->∃ o',h'.get? b=some o')
  (sG:∀ b xs,H b=some (.tup xs)->H' b=some (.tup xs)) (mD:∀ b o u,H b=some (.qB o u)->H' b=some (.qB o u)) (tf:∀ b ps,H b=some (.Fb ps)->∃ more,H' b=some (.Fb (ps++more)))
  (ns:∀ m,s.heap.Ns X.env.locals m->h'.Ns X.env.locals m) (bM:mU X.prog X.w H' h') (hg:AllBare g') :
  Inv X MG σ H' { s with heap:=h',gens:=g',drawn:=d',toks:=t' }:=by
 have neL:∀ b o,X.s₀.heap.get? b=some o->b≠X.env.locals:=λb o e=>Nat.ne_of_lt (Nat.lt_of_lt_of_le (Heap.lt_size e) I.ok.above)
 have neC:∀ b o,X.s₀.heap.get? b=some o->b ∉ X.ex->b ∉ ch:=λb o e hx hb=>by
  rcases(Ow b hb).1 with z | z
  ·exact hx z
  ·exact absurd (Nat.lt_of_lt_of_le (Heap.lt_size e) z) (Nat.lt_irrefl _)
 have cellK:∀ x c,X.env.cells.lookup x=some c->∀ v,s.heap.IsCell c v->h'.IsCell c v:=λx c e v ⟨o,ho,hd⟩=>by
  have QA:c ∉ ch:=λz=>(Ow c z).2.2.1 x c e rfl
  by_cases hc:c∈X.fs
  ·obtain⟨sl,q⟩:=slot c o (I.Hf x c e) hc QA ho (I.kJ x c e)
   exact⟨_,q,hd⟩
  ·exact⟨o,keep c o (I.Hf x c e) hc QA ho (I.kJ x c e),hd⟩
 refine⟨I.ok,I.os,hg,⟨λb o e n hb hx=>?_,λb o e n hb hx=>?_,λb o e n hx=>?_,λb o e hx=>?_,λb xs e=>sG b xs (I.base.sG b xs e),λb o xs e=>mD b o xs (I.base.mD b o xs e),λb ps e=>?_⟩,?_,λx c e=>?_,?_,λx c e=>?_,λp hp=>?_,bM,I.len⟩
 ·exact keep b o (neL b o e) hb (neC b o e hx) (I.base.keep b o e n hb hx) (I.base.free b o e n hx)
 ·obtain⟨sl,e1⟩:=I.base.slot b o e n hb hx
  obtain⟨sl',e2⟩:=slot b _ (neL b o e) hb (neC b o e hx) e1 (I.base.free b o e n hx)
  exact⟨sl',e2⟩
 ·obtain⟨o',e1⟩:=I.base.there b o e hx
  exact free b o' (neC b o e hx) e1 (I.base.free b o e n hx)
 ·obtain⟨o',e1⟩:=I.base.there b o e hx
  exact there b o' (neC b o e hx) e1
 ·obtain⟨m1,e1⟩:=I.base.tf b ps e
  obtain⟨m2,e2⟩:=tf b _ e1
  exact⟨m1++m2,by rw[e2,Array.append_assoc]⟩
 ·obtain⟨m,hn,hl⟩:=I.loc
  refine⟨m,ns m hn,λi x v e1 e2 e3=>?_⟩
  obtain⟨u,r,l⟩:=hl i x v e1 e2 e3
  refine⟨u,r,?_⟩
  rcases l with l | ⟨k,c,e,z⟩
  ·exact .inl l
  ·exact .inr ⟨k,c,e,cellK x c e _ z⟩
 ·obtain⟨v,z⟩:=I.cell x c e
  exact⟨v,cellK x c e v z⟩
 ·obtain⟨m,⟨o,_,_,ho,_⟩,_⟩:=I.loc
  exact free _ o (λz=>(Ow _ z).2.1 rfl) ho I.free
 ·obtain⟨v,o,ho,hd⟩:=I.cell x c e
  exact free c o (λz=>(Ow c z).2.2.1 x c e rfl) ho (I.kJ x c e)
 ·obtain⟨e,n,ne,nf,d⟩:=I.pin p hp
  have QA:p.1 ∉ ch:=λz=>(Ow p.1 z).2.2.2 p hp rfl
  exact⟨keep p.1 p.2 ne nf QA e n,free p.1 p.2 QA e n,ne,nf,d⟩
theorem Inv.un{t':Nat}(I:Inv X MG σ H s)(u:Un X.fs [] H H' s.heap h')(bM:mU X.prog X.w H' h'):Inv X MG σ H' { s with heap:=h',toks:=t' }:=by
 obtain⟨m,⟨o,es,ep,ho,r⟩,_⟩:=id I.loc
 obtain⟨sl,hL⟩:=u.any ho I.free (by simp)
 exact I.step (g':=s.gens) (d':=s.drawn) (ch:=[]) (λ_ z=>nomatch z) (λb o _ hb _ e n=>u.keep b o e n hb (by simp)) (λb o _ hb _ e n=>u.slot b o e n hb (by simp)) (λb o _ e n=>u.free b o e n (by simp)) (λb o _ e=>u.there b o e (by simp)) u.sG u.mD u.tf (λm' hm=>by
  obtain⟨o',es',ep',OD,r'⟩:=hm
  rw[ho] at OD;cases OD
  exact⟨_,es',ep',hL,r'⟩) bM I.bare
theorem Inv.call{g':Array GenState}{t':Nat}{d':Drawn}{ch:List Addr}(I:Inv X MG σ H s)(u:Un (vX X.stack) ch H H' s.heap h')(bM:mU X.prog X.w H' h')(hg:AllBare g')
  (Ow:∀ b∈ch,(b∈X.ex\/X.s₀.heap.objs.size<=b)/\b≠X.env.locals/\(∀ x c,X.env.cells.lookup x=some c->c≠b)/\∀ p∈X.pn++MG,p.1≠b) :
  Inv X MG σ H' { s with heap:=h',gens:=g',drawn:=d',toks:=t' }:=by
 obtain⟨m,⟨o,es,ep,ho,r⟩,_⟩:=id I.loc
 obtain⟨sl,hL⟩:=u.any ho I.free λz=>(Ow _ z).2.1 rfl
 exact I.step (ch:=ch) Ow (λb o hL hb hc e n=>u.keep b o e n (λz=>(List.mem_cons.mp (I.sE b z)).elim hL hb) hc) (λb o _ _ hc e n=>u.any e n hc) (λb o hc e n=>u.free b o e n hc) (λb o hc e=>u.there b o e hc) u.sG u.mD u.tf (λm' hm=>by
  obtain⟨o',es',ep',OD,r'⟩:=hm
  rw[ho] at OD;cases OD
  exact⟨_,es',ep',hL,r'⟩) bM hg
theorem Inv.turned{t':Nat}{it:Addr}(I:Inv X MG σ H s)(k:∀ b o,b≠it->s.heap.get? b=some o->h'.get? b=some o)(hn:H it=none)(hL:it≠X.env.locals)
  (h1:it∈X.ex\/X.s₀.heap.objs.size<=it) (h2:∀ x c,X.env.cells.lookup x=some c->c≠it) (h3:∀ p∈X.pn++MG,p.1≠it):Inv X MG σ H { s with heap:=h',toks:=t' }:=by
 have nit:∀ b u,H b=some u->b≠it:=λb u e z=>by rw[z,hn] at e;cases e
 refine I.step (g':=s.gens) (d':=s.drawn) (ch:=[it]) (λb hb=>?_) (λb o _ _ hc e _=>k b o (λz=>hc (by simp[z])) e) (λb o _ _ hc e _=>⟨o.slots,k b o (λz=>hc (by simp[z])) e⟩) (λ_ _ _ _ n=>n)
  (λb o hc e=>⟨o,k b o (λz=>hc (by simp[z])) e⟩) (λ_ _ e=>e) (λ_ _ _ e=>e) (λb ps e=>⟨#[],by rw[e];simp⟩) (λm hm=>?_) (λb u e=>?_) I.bare
 ·have e:b=it:=by simpa using hb
  subst e
  exact⟨h1,hL,h2,h3⟩
 ·obtain⟨o,es,ep,ho,r⟩:=hm
  exact⟨o,es,ep,k _ o (Ne.symm hL) ho,r⟩
 ·refine(I.bM b u e).nO (λc v hc q=>k c v ?_ q) (λ_ q=>q) λ_ _ q=>q
  rcases hc with z | z
  ·rw[z];exact nit b u e
  ·exact nit c _ z
theorem Inv.tok(I:Inv X MG σ H s)(t:Nat):Inv X MG σ H { s with toks:=t }:=I.un (h':=s.heap) (t':=t) Un.refl I.bM
theorem Inv.kept{t':Nat}(I:Inv X MG σ H s)(k:∀ b u,s.heap.get? b=some u->h'.get? b=some u):Inv X MG σ H { s with heap:=h',toks:=t' }:=I.un (Un.kept k) (I.bM.kept k)
theorem Inv.laid{a:Addr}{o:HO}{t':Nat}(I:Inv X MG σ H s)(k:∀ b u,s.heap.get? b=some u->h'.get? b=some u)(hp:s.heap.objs.size<=a)(new:cw X.prog X.w (upd H a o) h' a o) :
  Inv X MG σ (upd H a o) { s with heap:=h',toks:=t' }:=I.un (Un.laid k hp (I.bM.fresh hp)) (I.bM.laid k hp new)
theorem Inv.write{x e:Addr}{o:HO}{t':Nat}(I:Inv X MG σ H s)(mu:Kh (H x))(he:e=x\/H e=some (.own x))(k:∀ b u,b≠e->s.heap.get? b=some u->h'.get? b=some u)(P7:∃ u,h'.get? e=some u)
  (new:cw X.prog X.w (upd H x o) h' x o):Inv X MG σ (upd H x o) { s with heap:=h',toks:=t' }:=I.un (Un.write mu he k P7) (I.bM.write mu he k P7 new)
theorem Inv.xS{Pm:List (Addr×Obj)}(I:Inv X MG σ H s)(h:∀ p∈Pm,s.heap.get? p.1=some p.2/\H p.1=none/\p.1≠X.env.locals/\p.1 ∉ X.fs/\∀ v,p.2.data≠.cell v):Inv X Pm σ H s :=
 ⟨I.ok,I.os,I.bare,I.base,I.loc,I.cell,I.free,I.kJ,λp hp=>(List.mem_append.mp hp).elim (λz=>I.pin p (List.mem_append_left _ z)) (h p),I.bM,I.len⟩
theorem uB{N:List Str}(hN:N.Nodup){i j:Nat}{x:Str}(a:N[i]?=some x)(b:N[j]?=some x):i=j:=by
 obtain⟨h1,e1⟩:=List.getElem?_eq_some_iff.mp a
 obtain⟨h2,e2⟩:=List.getElem?_eq_some_iff.mp b
 exact(List.getElem_inj hN).mp (e1.trans e2.symm)
theorem rE{M:Model}{A:Around}{E:Value->Shared->Prop}{i:Nat}{x:Str}{v:V}{u:Value}{Q:Unit->Shared->Prop}(I:Inv X MG σ H s)(hN:X.N.Nodup)(hi:X.N[i]?=some x)(hx:Loc X.env.scope x)(r:RelV v u)
  (h:∀ s',Inv X MG (σ.set i (some v)) H s'->(∃ a,Heap.SameBut a s.heap s'.heap/\(a=X.env.locals\/X.env.cells.lookup x=some a))->Q () s') (hf:autoParam (X.fn x=true\/X.env.scope.names.lookup x=some .local) aF._auto_1):wpAny M A (storeName X.env x u) Q E s:=by
 obtain⟨m,hn,hl⟩:=id I.loc
 have hcls:(X.env.scope.kind==.class||(X.env.scope.kind==.module&&X.env.locals != X.env.globals))=false:=by rw[I.ok.kind];rfl
 have hiσ:i<σ.length:=by rw[I.len];exact(List.getElem?_eq_some_iff.mp hi).1
 have Hf:=I.Hf
 have tracked:∀ {a:Addr} {h':Heap},(∃ o,s.heap.get? a=some o/\H a=none)->Heap.SameBut a s.heap h'->mU X.prog X.w H h':=λ{a h'} ha hs b ob e=>by
  obtain⟨_,_,OO⟩:=ha
  refine(I.bM b ob e).nO (λc w' hc q=>(hs.2 c ?_).trans q) (λ_ q=>q) λ_ _ q=>q
  rintro rfl
  rcases hc with rfl | hc
  ·rw[OO] at e;cases e
  ·rw[OO] at hc;cases hc
 rcases hx with hk | hk
 ·refine wpAny_storeName_local hk hn (λh' hn' hs=>?_) hcls
  obtain⟨oL,_,_,hoL,_⟩:=id hn
  refine h _ ⟨I.ok,I.os,I.bare,⟨λb o e n hb hx=>?_,λb o e n hb hx=>?_,I.base.free,λb o e hx=>?_,I.base.sG,I.base.mD,I.base.tf⟩,⟨_,hn',λj y v' e1 e2 e3=>?_⟩,λy c e=>?_,I.free,I.kJ,λp hp=>?_,tracked ⟨oL,hoL,I.free⟩ hs,by simpa using I.len⟩ ⟨_,hs,.inl rfl⟩
  ·exact(hs.2 b (Nat.ne_of_lt (Nat.lt_of_lt_of_le (Heap.lt_size e) I.ok.above))).trans (I.base.keep b o e n hb hx)
  ·obtain⟨sl,e1⟩:=I.base.slot b o e n hb hx
   exact⟨sl,(hs.2 b (Nat.ne_of_lt (Nat.lt_of_lt_of_le (Heap.lt_size e) I.ok.above))).trans e1⟩
  ·obtain⟨o',e1⟩:=I.base.there b o e hx
   exact⟨o',(hs.2 b (Nat.ne_of_lt (Nat.lt_of_lt_of_le (Heap.lt_size e) I.ok.above))).trans e1⟩
  ·by_cases hj:j=i
   ·subst hj
    rw[hi] at e1;cases e1
    rw[List.getElem?_set_self hiσ] at e2
    cases e2
    exact⟨u,r,.inl ⟨hk,by simp⟩⟩
   ·rw[List.getElem?_set_ne (Ne.symm hj)] at e2
    obtain⟨u',r',q⟩:=hl j y v' e1 e2 e3
    refine⟨u',r',?_⟩
    rcases q with ⟨k,e⟩ | ⟨k,c,e,z⟩
    ·refine .inl ⟨k,?_⟩
     have:y≠x:=λe=>hj (uB hN e1 (e▸hi))
     simp[this,e]
    ·exact .inr ⟨k,c,e,z.sameBut hs (Hf y c e)⟩
  ·obtain⟨w',z⟩:=I.cell y c e
   exact⟨w',z.sameBut hs (Hf y c e)⟩
  ·obtain⟨e,n,ne,nf,d⟩:=I.pin p hp
   exact⟨(hs.2 p.1 ne).trans e,n,ne,nf,d⟩
 ·have hfn:X.fn x=true:=by
   rcases hf with z | z
   ·exact z
   ·rw[z] at hk;cases hk
  obtain⟨c,hc⟩:=I.ok.has x (.inl hk)
  obtain⟨w',z⟩:=I.cell x c hc
  refine wpAny_storeName_cell I.ok.kind hk hc z (λh' Pt hs=>?_)
  obtain⟨oc,hoc,hocd⟩:=id z
  refine h { s with heap:=h' } ⟨I.ok,I.os,I.bare,⟨λb o e n hb hx=>?_,λb o e n hb hx=>?_,I.base.free,λb o e hx=>?_,I.base.sG,I.base.mD,I.base.tf⟩,⟨m,hn.sameBut hs (Ne.symm (Hf x c hc)),λj y v' e1 e2 e3=>?_⟩,λy c' e=>?_,I.free,I.kJ,λp hp=>?_,tracked ⟨oc,hoc,I.kJ x c hc⟩ hs,by simpa using I.len⟩ ⟨c,hs,.inr hc⟩
  ·exact(hs.2 b (Nat.ne_of_lt (Nat.lt_of_lt_of_le (Heap.lt_size e) (I.ok.Ji x c hfn hc)))).trans (I.base.keep b o e n hb hx)
  ·obtain⟨sl,e1⟩:=I.base.slot b o e n hb hx
   exact⟨sl,(hs.2 b (Nat.ne_of_lt (Nat.lt_of_lt_of_le (Heap.lt_size e) (I.ok.Ji x c hfn hc)))).trans e1⟩
  ·obtain⟨o',e1⟩:=I.base.there b o e hx
   exact⟨o',(hs.2 b (Nat.ne_of_lt (Nat.lt_of_lt_of_le (Heap.lt_size e) (I.ok.Ji x c hfn hc)))).trans e1⟩
  ·by_cases hj:j=i
   ·subst hj
    rw[hi] at e1;cases e1
    rw[List.getElem?_set_self hiσ] at e2
    cases e2
    exact⟨u,r,.inr ⟨.inl hk,c,hc,Pt⟩⟩
   ·rw[List.getElem?_set_ne (Ne.symm hj)] at e2
    obtain⟨u',r',q⟩:=hl j y v' e1 e2 e3
    refine⟨u',r',?_⟩
    rcases q with q | ⟨k,c',e,z'⟩
    ·exact .inl q
    ·refine .inr ⟨k,c',e,z'.sameBut hs ?_⟩
     rintro rfl
     exact hj (uB hN e1 (I.ok.inj _ _ _ e hc▸hi))
  ·by_cases hcc:c'=c
   ·subst hcc;exact⟨_,Pt⟩
   ·obtain⟨w2,z2⟩:=I.cell y c' e
    exact⟨w2,z2.sameBut hs hcc⟩
  ·obtain⟨e,n,ne,nf,d⟩:=I.pin p hp
   refine⟨(hs.2 p.1 ?_).trans e,n,ne,nf,d⟩
   intro q
   rw[q,hoc] at e
   have q':oc=p.2:=Option.some.inj e
   exact d w' (by rw[← q'];exact hocd)
theorem k_{M:Model}{A:Around}{E:Value->Shared->Prop}{i:Nat}{x:Str}{v:V}{u:Value}{Q:Unit->Shared->Prop}(I:Inv X MG σ H s)(hN:X.N.Nodup)(hi:X.N[i]?=some x)(hx:Loc X.env.scope x)(r:RelV v u)
  (h:∀ s',Inv X MG (σ.set i (some v)) H s'->Q () s') (hf:autoParam (X.fn x=true\/X.env.scope.names.lookup x=some .local) aF._auto_1):wpAny M A (storeName X.env x u) Q E s :=
 rE I hN hi hx r (λs' I' _=>h s' I') hf
theorem Inv.A_{s':Shared}{ch:List Addr}(I:Inv X MG σ H s)(ho:s'.os=s.os)(u:Un (vX X.stack) ch H H' s.heap s'.heap)(bM:mU X.prog X.w H' s'.heap)(hg:AllBare s'.gens)
  (Ow:∀ b∈ch,(b∈X.ex\/X.s₀.heap.objs.size<=b)/\b≠X.env.locals/\(∀ x c,X.env.cells.lookup x=some c->c≠b)/\∀ p∈X.pn++MG,p.1≠b):Inv X MG σ H' s':=by
 obtain⟨h',g',d',t',o'⟩:=s'
 have e:o'=s.os:=ho
 subst e
 exact I.call (g':=g') (t':=t') (d':=d') u bM hg Ow
end
abbrev XK:=Value->Option Addr->Hp->Prop
abbrev St:=List (Option V)
abbrev VK:=V->Hp->Prop
abbrev TE:=St->Hp->VK->Prop
abbrev TT:=St->Hp->(Bool->Hp->Prop)->Prop
abbrev TA:=St->Hp->(List V->Hp->Prop)->Prop
structure Ends where
 nx:St->Hp->Prop
 rt:VK
 bk:St->Hp->Prop:=λ_ _=>False
 ct:St->Hp->Prop:=λ_ _=>False
abbrev TS:=Ends->St->Hp->Prop
def EP(X:Cx)(MG:List (Addr×Obj))(σ:St)(Q:VK)(u:Value)(s':Shared):Prop:=∃ v H',Inv X MG σ H' s'/\RelV v u/\Q v H'
def TP(X:Cx)(MG:List (Addr×Obj))(σ:St)(Q:Bool->Hp->Prop)(b:Bool)(s':Shared):Prop:=∃ H',Inv X MG σ H' s'/\Q b H'
def AP(X:Cx)(MG:List (Addr×Obj))(σ:St)(Q:List V->Hp->Prop)(us:List Value)(s':Shared):Prop:=∃ vs H',Inv X MG σ H' s'/\Vals vs us/\Q vs H'
def SP(X:Cx)(MG:List (Addr×Obj))(D:Ends)(f:Flow)(s':Shared):Prop :=
 match f with
 | .next=>∃ σ' H',Inv X MG σ' H' s'/\D.nx σ' H'
 | .brk=>∃ σ' H',Inv X MG σ' H' s'/\D.bk σ' H'
 | .cont=>∃ σ' H',Inv X MG σ' H' s'/\D.ct σ' H'
 | .ret u=>∃ v σ' H',Inv X MG σ' H' s'/\RelV v u/\D.rt v H'
def PE(X:Cx)(e:Expr)(t:TE):Prop :=
 ∀ (MG:List (Addr×Obj)) (s:Shared) (σ:St) (H:Hp) (Q:VK),Inv X MG σ H s->t σ H Q->wpAny (model X.prog X.w) X.A (eval e X.env) (EP X MG σ Q) X.xe s
def PT(X:Cx)(e:Expr)(t:TT):Prop :=
 ∀ (MG:List (Addr×Obj)) (s:Shared) (σ:St) (H:Hp) (Q:Bool->Hp->Prop),Inv X MG σ H s->t σ H Q->wpAny (model X.prog X.w) X.A (isTrue e X.env (eval e X.env)) (TP X MG σ Q) X.xe s
def PW(X:Cx)(e:Expr)(t:TT):Prop :=
 ∀ (whole:Sem Value) (MG:List (Addr×Obj)) (s:Shared) (σ:St) (H:Hp) (Q:Bool->Hp->Prop),Inv X MG σ H s->t σ H Q->wpAny (model X.prog X.w) X.A (isTrue e X.env whole) (TP X MG σ Q) X.xe s
theorem PW.pt{X:Cx}{e:Expr}{t:TT}(h:PW X e t):PT X e t:=h _
def PA(X:Cx)(es:List Expr)(t:TA):Prop :=
 ∀ (pos:Pos) (MG:List (Addr×Obj)) (s:Shared) (σ:St) (H:Hp) (Q:List V->Hp->Prop),Inv X MG σ H s->t σ H Q->wpAny (model X.prog X.w) X.A (spliced (backTo pos (starEach es X.env))) (AP X MG σ Q) X.xe s
def PS(X:Cx)(st:Stmt)(t:TS):Prop :=
 ∀ (MG:List (Addr×Obj)) (s:Shared) (σ:St) (H:Hp) (D:Ends),Inv X MG σ H s->t D σ H->wpAny (model X.prog X.w) X.A (exec st X.env) (SP X MG D) X.xe s
def lZ(X:Cx)(st:List Stmt)(t:TS):Prop :=
 ∀ (MG:List (Addr×Obj)) (s:Shared) (σ:St) (H:Hp) (D:Ends),Inv X MG σ H s->t D σ H->wpAny (model X.prog X.w) X.A (execs st X.env) (SP X MG D) X.xe s
theorem c6{α:Type}{t:Sem α}{Q Q':α->Shared->Prop}{M:Model}{A:Around}{E:Value->Shared->Prop}{s:Shared}(h:wpAny M A t Q E s)(hQ:∀ a s,Q a s->Q' a s):wpAny M A t Q' E s:=wpAny_mono h hQ λ_ _ x=>x
end L2
namespace L2
open PySem PySem.Spec PyProof.Rows
section
variable{X:Cx}
def LG(i:Nat):TE:=fun σ H Q=>∃ v,σ[i]?=some (some v)/\Q v H
def tC(v:V):TE:=λ_ H Q=>Q v H
theorem mw{i:Nat}{x:Str}{pos:Pos}(hN:X.N[i]?=some x)(hv:CS X.env.scope x)(hd:autoParam ((x==("__debug__" : Str))=false) aD._auto_1)(N2:autoParam ((x==("__classdict__" : Str))=false) aD._auto_1):PE X (.Name x pos) (LG i):=by
 intro MG s σ H Q I h
 obtain⟨v,e,h⟩:=h
 obtain⟨m,hn,hl⟩:=I.loc
 obtain⟨u,r,l⟩:=hl i x v hN e hv
 have fin:EP X MG σ Q u s:=⟨v,H,I,r,h⟩
 rcases l with ⟨hk,hm⟩ | ⟨hk,c,hc,ON⟩
 ·exact wpAny_Name (wpAny_loadName_local I.ok.kind hk hn hm fin) hd
 ·rcases hk with hk | hk
  ·exact wpAny_Name (wpAny_loadName_cell I.ok.kind hk hc ON fin) hd
  ·exact wpAny_Name (wpAny_loadName_free I.ok.kind hk hc ON fin N2) hd
theorem Fy{i j pos}:PE X (.Constant (.int i) j pos) (tC (.int i)):=λ_ _ _ H _ I h=>wpAny_Constant_int ⟨.int i,H,I.tok _,⟨_,rfl⟩,h⟩
theorem Jb{b j pos}:PE X (.Constant (.bool b) j pos) (tC (.bl b)):=λ_ _ _ H _ I h=>Constant_bool ⟨.bl b,H,I,rfl,h⟩
theorem Hu{j pos}:PE X (.Constant .none j pos) (tC .cR):=λ_ _ _ H _ I h=>Constant_none ⟨.cR,H,I,rfl,h⟩
theorem GQ{x j pos}:PE X (.Constant (.str x) j pos) (tC (.str x)):=λ_ _ _ H _ I h=>Calls.Constant_str ⟨.str x,H,I.tok _,⟨_,rfl⟩,h⟩
def Gl(X:Cx)(x:Str):Prop:=X.env.kindOf x=some .globalImplicit
theorem lu{E:Value->Shared->Prop}{MG:List (Addr×Obj)}{s:Shared}{σ:St}{H:Hp}{x:Str}{u:Value}{pos:Pos}{Q:Value->Shared->Prop}(I:Inv X MG σ H s)(hg:Gl X x)(hm:X.mg x=some u)(h:Q u s)
  (hd:autoParam ((x==("__debug__" : Str))=false) aD._auto_1):wpAny (model X.prog X.w) X.A (eval (.Name x pos) X.env) Q E s :=
 Calls.Name_function_global I.ok.kind hg (Calls.loadGlobal_global (by rw[I.ok.glob];exact I.mod.glob.keeps I.bk) hm h) hd
theorem jH{E:Value->Shared->Prop}{MG:List (Addr×Obj)}{s:Shared}{σ:St}{H:Hp}{x:Str}{u:Value}{pos:Pos}{Q:Value->Shared->Prop}(I:Inv X MG σ H s)(hg:Gl X x)(hm:X.mg x=none)(hv:bootBuiltins x=some u)(h:Q u s)
  (hn:autoParam (x ≠ "__name__") aD._auto_1) (hd:autoParam ((x==("__debug__" : Str))=false) aD._auto_1):wpAny (model X.prog X.w) X.A (eval (.Name x pos) X.env) Q E s:=by
 obtain⟨mb,h1,h2⟩:=I.mod.blt
 exact Calls.Name_function_global I.ok.kind hg (Calls.loadGlobal_builtin (by rw[I.ok.glob];exact I.mod.glob.keeps I.bk) hm (by rw[I.ok.blt];exact h1.keeps I.bk) ((h2 x hn).trans hv) h) hd
theorem EA{x:Str}{v:V}{u:Value}{pos:Pos}(hg:Gl X x)(hm:X.mg x=some u)(r:RelV v u)(hd:autoParam ((x==("__debug__" : Str))=false) aD._auto_1):PE X (.Name x pos) (tC v) :=
 λ_ _ _ H _ I h=>lu I hg hm ⟨v,H,I,r,h⟩ hd
theorem jo{x:Str}{v:V}{u:Value}{pos:Pos}(hg:Gl X x)(hm:X.mg x=none)(hv:bootBuiltins x=some u)(r:RelV v u)(hn:autoParam (x ≠ "__name__") aD._auto_1)(hd:autoParam ((x==("__debug__" : Str))=false) aD._auto_1):PE X (.Name x pos) (tC v) :=
 λ_ _ _ H _ I h=>jH I hg hm hv ⟨v,H,I,r,h⟩ hn hd
variable{a b:Expr}{ta tb:TE}{pos:Pos}
def tB(t:TE):TT:=fun σ H Q=>t σ H λx H1=>∃ c,x=.bl c/\Q c H1
theorem F5{e:Expr}{t:TE}(h:PE X e t)(he:autoParam (∀ whole,isTrue e X.env whole=(do let v ← whole;standAt e.pos;holding [v] (truthy v))) aI._auto_1):PT X e (tB t):=by
 intro MG s σ H Q I hw
 refine isTrue_plain (c6 (h MG s σ H _ I hw) λv s1 ⟨x,H1,I1,r1,q1⟩=>?_) (he _)
 obtain⟨d,rfl,q⟩:=q1
 cases r1
 exact wpAny_truthy_bool ⟨H1,I1,q⟩
variable{tA tB':TT}{rest:List Expr}
def Mh(t u:TT):TT:=fun σ H Q=>t σ H λc H1=>if c=true then Q true H1 else u σ H1 Q
def LJ(t:TT):TT:=fun σ H Q=>t σ H λc H1=>Q (!c) H1
theorem pw_or1(ha:PT X a tA):PW X (.BoolOp .Or [a] pos) tA:=by
 intro wh MG s σ H Q I h
 refine isTrue_or (c6 (ha MG s σ H Q I h) λc s1 e=>?_)
 cases c with
 | false=>exact isTrue_or_nil e
 | true=>exact e
theorem pw_or(ha:PT X a tA)(hb:PW X (.BoolOp .Or (b::rest) pos) tB'):PW X (.BoolOp .Or (a::b::rest) pos) (Mh tA tB'):=by
 intro wh MG s σ H Q I h
 refine isTrue_or (c6 (ha MG s σ H _ I h) λc s1 ⟨H1,I1,q1⟩=>?_)
 cases c with
 | true=>exact⟨H1,I1,q1⟩
 | false=>exact hb wh MG s1 σ H1 Q I1 q1
theorem HZ(ha:PT X a tA):PT X (.UnaryOp .Not a pos) (LJ tA):=by
 intro MG s σ H Q I h
 exact isTrue_not (ha MG s σ H (λc H1=>Q (!c) H1) I h)
def Jx(ta tb:TE):TE:=fun σ H Q=>ta σ H λx H1=>∃ c,x=.bl c/\if c=true then tb σ H1 Q else Q (.bl false) H1
def Jg(ta:TE):TE:=fun σ H Q=>ta σ H λx H1=>∃ c,x=.bl c/\Q (.bl (!c)) H1
theorem tj{op}{t:TE}(h:PE X a t):PE X (.BoolOp op [a] pos) t:=λMG s σ H Q I hw=>BoolOp_one (h MG s σ H Q I hw)
theorem Gq(ha:PE X a ta)(hb:PE X (.BoolOp .And (b::rest) pos) tb):PE X (.BoolOp .And (a::b::rest) pos) (Jx ta tb):=by
 intro MG s σ H Q I h
 refine BoolOp_and (c6 (ha MG s σ H _ I h) λv s1 ⟨x,H1,I1,r1,q1⟩=>?_)
 obtain⟨c,rfl,q1⟩:=q1
 cases r1
 refine wpAny_truthy_bool ?_
 cases c with
 | true=>exact hb MG s1 σ H1 Q I1 q1
 | false=>exact⟨.bl false,H1,I1,rfl,q1⟩
theorem Gy(ha:PE X a ta):PE X (.UnaryOp .Not a pos) (Jg ta):=by
 intro MG s σ H Q I h
 refine UnaryOp_ (c6 (ha MG s σ H _ I h) λv s1 ⟨x,H1,I1,r1,q1⟩=>?_)
 obtain⟨c,rfl,q1⟩:=q1
 cases r1
 exact not_of (wpAny_truthy_bool ⟨.bl (!c),H1,I1,rfl,q1⟩)
def Mj(t:TT)(ta tb:TE):TE:=fun σ H Q=>t σ H λc H1=>if c=true then ta σ H1 Q else tb σ H1 Q
theorem BG{c:Expr}(hc:PT X c tA)(ha:PE X a ta)(hb:PE X b tb):PE X (.IfExp c a b pos) (Mj tA ta tb):=by
 intro MG s σ H Q I h
 refine wpAny_IfExp (c6 (hc MG s σ H _ I h) λd s1 ⟨H1,I1,q1⟩=>?_)
 cases d with
 | true=>exact ha MG s1 σ H1 Q I1 q1
 | false=>exact hb MG s1 σ H1 Q I1 q1
end
end L2
namespace L2
open PySem PySem.Spec PyProof.Rows
def ir(K:PySem.W.Frag)(H:Hp)(a:Addr)(xs:List V):Prop :=
 Rd H a (.lst xs) ∨
  ∃ (o:Obj) (MJ:Array Value) (n:Nat),K.lookup a=some o/\o.cls=.type "list" /\ o.dict=none/\o.data=.seq MJ n/\MJ.size<=sizeLine/\Vals xs MJ.toList
def h_(K:PySem.W.Frag)(H:Hp)(a:Addr)(xs:List V):Prop :=
 Rd H a (.tup xs) ∨
  ∃ (o:Obj) (MJ:Array Value) (n:Nat),K.lookup a=some o/\o.cls=.type "tuple" /\ o.data=.seq MJ n/\MJ.size<=sizeLine/\Vals xs MJ.toList
def Lq:Value->Option V
 | .none=>some .cR
 | .bool b=>some (.bl b)
 | .int i _=>some (.int i)
 | .str x _=>some (.str x)
 | .bytes b _=>some (.byt b)
 | .float b _=>some (.E6 b)
 | .ref a=>some (.ref a)
 | .type n=>some (.ty n)
 | _=>none
theorem RelV.abs{x:V}{u:Value}(r:RelV x u):Lq u=some x:=by
 cases x with
 | cR=>cases r;rfl
 | bl _=>cases r;rfl
 | int _=>obtain⟨t,rfl⟩:=r;rfl
 | str _=>obtain⟨t,rfl⟩:=r;rfl
 | byt _=>obtain⟨t,rfl⟩:=r;rfl
 | E6 _=>obtain⟨t,rfl⟩:=r;rfl
 | ref _=>cases r;rfl
 | ty _=>cases r;rfl
theorem RelV.inj{x y:V}{u:Value}(r:RelV x u)(q:RelV y u):x=y:=Option.some.inj (r.abs.symm.trans q.abs)
theorem Vals.inj:∀ {xs ys:List V} {us:List Value},Vals xs us->Vals ys us->xs=ys
 | _,_,_,.nil,.nil=>rfl
 | _,_,_,.cons r t,.cons r' t'=>by rw[r.inj r',Vals.inj t t']
section
variable{X:Cx}{MG:List (Addr×Obj)}{σ:St}{H:Hp}{s:Shared}{a:Addr}{xs ys:List V}
theorem ir.of{K:PySem.W.Frag}(h:H a=some (.lst xs)):ir K H a xs:=.inl (.inl h)
theorem h_.of{K:PySem.W.Frag}(h:H a=some (.tup xs)):h_ K H a xs:=.inl (.inl h)
theorem Inv.list(I:Inv X MG σ H s)(h:ir X.K H a xs):∃ MJ:List Value,Vals xs MJ/\PlainL s.heap a MJ.toArray/\xs.length<=sizeLine:=by
 rcases h with h | ⟨o,MJ,n,hk,hc,hd,hs,hz,r⟩
 ·obtain⟨z,MJ,n,r,e⟩:=h.ok I.bM
  exact⟨MJ,r,⟨_,n,e,rfl,rfl,rfl⟩,z⟩
 ·refine⟨MJ.toList,r,⟨o,n,I.jR a o hk,hc,hd,by simpa using hs⟩,?_⟩
  have e:=r.length
  simp only[Array.length_toList] at e
  omega
theorem Inv.tuple(I:Inv X MG σ H s)(h:h_ X.K H a xs):∃ MJ:List Value,Vals xs MJ/\IsTup s.heap a MJ.toArray/\xs.length<=sizeLine:=by
 rcases h with h | ⟨o,MJ,n,hk,hc,hs,hz,r⟩
 ·obtain⟨z,MJ,r,p⟩:=h.ok I.bM
  exact⟨MJ,r,p,z⟩
 ·refine⟨MJ.toList,r,⟨o,I.jR a o hk,hc,n,by simpa using hs⟩,?_⟩
  have e:=r.length
  simp only[Array.length_toList] at e
  omega
theorem Inv.pV(I:Inv X MG σ H s)(h:ir X.K H a xs)(h':ir X.K H a ys):xs=ys:=by
 obtain⟨MJ,r,⟨o,n,e,_,_,d⟩,_⟩:=I.list h
 obtain⟨its',r',⟨o',n',e',_,_,d'⟩,_⟩:=I.list h'
 rw[e] at e';cases e'
 rw[d] at d'
 injection d' with d1 _
 have:MJ=its':=by simpa using congrArg Array.toList d1
 subst this
 exact r.inj r'
theorem Inv.mx(I:Inv X MG σ H s)(h:h_ X.K H a xs)(h':h_ X.K H a ys):xs=ys:=by
 obtain⟨MJ,r,⟨o,e,_,n,d⟩,_⟩:=I.tuple h
 obtain⟨its',r',⟨o',e',_,n',d'⟩,_⟩:=I.tuple h'
 rw[e] at e';cases e'
 rw[d] at d'
 injection d' with d1 _
 have:MJ=its':=by simpa using congrArg Array.toList d1
 subst this
 exact r.inj r'
end
abbrev Cx.qK(X:Cx)(E:Value->Shared->Prop):Cx:={ X with xe:=E }
theorem Cx.Ok.qK{X:Cx}(ok:X.Ok)(E:Value->Shared->Prop):(X.qK E).Ok :=
 ⟨ok.mod,ok.kind,ok.glob,ok.blt,ok.above,ok.inj,ok.has,ok.Ji,ok.hd,ok.frames,ok.J_,ok.Kx,ok.bs,ok.Fg,ok.zE,ok.Bk,ok.n_,ok.HM⟩
theorem Cx.Ok.iN{X:Cx}{E:Value->Shared->Prop}(ok:(X.qK E).Ok):X.Ok :=
 ⟨ok.mod,ok.kind,ok.glob,ok.blt,ok.above,ok.inj,ok.has,ok.Ji,ok.hd,ok.frames,ok.J_,ok.Kx,ok.bs,ok.Fg,ok.zE,ok.Bk,ok.n_,ok.HM⟩
section
variable{X:Cx}{MG:List (Addr×Obj)}{σ:St}{H:Hp}{s:Shared}{E:Value->Shared->Prop}
theorem Inv.qK(I:Inv X MG σ H s)(E:Value->Shared->Prop):Inv (X.qK E) MG σ H s:=⟨I.ok.qK E,I.os,I.bare,I.base,I.loc,I.cell,I.free,I.kJ,I.pin,I.bM,I.len⟩
theorem Inv.iN(I:Inv (X.qK E) MG σ H s):Inv X MG σ H s:=⟨I.ok.iN,I.os,I.bare,I.base,I.loc,I.cell,I.free,I.kJ,I.pin,I.bM,I.len⟩
theorem SP.iN{D:Ends}{f:Flow}{s':Shared}(h:SP (X.qK E) MG D f s'):SP X MG D f s':=by
 cases f with
 | next=>obtain⟨σ',H',I,q⟩:=h;exact⟨σ',H',I.iN,q⟩
 | brk=>obtain⟨σ',H',I,q⟩:=h;exact⟨σ',H',I.iN,q⟩
 | cont=>obtain⟨σ',H',I,q⟩:=h;exact⟨σ',H',I.iN,q⟩
 | ret u=>obtain⟨v,σ',H',I,r,q⟩:=h;exact⟨v,σ',H',I.iN,r,q⟩
end
section
variable{X:Cx}{st:Stmt}{rest:List Stmt}{t u:TS}{e:Expr}{te:TE}{pos:Pos}
def JI:TS:=λD σ H=>D.nx σ H
def LY(t u:TS):TS:=λD σ H=>t { D with nx:=u D } σ H
theorem EC:lZ X [] JI:=λ_ _ σ H _ I h=>wpAny_execs_nil ⟨σ,H,I,h⟩
theorem AB(h1:PS X st t)(h2:lZ X rest u):lZ X (st::rest) (LY t u):=by
 intro MG s σ H D I h
 refine wpAny_execs_cons (c6 (h1 MG s σ H { D with nx:=u D } I h) λf s1 q=>?_)
 cases f with
 | next =>
  obtain⟨σ',H',I',q⟩:=q
  exact h2 MG s1 σ' H' D I' q
 | ret v=>exact q
 | brk=>exact q
 | cont=>exact q
theorem DC(h1:PS X st t):lZ X [st] t:=by
 intro MG s σ H D I h
 refine wpAny_execs_cons (c6 (h1 MG s σ H D I h) λf s1 q=>?_)
 cases f with
 | next=>exact wpAny_execs_nil q
 | ret v=>exact q
 | brk=>exact q
 | cont=>exact q
theorem Inv.quiet{MG:List (Addr×Obj)}{σ:St}{H:Hp}{s:Shared}(I:Inv X MG σ H s):interactive X.env=false:=by simp[interactive,I.ok.kind]
def JG(te:TE):TS:=λD σ H=>te σ H λ_ H1=>D.nx σ H1
theorem x9(he:PE X e te)(hs:autoParam (swapsWith e none pos.line X.env=pure false) aR._auto_1):PS X (.Expr e pos) (JG te):=by
 intro MG s σ H D I h
 exact wpAny_Expr_any (c6 (he MG s σ H _ I h) λv s1 ⟨x,H1,I1,r1,q1⟩=>⟨σ,H1,I1,q1⟩) I.quiet hs
def Kt(te:TE):TS:=λD σ H=>te σ H D.rt
theorem Hm(he:PE X e te):PS X (.Return (some e) pos) (Kt te):=by
 intro MG s σ H D I h
 exact wpAny_Return_some (c6 (he MG s σ H _ I h) λv s1 ⟨x,H1,I1,r1,q1⟩=>⟨x,σ,H1,I1,r1,q1⟩)
def LC(c:TT)(t u:TS):TS:=λD σ H=>c σ H λb H1=>if b=true then t D σ H1 else u D σ H1
theorem Je{c:Expr}{a b:List Stmt}{tc:TT}(hc:PT X c tc)(ha:lZ X a t)(hb:lZ X b u):PS X (.If c a b pos) (LC tc t u):=by
 intro MG s σ H D I h
 refine wpAny_If (c6 (hc MG s σ H _ I h) λd s1 ⟨H1,I1,q1⟩=>?_)
 cases d with
 | true=>exact ha MG s1 σ H1 D I1 q1
 | false=>exact hb MG s1 σ H1 D I1 q1
end
abbrev TG:=V->St->Hp->(St->Hp->Prop)->Prop
abbrev HB:=List V->St->Hp->(St->Hp->Prop)->Prop
def PG(X:Cx)(target:Expr)(t:TG):Prop :=
 ∀ (MG:List (Addr×Obj)) (s:Shared) (σ:St) (H:Hp) (v:V) (u:Value) (Q:St->Hp->Prop),Inv X MG σ H s->RelV v u->t v σ H Q ->
  wpAny (model X.prog X.w) X.A (assign target X.env u) (λ_ s'=>∃ σ' H',Inv X MG σ' H' s'/\Q σ' H') X.xe s
def Ko(X:Cx)(ts:List Expr)(t:HB):Prop :=
 ∀ (MG:List (Addr×Obj)) (s:Shared) (σ:St) (H:Hp) (vs:List V) (us:List Value) (Q:St->Hp->Prop),Inv X MG σ H s->Vals vs us->t vs σ H Q ->
  wpAny (model X.prog X.w) X.A (assignInOrder ((assignEach ts X.env).map (·.2)) us) (λ_ s'=>∃ σ' H',Inv X MG σ' H' s'/\Q σ' H') X.xe s
abbrev HK:=V->V->V->Hp->(Hp->Prop)->Prop
def JB(X:Cx)(t:HK):Prop :=
 ∀ (MG:List (Addr×Obj)) (s:Shared) (σ:St) (H:Hp) (o i v:V) (ov iv u:Value) (Q:Hp->Prop),Inv X MG σ H s->RelV o ov->RelV i iv->RelV v u->t o i v H Q ->
  wpAny (model X.prog X.w) X.A (setItem ov iv u) (λ_ s'=>∃ H',Inv X MG σ H' s'/\Q H') X.xe s
section
variable{X:Cx}{pos:Pos}
def aH(i:Nat):TG:=λv σ H Q=>Q (σ.set i (some v)) H
theorem EE{i:Nat}{x:Str}(hN:X.N.Nodup)(hi:X.N[i]?=some x)(hx:Loc X.env.scope x)(hf:autoParam (X.fn x=true\/X.env.scope.names.lookup x=some .local) aF._auto_1):PG X (.Name x pos) (aH i):=by
 intro MG s σ H v u Q I r h
 exact wpAny_assign_Name (k_ I hN hi hx r (λs' I'=>⟨_,H,I',h⟩) hf)
def ip:HB:=λvs σ H Q=>vs=[]/\Q σ H
def bq(t:TG)(u:HB):HB:=λvs σ H Q=>∃ v r,vs=v::r/\t v σ H fun σ' H'=>u r σ' H' Q
theorem bZ:Ko X [] ip:=by
 intro MG s σ H vs us Q I r h
 obtain⟨e,h⟩:=h
 subst e
 cases r
 exact assignInOrder_nil ⟨σ,H,I,h⟩
theorem aC{e:Expr}{es:List Expr}{t:TG}{u:HB}(h1:PG X e t)(h2:Ko X es u)
  (hs:autoParam ((assignEach (e::es) X.env).map (·.2)=assign e X.env::(assignEach es X.env).map (·.2)) aR._auto_1):Ko X (e::es) (bq t u):=by
 intro MG s σ H vs us Q I r h
 obtain⟨v,vr,e1,h⟩:=h
 subst e1
 cases r with
 | cons r rr =>
  rw[hs]
  refine assignInOrder_cons (c6 (h1 MG s σ H _ _ _ I r h) λ_ s1 ⟨σ1,H1,I1,q1⟩=>?_)
  exact h2 MG s1 σ1 H1 _ _ Q I1 rr q1
def iq(K:PySem.W.Frag)(n:Nat)(t:HB):TG:=λv σ H Q=>∃ a xs,v=.ref a/\h_ K H a xs/\xs.length=n/\t xs σ H Q
theorem da{es:List Expr}{k:Nat}{t:HB}{n:Nat}(hc:X.calm=true)(h:Ko X es t)
  (hn:autoParam ((assignEach es X.env).length=n) aR._auto_1) (Nc:autoParam ((assignEach es X.env).findIdx? (·.1)=none) aR._auto_1):PG X (.Tuple es k pos) (iq X.K n t):=by
 intro MG s σ H v u Q I r hw
 obtain⟨a,xs,e1,hq,hl,hw⟩:=hw
 subst e1
 cases r
 obtain⟨MJ,rv,ht,hz⟩:=I.tuple hq
 refine assign_Tuple_tuple (I.ok.hd hc) ht (by simp[hn,← hl,rv.length]) Nc λh' hx=>?_
 have I1:Inv X MG σ H { s with heap:=h' }:=I.kept (t':=s.toks) λb o e=>hx b o (Nat.ne_of_lt (Heap.lt_size e)) e
 exact h MG _ σ H xs _ Q I1 (by simpa using rv) hw
def Lo(to ti:TE)(t:HK):TG:=λv σ H Q=>to σ H λo H1=>ti σ H1 λi H2=>t o i v H2 λH3=>Q σ H3
theorem F8{o i:Expr}{to ti:TE}{t:HK}(ho:PE X o to)(hi:PE X i ti)(hs:JB X t)
  (ha:autoParam (∀ v,assign (.Subscript o i pos) X.env v=(do
   let ov ← holding [v] (eval o X.env)
   let iv ← holding [v,ov] (eval i X.env)
   standAt pos
   holding [v,ov,iv] (setItem ov iv v)
   release [v,ov,iv] [])) aI._auto_1):PG X (.Subscript o i pos) (Lo to ti t):=by
 intro MG s σ H v u Q I r h
 rw[ha]
 refine wpAny_bind (wpAny_holding (c6 (ho MG s σ H _ I h) λov s1 ⟨x,H1,I1,r1,q1⟩=>?_))
 refine wpAny_bind (wpAny_holding (c6 (hi MG s1 σ H1 _ I1 q1) λiv s2 ⟨y,H2,I2,r2,q2⟩=>?_))
 refine wpAny_bind (wpAny_standAt (wpAny_bind (wpAny_holding (c6 (hs MG s2 σ H2 x y v ov iv u _ I2 r1 r2 r q2) λ_ s3 ⟨H3,I3,q3⟩=>?_))))
 exact wpAny_release ⟨σ,H3,I3,q3⟩
def F4(te:TE)(g:TG):TS:=λD σ H=>te σ H λx H1=>g x σ H1 D.nx
theorem BV{tg e:Expr}{te:TE}{g:TG}(he:PE X e te)(hg:PG X tg g)(hs:autoParam (swapsWithSole [tg] e pos.line X.env=pure false) aR._auto_1)(hw:autoParam (swappedStores [tg] e X.env=pure none) aR._auto_1)
  (h1:autoParam ((assignEach [tg] X.env).map (·.2)=[assign tg X.env]) aR._auto_1):PS X (.Assign [tg] e pos) (F4 te g):=by
 intro MG s σ H D I h
 refine wpAny_Assign_stores (c6 (he MG s σ H _ I h) λv s1 ⟨x,H1,I1,r1,q1⟩=>?_) hs hw
 rw[h1]
 exact c6 (hg MG s1 σ H1 x v _ I1 r1 q1) λ_ s2 q=>q
theorem AI{i:Nat}{x:Str}{e:Expr}{te:TE}{pos':Pos}(hN:X.N.Nodup)(hi:X.N[i]?=some x)(hx:Loc X.env.scope x)(he:PE X e te)(hs:autoParam (swapsWith e (some (.Name x pos')) pos.line X.env=pure false) aR._auto_1)(hf:autoParam (X.fn x=true\/X.env.scope.names.lookup x=some .local) aF._auto_1) :
  PS X (.Assign [.Name x pos'] e pos) (F4 te (aH i)):=by
 intro MG s σ H D I h
 refine wpAny_Assign_Name (c6 (he MG s σ H _ I h) λv s1 ⟨y,H1,I1,r1,q1⟩=>?_) hs
 exact k_ I1 hN hi hx r1 (λs2 I2=>⟨_,H1,I2,q1⟩) hf
def KU(i j:Nat)(ta:TA):TS:=λD σ H=>ta σ H λvs H1=>∃ v w,vs=[v,w]/\D.nx ((σ.set i (some v)).set j (some w)) H1
theorem G_{i j:Nat}{x y:Str}{a b:Expr}{ta:TA}{px py pt:Pos}{kt k2 P2}(hc:X.calm=true)(hN:X.N.Nodup)(hi:X.N[i]?=some x)(hj:X.N[j]?=some y)(hij:i≠j)
  (hx:X.env.scope.names.lookup x=some .local) (hy:X.env.scope.names.lookup y=some .local) (ha:PA X [a,b] ta)
  (hw:swappedStores [.Tuple [.Name x px,.Name y py] kt pt] (.Tuple [a,b] k2 P2) X.env=pure (some [x,y]))
  (hs:autoParam (swapsWithSole [.Tuple [.Name x px,.Name y py] kt pt] (.Tuple [a,b] k2 P2) pos.line X.env=pure false) aR._auto_1) :
  PS X (.Assign [.Tuple [.Name x px,.Name y py] kt pt] (.Tuple [a,b] k2 P2) pos) (KU i j ta):=by
 intro MG s σ H D I h
 rw[exec_Assign_arm]
 refine wpAny_bind (wpAny_standAt ?_)
 rw[hs]
 refine wpAny_bind (wpAny_pure ?_)
 rw[if_neg (by decide)]
 refine wpAny_bind (Tuple_ (c6 (ha _ MG s σ H _ I h) λus s1 ⟨vs,H1,I1,r1,q1⟩=>?_))
 obtain⟨v,w,e1,q1⟩:=q1
 subst e1
 obtain⟨u1,u2,rfl,rv,Om⟩:∃ u1 u2,us=[u1,u2]/\RelV v u1/\RelV w u2:=by
  cases r1 with
  | cons p q =>
   cases q with
   | cons p' q' =>
    cases q'
    exact⟨_,_,rfl,p,p'⟩
 refine wpAny_newObj_type ?_ (by show 2<=sizeLine;decide)
 have I2:Inv X MG σ H1 { s1 with heap:=s1.heap.push { cls:=.type "tuple", data:=.seq [u1,u2].toArray } }:=I1.kept (t':=s1.toks) λb o e=>Heap.get?_push_of_some _ e
 rw[hw]
 refine wpAny_bind (wpAny_pure ?_)
 show wpAny (model X.prog X.w) X.A (do rule "assign.swapped-stores";let items ← unpackItems (.ref s1.heap.objs.size) 2 none;assignInOrder [λv=>bindName X.env y v,λv=>bindName X.env x v] items.reverse;pure Flow.next) _ _ _
 refine wpAny_bind (wpAny_rule (wpAny_bind (unpackItems_tuple (items:=#[u1,u2]) (I.ok.hd hc) (IsTup.new s1.heap _) λh' PY=>?_)))
 have I3:=I2.kept (h':=h') (t':=s1.toks) λb o e=>PY b o (Nat.ne_of_lt (Heap.lt_size e)) e
 show wpAny _ _ (assignInOrder [λv=>bindName X.env y v,λv=>bindName X.env x v] [u2,u1] >>= λ_=>pure Flow.next) _ _ _
 refine wpAny_bind (assignInOrder_cons (wpAny_bindName (k_ I3 hN hj (.inl hy) Om (λs2 I4=>?_) (.inr hy))))
 refine assignInOrder_cons (wpAny_bindName (k_ I4 hN hi (.inl hx) rv (λs3 I5=>assignInOrder_nil (wpAny_pure ?_)) (.inr hx)))
 rw[List.set_comm _ _ (Ne.symm hij)] at I5
 exact⟨_,H1,I5,q1⟩
end
section
variable{X:Cx}{pos:Pos}
def F9(c:TT)(tb:TS):TS:=λD σ H=>∃ W:Nat->St->Hp->Prop,(∃ m,W m σ H)/\∀ m σ H,W m σ H ->
 c σ H λb H1=>if b=true then ∃ N:St->Hp->Prop,(∀ σ' H',N σ' H'->∃ m',m'<m/\W m' σ' H')/\tb { D with nx:=N,ct:=N,bk:=D.nx } σ H1 else D.nx σ H1
theorem Cc{c:Expr}{body:List Stmt}{tc:TT}{tb:TS}(hp:PassesOwn (model X.prog X.w) X.A X.env X.xe)(hc:PT X c tc)(hb:lZ X body tb):PS X (.While c body [] pos) (F9 tc tb):=by
 intro MG s σ H D I h
 obtain⟨W,⟨m0,w0⟩,turn⟩:=h
 refine wpAny_While (codeAny_whileLoop (λn s'=>∃ σ' H',Inv X MG σ' H' s'/\W n σ' H') ?_ m0 ⟨σ,H,I,w0⟩)
 rintro n s1 ⟨σ1,H1,I1,w1⟩
 refine wpAny_passesOwn hp (c6 (hc MG s1 σ1 H1 _ I1 (turn n σ1 H1 w1)) λb s2 ⟨H2,I2,q2⟩=>?_)
 cases b with
 | true =>
  obtain⟨N,hN,q2⟩:=q2
  rw[if_pos rfl]
  refine wpAny_passesOwn hp (c6 (hb MG s2 σ1 H2 _ I2 q2) λf s3 q3=>?_)
  cases f with
  | next =>
   obtain⟨σ3,H3,I3,n3⟩:=q3
   obtain⟨m',hm,w3⟩:=hN σ3 H3 n3
   exact⟨m',hm,σ3,H3,I3,w3⟩
  | cont =>
   obtain⟨σ3,H3,I3,n3⟩:=q3
   obtain⟨m',hm,w3⟩:=hN σ3 H3 n3
   exact⟨m',hm,σ3,H3,I3,w3⟩
  | brk=>exact q3
  | ret v=>exact q3
 | false =>
  rw[if_neg Bool.false_ne_true]
  exact wpAny_execs_nil ⟨σ1,H2,I2,q2⟩
end
structure It where
 go:Nat->Hp->Prop
 uq:Nat->Hp->V->Hp->Prop
 stop:Nat->Hp->Prop
def lF(X:Cx)(MG:List (Addr×Obj))(H:Hp)(b:Addr):Prop :=
 H b=none/\b≠X.env.locals/\b ∉ X.fs/\(b∈X.ex\/X.s₀.heap.objs.size<=b)/\(∀ x c,X.env.cells.lookup x=some c->c≠b)/\∀ p∈X.pn++MG,p.1≠b
theorem Inv.t6{X:Cx}{MG:List (Addr×Obj)}{σ:St}{H H':Hp}{s:Shared}{b:Addr}(I:Inv X MG σ H s)(hb:s.heap.objs.size<=b)(hn:H' b=none):lF X MG H' b:=by
 refine⟨hn,Nat.ne_of_gt (Nat.lt_of_lt_of_le I.lt hb),I.Ld hb,.inr (Nat.le_trans I.sz hb),λx c e z=>?_,λp hp z=>?_⟩
 ·obtain⟨v,q⟩:=I.cell x c e
  exact absurd (Nat.lt_of_lt_of_le q.lt (by rw[z];exact hb)) (Nat.lt_irrefl _)
 ·exact absurd (Nat.lt_of_lt_of_le (Heap.lt_size (I.pin p hp).1) (by rw[z];exact hb)) (Nat.lt_irrefl _)
structure Turn (P:Program) (w:World) (K:PySem.W.Frag) (tg:Expr) (J:It) (fp:List Addr) (it:Addr) (tn:Nat->Heap->Prop):Prop where
 mem:it∈fp
 obj:∀ i h,tn i h->∀ b∈fp,∃ o,h.get? b=some o/\∀ v,o.data≠.cell v
 keep:∀ i h h',tn i h->(∀ b∈fp,∀ o,h.get? b=some o->h'.get? b=some o)->tn i h'
 item:∀ (X:Cx),X.prog=P->X.w=w->X.K=K->X.calm=true->∀ (i:Nat) (MG:List (Addr×Obj)) (s:Shared) (σ:St) (H:Hp) (E:Value->Shared->Prop),Inv X MG σ H s->(∀ b∈fp,lF X MG H b)->tn i s.heap->J.go i H ->
  wpAny (model P w) X.A (pyNext (.ref it)) (λr s1=>∃ u,r=some u ∧
   wpAny (model P w) X.A (letOwnedTupleGo tg (.ref it) u) (λ_ s2=>∃ x H',Inv X MG σ H' s2/\RelV x u/\J.uq i H x H'/\tn (i+1) s2.heap/\∀ b∈fp,H' b=none) E s1) E s
 done:∀ (X:Cx),X.prog=P->X.w=w->X.K=K->X.calm=true->∀ (i:Nat) (MG:List (Addr×Obj)) (s:Shared) (σ:St) (H:Hp) (E:Value->Shared->Prop),Inv X MG σ H s->(∀ b∈fp,lF X MG H b)->tn i s.heap->J.stop i H ->
  wpAny (model P w) X.A (pyNext (.ref it)) (λr s1=>r=none/\Inv X MG σ H s1) E s
 self:∀ (A:Around) (i:Nat) (s:Shared) (Q:Value->Shared->Prop) (E:Value->Shared->Prop),tn i s.heap->Q (.ref it) s->wpAny (model P w) A (pyIter (.ref it)) Q E s
abbrev TI:=St->Hp->(It->Hp->Prop)->Prop
def Kv(X:Cx)(MG:List (Addr×Obj))(σ:St)(tg:Expr)(R:It->Hp->Prop)(itv:Value)(s2:Shared):Prop :=
 ∃ (it:Addr) (fp:List Addr) (tn:Nat->Heap->Prop) (J:It) (H':Hp),itv=.ref it/\Inv X MG σ H' s2/\Turn X.prog X.w X.K tg J fp it tn/\tn 0 s2.heap/\(∀ b∈fp,lF X MG H' b)/\R J H'
def PI(X:Cx)(tg iter:Expr)(wi:TI):Prop :=
 ∀ (MG:List (Addr×Obj)) (s:Shared) (σ:St) (H:Hp) (R:It->Hp->Prop),Inv X MG σ H s->wi σ H R ->
  wpAny (model X.prog X.w) X.A (eval iter X.env) (λv s1=>wpAny (model X.prog X.w) X.A (pyIter v) (Kv X MG σ tg R) X.xe s1) X.xe s
theorem yd {M : Model} {A : Around} {E : Value -> Shared -> Prop} {s : Shared} {tg : Expr} {it : Addr} {u : Value} {o : Obj} {n : String} {vs : Array Value} {Q : Unit -> Shared -> Prop} (ho : s.heap.get? it = some o) (hc : o.cls = .type n) (hd : o.data = .fields vs)
    (hn : ["enumerate", "zip", "dict_itemiterator", "dict_reverseitemiterator", "odict_iterator", "itertools.zip_longest", "itertools.pairwise"].contains n = false) (hQ : Q () s) : wpAny M A (letOwnedTupleGo tg (.ref it) u) Q E s := by
  unfold letOwnedTupleGo
  cases tg <;> first
    | exact wpAny_pure hQ
    | (cases u <;> first
        | exact wpAny_pure hQ
        | (refine wpAny_bind (wpAny_load ho ?_)
           rw [hc, hd]
           show wpAny M A (if (["enumerate", "zip", "dict_itemiterator", "dict_reverseitemiterator", "odict_iterator", "itertools.zip_longest", "itertools.pairwise"].contains n && vs[0]? == some (rawInt _)) = true then _ else _) Q E s
           rw [if_neg (by intro h; rw [hn, Bool.false_and] at h; cases h)]
           exact wpAny_pure hQ))
def Ma(K:PySem.W.Frag)(a:Addr):It :=
 ⟨λi H=>∃ xs x,ir K H a xs/\xs[i]?=some x,λi H x H'=>H'=H/\∀ xs,ir K H a xs->xs[i]?=some x,λi H=>∃ xs,ir K H a xs/\xs.length<=i⟩
def L4(K:PySem.W.Frag)(a:Addr):It :=
 ⟨λi H=>∃ xs x,h_ K H a xs/\xs[i]?=some x,λi H x H'=>H'=H/\∀ xs,h_ K H a xs->xs[i]?=some x,λi H=>∃ xs,h_ K H a xs/\xs.length<=i⟩
def I0(lo:Int)(n:Nat):It:=⟨λi _=>i<n,λi H x H'=>H'=H/\x=.int (lo+i),λi _=>n<=i⟩
theorem yk{P:Program}{w:World}{K:PySem.W.Frag}{tg:Expr}(a it:Addr):Turn P w K tg (Ma K a) [it] it (λi h=>h.IsListIter it a i) where
 mem:=by simp
 obj:=λi h st b hb=>by
  have e:b=it:=by simpa using hb
  subst e
  obtain⟨o,e,c,d⟩:=st
  exact⟨o,e,λv z=>by rw[d] at z;cases z⟩
 keep:=λi h h' st k=>st.at λo e=>k it (by simp) o e
 item:=by
  intro X hP hw hK hc i MG s σ H E I hf st hg
  subst hP hw hK
  obtain⟨xs,x,hq,hx⟩:=hg
  obtain⟨MJ,rv,p,hz⟩:=I.list hq
  obtain⟨u,hu,ru⟩:=rv.get hx
  obtain⟨f0,f1,f2,f3,f4,f5⟩:=hf it (by simp)
  refine wpAny_pyNext_list_item st p.isList (x:=u) (by simpa using hu) λh' NO sb=>?_
  have I1:Inv X MG σ H { s with heap:=h' }:=I.turned (t':=s.toks) (λb o hb e=>(sb.2 b hb).trans e) f0 f1 f3 f4 f5
  obtain⟨o,e,c,d⟩:=id NO
  exact⟨u,rfl,yd (s:={ s with heap:=h' }) e c d (by decide) ⟨x,H,I1,ru,⟨rfl,λys hy=>by rw[I.pV hy hq];exact hx⟩,NO,λb hb=>(hf b hb).1⟩⟩
 done:=by
  intro X hP hw hK hc i MG s σ H E I hf st hg
  subst hP hw hK
  obtain⟨xs,hq,hx⟩:=hg
  obtain⟨MJ,rv,p,hz⟩:=I.list hq
  obtain⟨f0,f1,f2,f3,f4,f5⟩:=hf it (by simp)
  have hl:=rv.length
  exact wpAny_pyNext_list_end (I.ok.hd hc) st p.isList (by simp;omega) λh' eb=>⟨rfl,I.turned (t':=s.toks) (λb o hb e=>eb b o hb e) f0 f1 f3 f4 f5⟩
 self:=λ_ _ _ _ _ st h=>wpAny_pyIter_listiter st h
theorem v9{P:Program}{w:World}{K:PySem.W.Frag}{tg:Expr}(a it:Addr):Turn P w K tg (L4 K a) [it] it (λi h=>h.IsTupleIter it a i) where
 mem:=by simp
 obj:=λi h st b hb=>by
  have e:b=it:=by simpa using hb
  subst e
  obtain⟨o,e,c,d⟩:=st
  exact⟨o,e,λv z=>by rw[d] at z;cases z⟩
 keep:=λi h h' st k=>st.at λo e=>k it (by simp) o e
 item:=by
  intro X hP hw hK hc i MG s σ H E I hf st hg
  subst hP hw hK
  obtain⟨xs,x,hq,hx⟩:=hg
  obtain⟨MJ,rv,p,hz⟩:=I.tuple hq
  obtain⟨u,hu,ru⟩:=rv.get hx
  obtain⟨f0,f1,f2,f3,f4,f5⟩:=hf it (by simp)
  refine wpAny_pyNext_tuple_item st (show s.heap.IsTuple a MJ.toArray from p) (x:=u) (by simpa using hu) λh' NO sb=>?_
  have I1:Inv X MG σ H { s with heap:=h' }:=I.turned (t':=s.toks) (λb o hb e=>(sb.2 b hb).trans e) f0 f1 f3 f4 f5
  obtain⟨o,e,c,d⟩:=id NO
  exact⟨u,rfl,yd (s:={ s with heap:=h' }) e c d (by decide) ⟨x,H,I1,ru,⟨rfl,λys hy=>by rw[I.mx hy hq];exact hx⟩,NO,λb hb=>(hf b hb).1⟩⟩
 done:=by
  intro X hP hw hK hc i MG s σ H E I hf st hg
  subst hP hw hK
  obtain⟨xs,hq,hx⟩:=hg
  obtain⟨MJ,rv,p,hz⟩:=I.tuple hq
  obtain⟨f0,f1,f2,f3,f4,f5⟩:=hf it (by simp)
  have hl:=rv.length
  exact wpAny_pyNext_tuple_end (I.ok.hd hc) st (show s.heap.IsTuple a MJ.toArray from p) (by simp;omega) λh' eb=>⟨rfl,I.turned (t':=s.toks) (λb o hb e=>eb b o hb e) f0 f1 f3 f4 f5⟩
 self:=λ_ _ _ _ _ st h=>wpAny_pyIter_tupleiter st h
theorem xc{P:Program}{w:World}{K:PySem.W.Frag}{tg:Expr}(it:Addr)(lo:Int)(n:Nat):Turn P w K tg (I0 lo n) [it] it (λi h=>IsRangeIter h it (lo+(i:Nat)*1) ((n:Int)-(i:Nat)) 1) where
 mem:=by simp
 obj:=λi h st b hb=>by
  have e:b=it:=by simpa using hb
  subst e
  exact⟨_,st,λv z=>by
   have z':Data.fields _=Data.cell v:=z
   cases z'⟩
 keep:=λi h h' st k=>k it (by simp) _ st
 item:=by
  intro X hP hw hK hc i MG s σ H E I hf st hg
  subst hP hw hK
  obtain⟨f0,f1,f2,f3,f4,f5⟩:=hf it (by simp)
  have W:=Walks.range (prog:=X.prog) (w:=X.w) (I.ok.hd hc) it lo 1 n
  refine W.item i s _ _ hg st λv h' tk hv NO kk=>?_
  obtain⟨t,rfl⟩:=hv
  have I1:Inv X MG σ H { s with heap:=h',toks:=tk }:=I.turned (λb o hb e=>kk b o (by simpa using hb) e) f0 f1 f3 f4 f5
  refine⟨_,rfl,yd (s:={ s with heap:=h',toks:=tk }) (n := "range_iterator") NO rfl rfl (by decide) ⟨.int (lo+i),H,I1,⟨t,?_⟩,⟨rfl,rfl⟩,NO,λb hb=>(hf b hb).1⟩⟩
  rw[Int.mul_one]
 done:=by
  intro X hP hw hK hc i MG s σ H E I hf st hg
  subst hP hw hK
  obtain⟨f0,f1,f2,f3,f4,f5⟩:=hf it (by simp)
  exact wpAny_pyNext_range_end (I.ok.hd hc) st (by have:n<=i:=hg;omega) λh' eb=>⟨rfl,I.turned (t':=s.toks) (λb o hb e=>eb b o hb e) f0 f1 f3 f4 f5⟩
 self:=λ_ _ _ _ _ st h=>wpAny_pyIter_rangeiter st h
end L2
namespace L2
open PySem PySem.Spec PyProof.Rows
section
variable{X:Cx}{tg:Expr}
theorem uI{MG:List (Addr×Obj)}{σ:St}{H:Hp}{s:Shared}{R:It->Hp->Prop}{E:Value->Shared->Prop}{lo hi:Int}{t u v:Tok}{tk:Nat}(I:Inv X MG σ H s)(h1:-(2^62)<=lo)(h2:lo<2^62)(h3:-(2^62)<=hi)(h4:hi<2^62)
  (q:R (I0 lo (hi-lo).toNat) H):wpAny (model X.prog X.w) X.A (pyIter (.ref s.heap.objs.size)) (Kv X MG σ tg R) E { s with heap:=s.heap.push { cls:=.type "range", data:=.fields #[.int lo t,.int hi u,.int 1 v] },toks:=tk }:=by
 refine wpAny_pyIter_range (IsRange.new ..) (small_one h1 h2 h3 h4) ?_
 have I1:Inv X MG σ H { s with heap:=s.heap.push { cls:=.type "range", data:=.fields #[.int lo t,.int hi u,.int 1 v] },toks:=tk }:=I.kept λb o e=>Heap.get?_push_of_some _ e
 refine⟨(s.heap.push { cls:=.type "range", data:=.fields #[.int lo t,.int hi u,.int 1 v] }).objs.size,[(s.heap.push { cls:=.type "range", data:=.fields #[.int lo t,.int hi u,.int 1 v] }).objs.size],_,_,H,rfl,
  I1.kept (t':=tk) λb o e=>Heap.get?_push_of_some _ e,xc _ lo (hi-lo).toNat,?_,λb hb=>?_,q⟩
 ·have e1:lo+((0:Nat):Int)*1=lo:=by simp
  have e2:(((hi-lo).toNat:Nat):Int)-((0:Nat):Int)=Builtin.Range.rangeSize lo hi 1:=by rw[rangeSize_one];split <;> omega
  show IsRangeIter _ _ (lo+((0:Nat):Int)*1) ((((hi-lo).toNat:Nat):Int)-((0:Nat):Int)) 1
  rw[e1,e2]
  exact Heap.get?_push_size _ rfl
 ·have e:b=(s.heap.push { cls:=.type "range", data:=.fields #[.int lo t,.int hi u,.int 1 v] }).objs.size:=by simpa using hb
  subst e
  exact I1.t6 (Nat.le_refl _) (I1.bM.fresh (Nat.le_refl _))
def EO(ta:TA):TI:=fun σ H R=>ta σ H λvs H1=>∃ j:Int,vs=[.int j]/\-(2^62)<=j/\j<2^62/\R (I0 0 j.toNat) H1
def Fh(ta:TA):TI:=fun σ H R=>ta σ H λvs H1=>∃ i j:Int,vs=[.int i,.int j]/\(-(2^62)<=i/\i<2^62/\-(2^62)<=j/\j<2^62)/\R (I0 i (j-i).toNat) H1
theorem eK{a:Expr}{ta:TA}{p pos:Pos}(hg:Gl X "range")(hm:X.mg "range" = none)(ha:PA X [a] ta)(hs:autoParam (starEach [a] X.env=[(false,eval a X.env)]) aR._auto_1):PI X tg (.Call (.Name "range" p) [a] [] pos) (EO ta):=by
 intro MG s σ H R I h
 refine Call_ (jH I hg hm boot_range (PyProof.Rows.callWith_type1 (c6 (ha pos MG s σ H _ I h) λus s1 ⟨vs,H1,I1,r1,q1⟩=>?_) hs rfl))
 obtain⟨j,e,q1,q2,q⟩:=q1
 subst e
 cases r1 with
 | cons r rr =>
  cases rr
  obtain⟨t,rfl⟩:=r
  exact call_range_1 (uI I1 (by omega) (by omega) q1 q2 (by simpa using q))
theorem yI{a b:Expr}{ta:TA}{p pos:Pos}(hg:Gl X "range")(hm:X.mg "range" = none)(ha:PA X [a,b] ta)(hs:autoParam (starEach [a,b] X.env=[(false,eval a X.env),(false,eval b X.env)]) aR._auto_1)(N8:autoParam (starEach [b] X.env=[(false,eval b X.env)]) aR._auto_1) :
  PI X tg (.Call (.Name "range" p) [a,b] [] pos) (Fh ta):=by
 intro MG s σ H R I h
 refine Call_ (jH I hg hm boot_range (PyProof.Rows.callWith_type1 (c6 (ha pos MG s σ H _ I h) λus s1 ⟨vs,H1,I1,r1,q1⟩=>?_) (by rw[hs,N8]) (by rw[N8];rfl)))
 obtain⟨i,j,e,⟨q1,q2,q3,q4⟩,q⟩:=q1
 subst e
 cases r1 with
 | cons r rr =>
  cases rr with
  | cons r' rr =>
   cases rr
   obtain⟨t,rfl⟩:=r
   obtain⟨t',rfl⟩:=r'
   exact call_range_2 (uI I1 q1 q2 q3 q4 q)
def Lp(wi:TI)(g:TG)(tb:TS):TS:=λD σ H=>wi σ H λJ H1=>∃ W:Nat->Nat->St->Hp->Prop,(∃ m,W 0 m σ H1)/\∀ i m σ H,W i m σ H ->
 (J.stop i H/\D.nx σ H)\/(J.go i H/\∃ N:St->Hp->Prop,(∀ σ' H',N σ' H'->∃ m',m'<m/\W (i+1) m' σ' H')/\∀ x H',J.uq i H x H'->g x σ H' fun σ2 H2=>tb { D with nx:=N,ct:=N,bk:=D.nx } σ2 H2)
def me(fp:List Addr)(h:Heap):List (Addr×Obj):=fp.filterMap λb=>(h.get? b).map λo=>(b,o)
theorem jr{fp:List Addr}{h:Heap}{b:Addr}{o:Obj}(hb:b∈fp)(e:h.get? b=some o):(b,o)∈me fp h:=List.mem_filterMap.mpr ⟨b,hb,by rw[e];rfl⟩
theorem yC{fp:List Addr}{h:Heap}{p:Addr×Obj}(hp:p∈me fp h):p.1∈fp/\h.get? p.1=some p.2:=by
 obtain⟨b,hb,e⟩:=List.mem_filterMap.mp hp
 cases q:h.get? b with
 | none=>rw[q] at e;cases e
 | some o =>
  rw[q] at e
  have e':(b,o)=p:=Option.some.inj e
  subst e'
  exact⟨hb,q⟩
theorem Inv.pinned{MG:List (Addr×Obj)}{σ:St}{H:Hp}{s:Shared}{fp:List Addr}(I:Inv X MG σ H s)(hf:∀ b∈fp,lF X MG H b)(ho:∀ b∈fp,∃ o,s.heap.get? b=some o/\∀ v,o.data≠.cell v):Inv X (MG++me fp s.heap) σ H s :=
 I.xS λp hp=>(List.mem_append.mp hp).elim (λz=>I.pin p (List.mem_append_right _ z)) λz=>by
  obtain⟨hb,e⟩:=yC z
  obtain⟨f0,f1,f2,_⟩:=hf p.1 hb
  obtain⟨o,e',d⟩:=ho p.1 hb
  rw[e] at e';cases e'
  exact⟨e,f0,f1,f2,d⟩
theorem Inv.lB{MG pl:List (Addr×Obj)}{σ:St}{H:Hp}{s:Shared}(I:Inv X (MG++pl) σ H s):Inv X MG σ H s:=I.xS λp hp=>I.pin p (List.mem_append_right _ (List.mem_append_left _ hp))
theorem FC{iter:Expr}{body:List Stmt}{wi:TI}{g:TG}{tb:TS}{pos:Pos}(hp:PassesOwn (model X.prog X.w) X.A X.env X.xe)(hc:X.calm=true)(hi:PI X tg iter wi)(hg:PG X tg g)(hb:lZ X body tb)
  (hs:autoParam (∀ x,foldedSetIterable iter X.env x=pure x) aI._auto_1):PS X (.For tg iter body [] pos) (Lp wi g tb):=by
 intro MG s σ H D I h
 refine wpAny_For (c6 (hi MG s σ H _ I h) λv s1 h1=>c6 h1 λitv s2 h2=>?_) hs
 obtain⟨it,fp,tn,J,H2,e,I2,T,PM,f2,W,⟨m0,w0⟩,turn⟩:=h2
 subst e
 have OK:∀ {H':Hp},(∀ b∈fp,H' b=none)->∀ b∈fp,lF X MG H' b:=λhn b hb=>⟨hn b hb,(f2 b hb).2⟩
 refine codeAny_forLoop_any (λn s'=>∃ i σ' H',Inv X MG σ' H' s'/\tn i s'.heap/\(∀ b∈fp,H' b=none)/\W i n σ' H') ?_ m0 ⟨0,σ,H2,I2,PM,λb hb=>(f2 b hb).1,w0⟩
 rintro n s3 ⟨i,σ3,H3,I3,st3,fr3,w3⟩
 rcases turn i n σ3 H3 w3 with ⟨stop,qn⟩ | ⟨go,N,hN,step⟩
 ·refine wpAny_passesOwn hp (c6 (T.done X rfl rfl rfl hc i MG s3 σ3 H3 X.xe I3 (OK fr3) st3 stop) λr s4 ⟨hr,I4⟩=>?_)
  subst hr
  exact wpAny_execs_nil ⟨σ3,H3,I4,qn⟩
 ·refine wpAny_passesOwn hp (c6 (T.item X rfl rfl rfl hc i MG s3 σ3 H3 X.xe I3 (OK fr3) st3 go) λr s4 ⟨u,hr,h4⟩=>?_)
  subst hr
  refine wpAny_passesOwn hp (c6 h4 λ_ s5 ⟨x,H5,I5,r5,y5,st5,fr5⟩=>?_)
  have I5':=I5.pinned (OK fr5) (T.obj _ _ st5)
  refine wpAny_passesOwn hp (c6 (hg _ s5 σ3 H5 x u _ I5' r5 (step x H5 y5)) λ_ s6 ⟨σ6,H6,I6,q6⟩=>?_)
  refine wpAny_passesOwn hp (c6 (hb _ s6 σ6 H6 _ I6 q6) λf s7 q7=>?_)
  have again:∀ {σ7:St} {H7:Hp},Inv X (MG++me fp s5.heap) σ7 H7 s7->N σ7 H7->∃ m,m<n/\∃ i σ' H',Inv X MG σ' H' s7/\tn i s7.heap/\(∀ b∈fp,H' b=none)/\W i m σ' H':=λ{σ7 H7} I7 n7=>by
   obtain⟨m',hm,w7⟩:=hN σ7 H7 n7
   refine⟨m',hm,i+1,σ7,H7,I7.lB,T.keep _ _ _ st5 λb hb o e=>(I7.pin (b,o) (List.mem_append_right _ (List.mem_append_right _ (jr hb e)))).1,λb hb=>?_,w7⟩
   obtain⟨o,e,d⟩:=T.obj _ _ st5 b hb
   exact(I7.pin (b,o) (List.mem_append_right _ (List.mem_append_right _ (jr hb e)))).2.1
  cases f with
  | next=>obtain⟨σ7,H7,I7,n7⟩:=q7;exact again I7 n7
  | cont=>obtain⟨σ7,H7,I7,n7⟩:=q7;exact again I7 n7
  | brk=>obtain⟨σ7,H7,I7,q7⟩:=q7;exact⟨σ7,H7,I7.lB,q7⟩
  | ret v=>obtain⟨x7,σ7,H7,I7,r7,q7⟩:=q7;exact⟨x7,σ7,H7,I7.lB,r7,q7⟩
end
end L2
namespace L2
open PySem PySem.Spec PyProof.Rows
abbrev R2:=V->V->Hp->VK->Prop
def iu(X:Cx)(f:Value->Value->Sem Value)(r:R2):Prop :=
 ∀ (MG:List (Addr×Obj)) (s:Shared) (σ:St) (H:Hp) (x y:V) (v u:Value) (Q:VK),Inv X MG σ H s->RelV x v->RelV y u->r x y H Q ->
  wpAny (model X.prog X.w) X.A (f v u) (EP X MG σ Q) X.xe s
def Lz(X:Cx)(f:Value->Sem Value)(r:V->Hp->VK->Prop):Prop :=
 ∀ (MG:List (Addr×Obj)) (s:Shared) (σ:St) (H:Hp) (x:V) (v:Value) (Q:VK),Inv X MG σ H s->RelV x v->r x H Q ->
  wpAny (model X.prog X.w) X.A (f v) (EP X MG σ Q) X.xe s
def dQ(X:Cx)(f:Value)(r:List V->Hp->VK->Prop):Prop :=
 ∀ (MG:List (Addr×Obj)) (s:Shared) (σ:St) (H:Hp) (xs:List V) (us:List Value) (Q:VK),Inv X MG σ H s->Vals xs us->r xs H Q ->
  wpAny (model X.prog X.w) X.A (call f us) (EP X MG σ Q) X.xe s
def J1(r:R2)(ta tb:TE):TE:=fun σ H Q=>ta σ H λx H1=>tb σ H1 λy H2=>r x y H2 Q
def L5(r:V->Hp->VK->Prop)(ta:TE):TE:=fun σ H Q=>ta σ H λx H1=>r x H1 Q
def rI(C:Int->Int->Prop)(g:Int->Int->V):R2:=λx y H Q=>∃ i j,x=.int i/\y=.int j/\C i j/\Q (g i j) H
def xv(g:Int->Int->V):R2:=λx y H Q=>∃ i j,x=.int i/\y=.int j/\Q (g i j) H
def rU(g:Int->V):V->Hp->VK->Prop:=λx H Q=>∃ i,x=.int i/\Q (g i) H
section
variable{X:Cx}{a b c:Expr}{ta tb tc:TE}{pos:Pos}
theorem GC(ha:PE X a ta)(hb:PE X b tb){MG:List (Addr×Obj)}{s:Shared}{σ:St}{H:Hp}{R:V->V->Hp->Prop}(I:Inv X MG σ H s)
  (h:ta σ H λx H1=>tb σ H1 λy H2=>R x y H2) {Q:Value->Shared->Prop} {f:Value->Value->Sem Value}
  (hf:∀ v u s2 x y H2,Inv X MG σ H2 s2->RelV x v->RelV y u->R x y H2->wpAny (model X.prog X.w) X.A (f v u) Q X.xe s2) :
  wpAny (model X.prog X.w) X.A (eval a X.env) (λv s₁=>wpAny (model X.prog X.w) X.A (eval b X.env) (λu s₂=>wpAny (model X.prog X.w) X.A (f v u) Q X.xe s₂) X.xe s₁) X.xe s:=by
 refine c6 (ha MG s σ H _ I h) λv s1 ⟨x,H1,I1,r1,q1⟩=>?_
 refine c6 (hb MG s1 σ H1 _ I1 q1) λu s2 ⟨y,H2,I2,r2,q2⟩=>?_
 exact hf v u s2 x y H2 I2 r1 r2 q2
theorem EK{op:Operator}{r:R2}(ho:iu X (binaryOp op) r)(ha:PE X a ta)(hb:PE X b tb):PE X (.BinOp a op b pos) (J1 r ta tb):=by
 intro MG s σ H Q I h
 exact wpAny_BinOp (GC ha hb I h λv u s2 x y H2 I2 rx ry q=>ho MG s2 σ H2 x y v u Q I2 rx ry q)
theorem JT{op:UnaryOp}{r:V->Hp->VK->Prop}(ho:Lz X (unaryOp op) r)(ha:PE X a ta):PE X (.UnaryOp op a pos) (L5 r ta):=by
 intro MG s σ H Q I h
 exact UnaryOp_ (c6 (ha MG s σ H _ I h) λv s1 ⟨x,H1,I1,r1,q1⟩=>ho MG s1 σ H1 x v Q I1 r1 q1)
theorem Kj{f:Value->Value->Sem Value}{C:Int->Int->Prop}{g:Int->Int->Int}
  (rule:∀ (i j:Int) (t u:Tok) (s:Shared) (Q:Value->Shared->Prop) (E:Value->Shared->Prop),C i j->Q (.int (g i j) s.toks) { s with toks:=s.toks+1 }->wpAny (model X.prog X.w) X.A (f (.int i t) (.int j u)) Q E s) :
  iu X f (rI C λi j=>.int (g i j)):=by
 intro MG s σ H x y v u Q I rx ry h
 obtain⟨i,j,rfl,rfl,hc,q⟩:=h
 obtain⟨t,rfl⟩:=rx
 obtain⟨t',rfl⟩:=ry
 exact rule i j t t' s _ _ hc ⟨.int (g i j),H,I.tok _,⟨_,rfl⟩,q⟩
theorem Js{f:Value->Value->Sem Value}{g:Int->Int->Int}
  (rule:∀ (i j:Int) (t u:Tok) (s:Shared) (Q:Value->Shared->Prop) (E:Value->Shared->Prop),Q (.int (g i j) s.toks) { s with toks:=s.toks+1 }->wpAny (model X.prog X.w) X.A (f (.int i t) (.int j u)) Q E s) :
  iu X f (xv λi j=>.int (g i j)):=by
 intro MG s σ H x y v u Q I rx ry h
 obtain⟨i,j,rfl,rfl,q⟩:=h
 obtain⟨t,rfl⟩:=rx
 obtain⟨t',rfl⟩:=ry
 exact rule i j t t' s _ _ ⟨.int (g i j),H,I.tok _,⟨_,rfl⟩,q⟩
theorem CT{f:Value->Value->Sem Value}{g:Int->Int->Bool}
  (rule:∀ (i j:Int) (t u:Tok) (s:Shared) (Q:Value->Shared->Prop) (E:Value->Shared->Prop),Q (.bool (g i j)) s->wpAny (model X.prog X.w) X.A (f (.int i t) (.int j u)) Q E s) :
  iu X f (xv λi j=>.bl (g i j)):=by
 intro MG s σ H x y v u Q I rx ry h
 obtain⟨i,j,rfl,rfl,q⟩:=h
 obtain⟨t,rfl⟩:=rx
 obtain⟨t',rfl⟩:=ry
 exact rule i j t t' s _ _ ⟨.bl (g i j),H,I,rfl,q⟩
def Gu(i j:Int):Prop:=0<=j/\j<=1000000/\i.natAbs<2^64
theorem FU:iu X (binaryOp .Add) (xv λi j=>.int (i+j)):=Js λ_ _ _ _ _ _ _ q=>add_int q
theorem GO:iu X (binaryOp .Sub) (xv λi j=>.int (i-j)):=Js λ_ _ _ _ _ _ _ q=>sub_int q
theorem Dq:iu X (binaryOp .Mod) (rI (λ_ j=>j≠0) λi j=>.int (i.fmod j)):=Kj λ_ _ _ _ _ _ _ hc q=>mod_int' hc q
theorem FQ:iu X (binaryOp .Pow) (rI Gu λi j=>.int (i^j.toNat)):=Kj λ_ _ _ _ _ _ _ hc q=>pow_int_small hc.1 hc.2.1 hc.2.2 q
theorem Mu{f:Value->Sem Value}{g:Int->Int}
  (rule:∀ (i:Int) (t:Tok) (s:Shared) (Q:Value->Shared->Prop) (E:Value->Shared->Prop),Q (.int (g i) s.toks) { s with toks:=s.toks+1 }->wpAny (model X.prog X.w) X.A (f (.int i t)) Q E s) :
  Lz X f (rU λi=>.int (g i)):=by
 intro MG s σ H x v Q I rx h
 obtain⟨i,rfl,q⟩:=h
 obtain⟨t,rfl⟩:=rx
 exact rule i t s _ _ ⟨.int (g i),H,I.tok _,⟨_,rfl⟩,q⟩
theorem FD:Lz X (unaryOp .USub) (rU λi=>.int (-i)):=Mu λ_ _ _ _ _ q=>neg_int q
end
section
variable{X:Cx}{a b c:Expr}{ta tb tc:TE}{pos:Pos}
theorem sJ{MG:List (Addr×Obj)}{σ:St}{H:Hp}{s:Shared}{Q:VK}{k k':Bool}(I:Inv X MG σ H s)(q:Q (.bl k) H)(e:k=k'):EP X MG σ Q (.bool k') s:=by
 subst e
 exact⟨.bl k,H,I,rfl,q⟩
theorem B7:iu X (compareOp .Lt) (xv λi j=>.bl (decide (i<j))):=CT λ_ _ _ _ _ _ _ q=>lt_int q
theorem vB:iu X (compareOp .LtE) (xv λi j=>.bl (decide (i<=j))):=CT λ_ _ _ _ _ _ _ q=>le_int q
theorem EL:iu X (compareOp .Gt) (xv λi j=>.bl (decide (j<i))):=CT λ_ _ _ _ _ _ _ q=>gt_int q
theorem EM:iu X (compareOp .GtE) (xv λi j=>.bl (decide (j<=i))):=CT λ_ _ _ _ _ _ _ q=>ge_int q
theorem CD:iu X (compareOp .Is) (λx y H Q=>y=.cR/\Q (.bl (decide (x=.cR))) H):=by
 intro MG s σ H x y v u Q I rx ry h
 obtain⟨rfl,q⟩:=h
 cases ry
 refine is_none_gen (sJ I q ?_)
 cases x <;> first
  | (cases rx;rfl)
  | (obtain⟨t,rfl⟩:=rx;rfl)
theorem xH:iu X (compareOp .IsNot) (λx y H Q=>y=.cR/\Q (.bl (!decide (x=.cR))) H):=by
 intro MG s σ H x y v u Q I rx ry h
 obtain⟨rfl,q⟩:=h
 cases ry
 refine isnot_none_gen (sJ I q ?_)
 cases x <;> first
  | (cases rx;rfl)
  | (obtain⟨t,rfl⟩:=rx;rfl)
theorem iu.or{f:Value->Value->Sem Value}{r r':R2}(h:iu X f r)(h':iu X f r'):iu X f (λx y H Q=>r x y H Q\/r' x y H Q):=by
 intro MG s σ H x y v u Q I rx ry q
 rcases q with q | q
 ·exact h MG s σ H x y v u Q I rx ry q
 ·exact h' MG s σ H x y v u Q I rx ry q
theorem dS(b:Expr){op:CmpOp}(h:autoParam (op≠.In) aD._auto_1)(h2:autoParam (op≠.NotIn) aD._auto_1):behindInMarks op b=false:=by
 have e1:(op==CmpOp.In)=false:=by cases op <;> first | rfl | exact absurd rfl h
 have e2:(op==CmpOp.NotIn)=false:=by cases op <;> first | rfl | exact absurd rfl h2
 cases b <;> simp[behindInMarks,e1,e2]
theorem Ef{op:CmpOp}{r:R2}(ho:iu X (compareOp op) r)(ha:PE X a ta)(hb:PE X b tb)(hm:behindInMarks op b=false):PE X (.Compare a [op] [b] pos) (J1 r ta tb):=by
 intro MG s σ H Q I h
 exact wpAny_Compare1 (GC ha hb I h λv u s2 x y H2 I2 rx ry q=>ho MG s2 σ H2 x y v u Q I2 rx ry q) hm
def IE(t:TE):TT:=fun σ H Q=>t σ H λx H'=>∃ k,x=.bl k/\Q k H'
theorem Ew{op:CmpOp}{r:R2}(ho:iu X (compareOp op) r)(ha:PE X a ta)(hb:PE X b tb)(hm:behindInMarks op b=false):PT X (.Compare a [op] [b] pos) (IE (J1 r ta tb)):=by
 intro MG s σ H Q I h
 refine wpAny_isTrue_Compare1 (c6 (ha MG s σ H _ I h) λv s1 ⟨x,H1,I1,r1,q1⟩=>c6 (hb MG s1 σ H1 _ I1 q1) λu s2 ⟨y,H2,I2,r2,q2⟩ =>
  c6 (ho MG s2 σ H2 x y v u _ I2 r1 r2 q2) λc s3 ⟨z,H3,I3,r3,k,e,q3⟩=>?_) hm
 subst e
 cases r3
 exact wpAny_truthy_bool ⟨H3,I3,q3⟩
def Bs(r r':R2)(ta tb tc:TE):TE:=fun σ H Q=>ta σ H λx H1=>tb σ H1 λy H2=>r x y H2 λz H3=>∃ k,z=.bl k ∧
 (if k=true then tc σ H3 λw' H4=>r' y w' H4 Q else Q (.bl false) H3)
theorem AW{op P1:CmpOp}{r r':R2}(ho:iu X (compareOp op) r)(OD:iu X (compareOp P1) r')(ha:PE X a ta)(hb:PE X b tb)(hc:PE X c tc)
  (hm:autoParam (lastMarks [op,P1] [b,c]=false) aU._auto_1):PE X (.Compare a [op,P1] [b,c] pos) (Bs r r' ta tb tc):=by
 intro MG s σ H Q I h
 refine Compare_chain (c6 (ha MG s σ H _ I h) λv s1 ⟨x,H1,I1,r1,q1⟩=>chain_link (c6 (hb MG s1 σ H1 _ I1 q1) λu s2 ⟨y,H2,I2,r2,q2⟩ =>
  c6 (ho MG s2 σ H2 x y v u _ I2 r1 r2 q2) λd s3 ⟨z,H3,I3,r3,k,e,q3⟩=>?_)) hm
 subst e
 cases r3
 refine wpAny_truthy_bool ?_
 cases k with
 | false=>exact ite_ff ⟨.bl false,H3,I3,rfl,q3⟩
 | true=>exact ite_tt (chain_last (c6 (hc MG s3 σ H3 _ I3 q3) λw' s4 ⟨z',H4,I4,r4,q4⟩=>OD MG s4 σ H4 y z' u w' Q I4 r2 r4 q4))
theorem mi:(sizeLine:Nat)<2^63:=by rw[sizeLine_eq];decide
theorem xg:iu X (binaryOp .Add) (λx y H Q=>∃ i j,x=.str i/\y=.str j/\i.length+j.length<=sizeLine/\Q (.str (i++j)) H):=by
 intro MG s σ H x y v u Q I rx ry h
 obtain⟨i,j,rfl,rfl,hz,q⟩:=h
 obtain⟨t,rfl⟩:=rx
 obtain⟨t',rfl⟩:=ry
 exact add_str (λt' tk=>⟨.str (i++j),H,I.tok _,⟨_,rfl⟩,q⟩) hz
theorem vals1{x:V}{us:List Value}(r:Vals [x] us):∃ u,us=[u]/\RelV x u:=by
 cases r with
 | cons r1 r2=>cases r2;exact⟨_,rfl,r1⟩
theorem vals2{x y:V}{us:List Value}(r:Vals [x,y] us):∃ u w',us=[u,w']/\RelV x u/\RelV y w':=by
 cases r with
 | cons r1 r2 =>
  cases r2 with
  | cons r3 r4=>cases r4;exact⟨_,_,rfl,r1,r3⟩
theorem yR(hc:X.calm=true):dQ X (.builtin "max") (λxs H Q=>∃ i j,xs=[.int i,.int j]/\Q (.int (if j>i then j else i)) H):=by
 intro MG s σ H xs us Q I r h
 obtain⟨i,j,rfl,q⟩:=h
 obtain⟨u,w',rfl,⟨t,rfl⟩,⟨t',rfl⟩⟩:=vals2 r
 refine max_two_ints (I.ok.hd hc) λh' tk k=>⟨_,H,I.kept k,?_,q⟩
 by_cases hj:j>i
 ·rw[if_pos hj,if_pos hj];exact⟨_,rfl⟩
 ·rw[if_neg hj,if_neg hj];exact⟨_,rfl⟩
end
end L2
namespace L2
open PySem PySem.Spec PyProof.Rows
structure wa (h:Heap) (x dx C:Addr) (mA:Str->Option Value):Prop where
 obj:h.get? x=some (PySem.W.instObj C dx)
 ns:h.Ns1 dx mA
 ne:dx≠x
theorem mf{h:Heap}{dx:Addr}{mA:Str->Option Value}(n:h.Ns1 dx mA):∃ od,h.get? dx=some od/\∀ name,PySem.W.lookIn name od=some (mA name):=by
 obtain⟨o,es,ep,ho,hd,hk,_,hm⟩:=n
 refine⟨o,ho,λname=>?_⟩
 have e:=hm name
 unfold nsFind findBy at e
 rw[← Array.find?_toList] at e
 unfold PySem.W.lookIn
 rw[hd]
 dsimp only
 split
 ·rename_i y q
  rw[q] at e
  exact congrArg some e
 ·rename_i q
  rw[q] at e
  have a:es.toList.any (·.refKey)=false:=by
   rw[List.any_eq_false]
   intro y hy
   obtain⟨z,t,hkey⟩:=hk y (Array.mem_toList_iff.mp hy)
   simp[DictEntry.refKey,hkey]
  have a':¬ es.toList.any (·.refKey)=true:=by rw[a];exact Bool.false_ne_true
  rw[if_neg a']
  exact congrArg some e
theorem wa.look{h:Heap}{x dx C:Addr}{mA:Str->Option Value}(I:wa h x dx C mA):∃ od,PySem.W.InstAt h x (PySem.W.instObj C dx) C (some od)/\∀ name,PySem.W.lookIn name od=some (mA name) :=
 let ⟨od,ho,hl⟩:=mf I.ns
 ⟨od,⟨I.obj,rfl,rfl,ho⟩,hl⟩
section
variable{prog:Program}{w:World}{A:Around}{E:Value->Shared->Prop}{s:Shared}{K:PySem.W.Frag}{x dx C f:Addr}{mA:Str->Option Value}{name:Str}{v:Value}
theorem get_map{expr:Bool}{Q:Value->Shared->Prop}(X:K.In s.heap)(I:wa s.heap x dx C mA)(hg:PySem.W.plainGet K C name=true)(hh:PySem.W.hasDictIn K C=true)
  (ha:PySem.W.findIn K (.ref C) name=some none) (hv:mA name=some v) (P_:PySem.W.handedIn v=true) (h:Q v { s with toks:=s.toks+1 }) :
  wpAny (model prog w) A (getAttr (.ref x) name expr) Q E s:=by
 obtain⟨od,J,hl⟩:=I.look
 exact PySem.W.get_value X J (PySem.W.plainGet_of hg).1 (PySem.W.findObj_own hh ha rfl (by rw[hl,hv])) P_ h
theorem BA{pl:Sem Bool}{Q:Value×List Value->Shared->Prop}(X:K.In s.heap)(I:wa s.heap x dx C mA)(hg:PySem.W.plainGet K C name=true)
  (hf:PySem.W.findIn K (.ref C) name=some (some (.ref f))) (ht:PySem.W.isFn K (.ref f)=true) (hv:mA name=none) (h:Q (.ref f,[.ref x]) s) :
  wpAny (model prog w) A (getMethod (.ref x) name pl) Q E s:=by
 obtain⟨od,J,hl⟩:=I.look
 exact PySem.W.method_fn X J (PySem.W.plainGet_of hg).1 (PySem.W.plainGet_of hg).2 hf (beq_iff_eq.mp ht) (by show (PySem.W.lookIn name od).map (·.isSome)=some false;rw[hl,hv];rfl) h
theorem C_{ns:List Str}{Q:Unit->Shared->Prop}(X:K.In s.heap)(I:wa s.heap x dx C mA)
  (hs:PySem.W.findIn K (.ref C) "__setattr__" = some (some (.builtin "object.__setattr__"))) (hp:PySem.W.plainOver K C=true) (ht:PySem.W.takerIn K C name=some none) (hh:PySem.W.hasDictIn K C=true)
  (hw:PySem.Within mA ns) (Oe:ns.length<=sizeLine)
  (h:∀ h',wa h' x dx C (λy=>if y=name then some v else mA y)->Heap.SameBut dx s.heap h'->Q () { s with heap:=h',toks:=s.toks+2 }) :
  wpAny (model prog w) A (setAttr (.ref x) name v) Q E s:=by
 obtain⟨od,J,hl⟩:=I.look
 refine PySem.W.set_plain X J hs (PySem.W.osa_open (s:={ s with toks:=s.toks+1 }) (r:=none) X J hp ht λb=>?_)
 obtain⟨cd,hc,Qi⟩:=PySem.W.any_some hh
 have hx:s.heap.get? x=some ⟨.ref C,some dx,.plain,#[]⟩:=I.obj
 refine wpAny_bind (wpAny_pure (wpAny_bind (wpAny_bind (wpAny_loadPart hx (wpAny_bind (PySem.W.Looks.here (s:={ s with toks:=s.toks+1 }) (PySem.W.looks_clsIn X hc) ?_))))))
 rw[Qi]
 refine wpAny_pure (a:=some dx) (wpAny_bind (wpAny_pure (wpAny_bind ?_)))
 refine wpAny_nsSet1 (s:={ s with toks:=s.toks+1 }) I.ns λh' Px N8=>?_
 obtain⟨oD,esD,epD,hoD,hdD,O4⟩:=Px.count (PySem.Within.cons name v hw)
 refine wpAny_bind (wpAny_lookBehind hoD (by rw[hdD];exact pastItsLine_dict (Nat.le_trans O4 (by rw[List.length_cons];omega))) ?_)
 exact wpAny_pure (h _ ⟨(N8.2 _ (Ne.symm I.ne)).trans I.obj,Px,I.ne⟩ N8)
theorem z_{R:Result->Shared->Prop}{vs:List Value}{kw:List (Str×Value)}(X:K.In s.heap)(hm:PySem.W.makesIn K C=true)
  (hi:PySem.W.findIn K (.ref C) "__init__" = some (some (.ref f))) (hf:PySem.W.typeIn K (.ref f)=some (.type "function"))
  (h:codeAny (model prog w) (A.under (.builtin "type.__call__" ⟨.ref C::vs,kw⟩)) (.call (.ref f) ⟨.ref (s.heap.objs.size+1)::vs,kw⟩) (PySem.W.InitBack (s.heap.objs.size+1) R)
   { s with heap:=(s.heap.push PySem.W.emptyDict).push (PySem.W.instObj C s.heap.objs.size) }) :
  codeAny (model prog w) A (.call (.ref C) ⟨vs,kw⟩) R s:=by
 obtain⟨hh,g,d,t,os⟩:=s
 exact PySem.W.make_core (PySem.W.makes_of X hm) (PySem.W.looks_findIn X hi) (λself=>PySem.W.bind_fn X self hf) (.inl rfl) h
end
def jQ(f:Str)(v:V):List (Str×V)->List (Str×V)
 | []=>[(f,v)]
 | (g,x)::r=>if g=f then (g,v)::r else (g,x)::jQ f v r
theorem mV(f g:Str)(v:V):∀ fs:List (Str×V),(jQ f v fs).lookup g=if g=f then some v else fs.lookup g
 | []=>by
  show List.lookup g [(f,v)]=_
  by_cases h:g=f
  ·have hb:(g==f)=true:=beq_iff_eq.mpr h
   simp only[List.lookup,hb,if_pos h]
  ·have hb:(g==f)=false:=beq_eq_false_iff_ne.mpr h
   simp only[List.lookup,hb,if_neg h]
 | (k,x)::r=>by
  have ih:=mV f g v r
  rw[show jQ f v ((k,x)::r)=(if k=f then (k,v)::r else (k,x)::jQ f v r) from rfl]
  by_cases hk:k=f
  ·rw[if_pos hk]
   by_cases h:g=k
   ·have hb:(g==k)=true:=beq_iff_eq.mpr h
    simp only[List.lookup,hb,if_pos (h.trans hk)]
   ·have hb:(g==k)=false:=beq_eq_false_iff_ne.mpr h
    simp only[List.lookup,hb,if_neg (λe:g=f=>h (e.trans hk.symm))]
  ·rw[if_neg hk]
   by_cases h:g=k
   ·have hb:(g==k)=true:=beq_iff_eq.mpr h
    simp only[List.lookup,hb,if_neg (λe:g=f=>hk (h.symm.trans e))]
   ·have hb:(g==k)=false:=beq_eq_false_iff_ne.mpr h
    simp only[List.lookup,hb]
    exact ih
theorem mr(f:Str)(v:V):∀ fs:List (Str×V),f∈(jQ f v fs).map (·.1)/\∀ g,g∈fs.map (·.1)->g∈(jQ f v fs).map (·.1)
 | []=>⟨by simp[jQ],λg h=>by simp at h⟩
 | (k,x)::r=>by
  obtain⟨i1,i2⟩:=mr f v r
  rw[show jQ f v ((k,x)::r)=(if k=f then (k,v)::r else (k,x)::jQ f v r) from rfl]
  by_cases hk:k=f
  ·rw[if_pos hk]
   subst hk
   exact⟨by simp,λg h=>by simpa using h⟩
  ·rw[if_neg hk]
   refine⟨?_,λg h=>?_⟩
   ·rw[List.map_cons]
    exact List.mem_cons_of_mem _ i1
   ·rw[List.map_cons] at h ⊢
    rcases List.mem_cons.mp h with e | e
    ·exact List.mem_cons.mpr (.inl e)
    ·exact List.mem_cons_of_mem _ (i2 g e)
theorem mY(f:Str)(v:V):∀ fs:List (Str×V),(jQ f v fs).length<=fs.length+1
 | []=>by simp[jQ]
 | (k,x)::r=>by
  have ih:=mY f v r
  rw[show jQ f v ((k,x)::r)=(if k=f then (k,v)::r else (k,x)::jQ f v r) from rfl]
  by_cases hk:k=f
  ·rw[if_pos hk,List.length_cons,List.length_cons];omega
  ·rw[if_neg hk,List.length_cons,List.length_cons];omega
theorem mv.some_of{v:V}{o:Option Value}(r:mv (some v) o):∃ u,o=some u/\RelV v u:=by
 cases o with
 | none=>exact(show False from r).elim
 | some u=>exact⟨u,rfl,r⟩
theorem mv.none_of{o:Option Value}(r:mv none o):o=none:=by
 cases o with
 | none=>rfl
 | some u=>exact(show False from r).elim
theorem zj{v:V}{u:Value}(r:RelV v u):PySem.W.handedIn u=true:=by
 cases v with
 | cR=>cases (show u=Value.none from r);rfl
 | bl b=>cases (show u=Value.bool b from r);rfl
 | int i=>obtain⟨t,e⟩:=(show ∃ t,u=Value.int i t from r);cases e;rfl
 | str x=>obtain⟨t,e⟩:=(show ∃ t,u=Value.str x t from r);cases e;rfl
 | byt b=>obtain⟨t,e⟩:=(show ∃ t,u=Value.bytes b t from r);cases e;rfl
 | E6 b=>obtain⟨t,e⟩:=(show ∃ t,u=Value.float b t from r);cases e;rfl
 | ref a=>cases (show u=Value.ref a from r);rfl
 | ty n=>cases (show u=Value.type n from r);rfl
section
variable{P:Program}{w:World}{H H':Hp}{h h':Heap}{a C dx:Addr}{fs PD:List (Str×V)}
theorem lT(bM:mU P w H h)(e:H a=some (.ins C dx fs)):∃ mA,wa h a dx C mA/\(∀ f,mv (fs.lookup f) (mA f))/\PySem.Within mA (fs.map (·.1))/\fs.length<=1000/\H dx=some (.own a):=by
 obtain⟨d,z,ne,ob,mA,n,r,q⟩:=(show cw P w H h a (.ins C dx fs) from bM a _ e)
 exact⟨mA,⟨ob,n,ne⟩,r,q,z,d⟩
end
structure jT (K:PySem.W.Frag) (C:Addr):Prop where
 pg:PySem.W.plainGet K C Str.empty=true
 hd:PySem.W.hasDictIn K C=true
 po:PySem.W.plainOver K C=true
 sa:PySem.W.findIn K (.ref C) "__setattr__" = some (some (.builtin "object.__setattr__"))
theorem jT.get{K:PySem.W.Frag}{C:Addr}(c:jT K C)(f:Str):PySem.W.plainGet K C f=true:=c.pg
def bH(K:PySem.W.Frag)(C:Addr)(f:Str):Prop:=PySem.W.findIn K (.ref C) f=some none
theorem bH.Fe{K:PySem.W.Frag}{C:Addr}{f:Str}(n:bH K C f):PySem.W.takerIn K C f=some none:=by
 unfold PySem.W.takerIn
 rw[show PySem.W.findIn K (.ref C) f=some none from n]
 rfl
structure Meth (K:PySem.W.Frag) (C:Addr) (m:Str) (f:Addr):Prop where
 at_:PySem.W.findIn K (.ref C) m=some (some (.ref f))
 fn:PySem.W.isFn K (.ref f)=true
 kp:PySem.W.keepIn K (.ref f)=true
section
variable{X:Cx}{MG:List (Addr×Obj)}{σ:St}{H:Hp}{s:Shared}{a C dx:Addr}{fs:List (Str×V)}{f:Str}{v:V}{A:Around}{E:Value->Shared->Prop}
theorem wo{b:Bool}{Q:Value->Shared->Prop}(I:Inv X MG σ H s)(e:H a=some (.ins C dx fs))(c:jT X.K C)(n:bH X.K C f)(l:fs.lookup f=some v)
  (h:∀ u s',Inv X MG σ H s'->RelV v u->Q u s'):wpAny (model X.prog X.w) A (getAttr (.ref a) f b) Q E s:=by
 obtain⟨mA,O,r,_,_,_⟩:=lT I.bM e
 obtain⟨u,hu,ru⟩:=mv.some_of (v:=v) (o:=mA f) (by rw[← l];exact r f)
 exact get_map I.jR O (c.get f) c.hd n hu (zj ru) (h u _ (I.tok _) ru)
theorem kS{m:Str}{g:Addr}{pl:Sem Bool}{Q:Value×List Value->Shared->Prop}(I:Inv X MG σ H s)(e:H a=some (.ins C dx fs))(c:jT X.K C)(k:Meth X.K C m g)(l:fs.lookup m=none)
  (h:Q (.ref g,[.ref a]) s):wpAny (model X.prog X.w) A (getMethod (.ref a) m pl) Q E s:=by
 obtain⟨mA,O,r,_,_,_⟩:=lT I.bM e
 have hn:mA m=none:=mv.none_of (by rw[← l];exact r m)
 exact BA I.jR O (c.get m) k.at_ k.fn hn h
theorem wM{y:V}{u:Value}{Q:Unit->Shared->Prop}(I:Inv X MG σ H s)(e:H a=some (.ins C dx fs))(c:jT X.K C)(n:bH X.K C f)(hl:fs.length<1000)(ry:RelV y u)
  (h:∀ s',Inv X MG σ (upd H a (.ins C dx (jQ f y fs))) s'->Q () s'):wpAny (model X.prog X.w) A (setAttr (.ref a) f u) Q E s:=by
 obtain⟨mA,O,r,wi,_,ho⟩:=lT I.bM e
 have hz:(fs.map (·.1)).length<=sizeLine:=by rw[List.length_map,sizeLine_eq];omega
 refine C_ I.jR O c.sa c.po n.Fe c.hd wi hz λh' O' sb=>h _ ?_
 have hd:∃ o,h'.get? dx=some o:=let ⟨o,_,_,e',_⟩:=O'.ns;⟨o,e'⟩
 refine I.write (x:=a) (e:=dx) (by rw[e];exact True.intro) (.inr ho) (λb q hb z=>(sb.2 b hb).trans z) hd ?_
 refine⟨by rw[aw O.ne];exact ho,?_,O.ne,O'.obj,_,O'.ns,λg=>?_,λg hg=>?_⟩
 ·have:=mY f y fs;omega
 ·show mv ((jQ f y fs).lookup g) (if g=f then some u else mA g)
  rw[mV]
  by_cases q:g=f
  ·rw[if_pos q,if_pos q];exact ry
  ·rw[if_neg q,if_neg q];exact r g
 ·by_cases q:g=f
  ·rw[q];exact(mr f y fs).1
  ·refine(mr f y fs).2 g (wi g λz=>hg ?_)
   show (if g=f then some u else mA g)=none
   rw[if_neg q];exact z
theorem Inv.made(I:Inv X MG σ H s):Inv X MG σ (upd (upd H s.heap.objs.size (.own (s.heap.objs.size+1))) (s.heap.objs.size+1) (.ins C s.heap.objs.size []))
  { s with heap:=(s.heap.push PySem.W.emptyDict).push (PySem.W.instObj C s.heap.objs.size) }:=by
 have e1:(s.heap.push PySem.W.emptyDict).get? s.heap.objs.size=some PySem.W.emptyDict:=Heap.get?_push_size s.heap rfl
 have e2:((s.heap.push PySem.W.emptyDict).push (PySem.W.instObj C s.heap.objs.size)).get? (s.heap.objs.size+1)=some (PySem.W.instObj C s.heap.objs.size):=by
  have:=Heap.get?_push_size (s.heap.push PySem.W.emptyDict) (o:=PySem.W.instObj C s.heap.objs.size) rfl
  rwa [Heap.size_push] at this
 have e3:(s.heap.push PySem.W.emptyDict).Ns s.heap.objs.size (λ_=>none):=⟨PySem.W.emptyDict,#[],_,e1,rfl,(λe he=>absurd he (by simp)),λ_=>rfl⟩
 have I1:=I.laid (a:=s.heap.objs.size) (o:=.own (s.heap.objs.size+1)) (h':=s.heap.push PySem.W.emptyDict) (t':=s.toks) (λb u q=>Heap.get?_push_of_some _ q) (Nat.le_refl _) ⟨_,e1⟩
 refine I1.laid (a:=s.heap.objs.size+1) (o:=.ins C s.heap.objs.size []) (t':=s.toks) (λb u q=>Heap.get?_push_of_some _ q) (Nat.le_of_eq (Heap.size_push _ _)) ?_
 have ne:s.heap.objs.size≠s.heap.objs.size+1:=Nat.ne_of_lt (Nat.lt_succ_self _)
 refine⟨by rw[aw ne,aB],Nat.zero_le _,ne,e2,λ_=>none,(Heap.Ns1.of_empty e3).at λo q=>Heap.get?_push_of_some _ q,λ_=>True.intro,λy hy=>absurd rfl hy⟩
theorem Dm{prog:Program}{w:World}{env:Env}{e:Expr}{f:Str}{pos:Pos}{s:Shared}{Q:Value->Shared->Prop}(hb:attributeBase e f env (eval e env)=eval e env)
  (h:wpAny (model prog w) A (eval e env) (λo s₁=>wpAny (model prog w) A (getAttr o f true) Q E s₁) E s):wpAny (model prog w) A (eval (.Attribute e f pos) env) Q E s :=
 Attribute_any_ h (by rw[arm_eval_Attribute,hb])
end
def Lx(K:PySem.W.Frag)(ta:TE)(f:Str):TE:=fun σ H Q=>ta σ H λx H1=>∃ a C dx fs v,x=.ref a/\H1 a=some (.ins C dx fs)/\jT K C/\bH K C f/\fs.lookup f=some v/\Q v H1
def KY(K:PySem.W.Frag)(ta tv:TE)(f:Str):TS:=λD σ H=>tv σ H λy H1=>ta σ H1 λx H2=>∃ a C dx fs,x=.ref a/\H2 a=some (.ins C dx fs)/\jT K C/\bH K C f/\fs.length<1000 ∧
 D.nx σ (upd H2 a (.ins C dx (jQ f y fs)))
section
variable{X:Cx}{o e value:Expr}{f:Str}{pos pos' tpos:Pos}{ta tv:TE}
theorem HN(he:PE X e ta)(hb:attributeBase e f X.env (eval e X.env)=eval e X.env):PE X (.Attribute e f pos) (Lx X.K ta f):=by
 intro MG s σ H Q I h
 refine Dm hb (c6 (he MG s σ H _ I h) λu s1 ⟨x,H1,I1,rx,a,C,dx,fs,v,ex,ea,c,n,l,q⟩=>?_)
 subst ex
 obtain rfl:u=Value.ref a:=rx
 exact wo I1 ea c n l λu' s2 I2 ru=>⟨v,H1,I2,ru,q⟩
theorem HS(ha:PE X o ta)(hv:PE X value tv)(hs:swapsWith value (some (.Attribute o f pos')) pos.line X.env=pure false):PS X (.Assign [.Attribute o f pos'] value pos) (KY X.K ta tv f):=by
 intro MG s σ H D I h
 refine plainObj_wpAny_Assign_Attribute (c6 (hv MG s σ H _ I h) λu s1 ⟨y,H1,I1,ry,q⟩=>c6 (ha MG s1 σ H1 _ I1 q) λov s2 ⟨x,H2,I2,rx,a,C,dx,fs,ex,ea,c,n,l,q2⟩=>?_) hs
 subst ex
 obtain rfl:ov=Value.ref a:=rx
 exact wM I2 ea c n l ry λs3 I3=>⟨σ,_,I3,q2⟩
end
section
variable{X:Cx}{MG:List (Addr×Obj)}{σ:St}{H:Hp}{s:Shared}{A:Around}{E:Value->Shared->Prop}{Q:Value->Shared->Prop}{c:Value}{b:Bool}
inductive j4 (K:PySem.W.Frag) (H:Hp):V->Value->Prop where
 | cR:j4 K H .cR (.type "NoneType")
 | bl (x:Bool):j4 K H (.bl x) (.type "bool")
 | int (i:Int):j4 K H (.int i) (.type "int")
 | str (x:Str):j4 K H (.str x) (.type "str")
 | E6 (x:UInt64):j4 K H (.E6 x) (.type "float")
 | lst {a:Addr} {xs:List V} (e:H a=some (.lst xs)):j4 K H (.ref a) (.type "list")
 | qB {a:Addr} {o:Obj} {xs:List V} (e:H a=some (.qB o (.lst xs))):j4 K H (.ref a) (.type "list")
 | tup {a:Addr} {xs:List V} (e:H a=some (.tup xs)):j4 K H (.ref a) (.type "tuple")
 | dK {a:Addr} {NF:List (Key×V)} (e:H a=some (.dK NF)):j4 K H (.ref a) (.type "dict")
 | dT {a:Addr} {NF:List (List Key×V)} (e:H a=some (.dT NF)):j4 K H (.ref a) (.type "dict")
 | ins {a C dx:Addr} {fs:List (Str×V)} (e:H a=some (.ins C dx fs)) (cl:jT K C) (ha:PySem.W.findIn K (.ref C) "__class__" = some (some (.builtin "object.__class__")))
   (hn:PySem.W.specialIn K (.builtin "object.__class__") "__get__" = some (some (.builtin "getset_descriptor.__get__"))) (Ip:PySem.W.takesIn K (.builtin "object.__class__")=some true)
   (hm:PySem.W.mroIn K C (.type "object")=some true):j4 K H (.ref a) (.ref C)
theorem yU{x:V}{u t:Value}(I:Inv X MG σ H s)(rx:RelV x u)(ty:j4 X.K H x t)(e:PySem.W.kitOne X.K t c=some b)(h:∀ tk,Q (.bool b) { s with toks:=tk }) :
  wpAny (model X.prog X.w) A (call (.builtin "isinstance") [u,c]) Q E s:=by
 cases ty with
 | cR=>cases (show u=Value.none from rx);exact PySem.W.kia_one PySem.W.kitx_none I.jR True.intro e (λz=>nomatch z) h
 | bl y=>cases (show u=Value.bool y from rx);exact PySem.W.kia_one PySem.W.kitx_bool I.jR True.intro e (λz=>nomatch z) h
 | int i=>obtain⟨t,q⟩:=(show ∃ t,u=Value.int i t from rx);cases q;exact PySem.W.kia_one PySem.W.kitx_int I.jR True.intro e (λz=>nomatch z) h
 | str y=>obtain⟨t,q⟩:=(show ∃ t,u=Value.str y t from rx);cases q;exact PySem.W.kia_one PySem.W.kitx_str I.jR True.intro e (λz=>nomatch z) h
 | E6 y=>obtain⟨t,q⟩:=(show ∃ t,u=Value.float y t from rx);cases q;exact PySem.W.kia_one PySem.W.kitx_float I.jR True.intro e (λz=>nomatch z) h
 | @lst a xs ea =>
  cases (show u=Value.ref a from rx)
  obtain⟨_,_,n,_,h1⟩:=(show cw X.prog X.w H s.heap a (.lst xs) from I.bM a _ ea)
  exact PySem.W.kia_one PySem.W.kitx_list I.jR ⟨_,h1,rfl⟩ e (λz=>nomatch z) h
 | @qB a ob xs ea =>
  cases (show u=Value.ref a from rx)
  obtain⟨_,_,_,n,_,h1⟩:=(show cw X.prog X.w H s.heap a (.qB ob (.lst xs)) from I.bM a _ ea)
  exact PySem.W.kia_one PySem.W.kitx_list I.jR ⟨_,h1,rfl⟩ e (λz=>nomatch z) h
 | @tup a xs ea =>
  cases (show u=Value.ref a from rx)
  obtain⟨_,_,_,p⟩:=(show cw X.prog X.w H s.heap a (.tup xs) from I.bM a _ ea)
  obtain⟨o,h1,h2,_⟩:=p
  exact PySem.W.kia_one PySem.W.kitx_tuple I.jR ⟨o,h1,h2⟩ e (λz=>nomatch z) h
 | @dK a NF ea =>
  cases (show u=Value.ref a from rx)
  obtain⟨_,_,vs,_,p⟩:=(show cw X.prog X.w H s.heap a (.dK NF) from I.bM a _ ea)
  obtain⟨o,es,ep,h1,h2,_⟩:=p
  exact PySem.W.kia_one PySem.W.kitx_dict I.jR ⟨o,h1,h2.1⟩ e (λz=>nomatch z) h
 | @dT a NF ea =>
  cases (show u=Value.ref a from rx)
  obtain⟨_,_,xs,_,o,es,ep,h1,h2,_⟩:=(show cw X.prog X.w H s.heap a (.dT NF) from I.bM a _ ea)
  exact PySem.W.kia_one PySem.W.kitx_dict I.jR ⟨o,h1,h2.1⟩ e (λz=>nomatch z) h
 | @ins a C dx fs ea cl ha hn Ip hm =>
  cases (show u=Value.ref a from rx)
  obtain⟨mA,O,_⟩:=lT I.bM ea
  obtain⟨od,J,_⟩:=O.look
  exact PySem.W.kia_one (PySem.W.kitx_own (cl.get _) cl.hd ha hn Ip hm) I.jR J e (λz=>nomatch z) h
end
end L2
namespace L2
open PySem PySem.Spec PyProof.Rows
structure cx (k:Nat) (A:Around):Prop where
 hd:A.handled=none
 dp:A.depth+3*k+5<recursionLimit
 un:A.units+16*k+200<cLine
theorem cx.mono{j k:Nat}{A:Around}(r:cx k A)(h:j<=k):cx j A:=⟨r.hd,by have:=r.dp;omega,by have:=r.un;omega⟩
theorem cx.deeper{k:Nat}{A:Around}(r:cx (k+1) A)(env:Env):cx k (A.deeper env) :=
 ⟨r.hd,by have:=r.dp;show A.depth+1+3*k+5<_;omega,by have:=r.un;show A.units+3+16*k+200<_;omega⟩
theorem xa{A:Around}{C:Addr}{us:List Value}{kw:List (Str×Value)}:(A.under (.builtin "type.__call__" ⟨.ref C::us,kw⟩)).depth=A.depth+1:=by
 first | rfl | simp[Around.under,Code.weight,Code.isCreation,Code.isGuard,Code.isCaller,Code.frames,Code.isFrame,guardIds]
theorem wx{A:Around}{C:Addr}{us:List Value}{kw:List (Str×Value)}:(A.under (.builtin "type.__call__" ⟨.ref C::us,kw⟩)).units=A.units+1:=by
 first | rfl | simp[Around.under,Code.cUnits,Code.frames,Code.isFrame]
theorem cx.make{k:Nat}{A:Around}(r:cx (k+1) A)(C:Addr)(us:List Value)(kw:List (Str×Value)):cx k (A.under (.builtin "type.__call__" ⟨.ref C::us,kw⟩)) :=
 ⟨r.hd,by have:=r.dp;rw[xa];omega,by have:=r.un;rw[wx];omega⟩
theorem cx.depth{k:Nat}{A:Around}(r:cx k A):A.depth<recursionLimit:=by have:=r.dp;omega
theorem cx.units{k:Nat}{A:Around}(r:cx k A):A.units+64<cLine:=by have:=r.un;omega
def IS:TA:=λ_ H Q=>Q [] H
def J9(ta:TE)(tr:TA):TA:=fun σ H Q=>ta σ H λx H1=>tr σ H1 λxs H2=>Q (x::xs) H2
section
variable{X:Cx}{e:Expr}{es:List Expr}{te:TE}{t:TA}{pos:Pos}
theorem mK:PA X [] IS:=λ_ _ _ _ H Q I h=>Calls.spliced_nil ⟨[],H,I,.nil,h⟩
theorem gN(ha:PE X e te)(hr:PA X es t)(hs:autoParam (starEach (e::es) X.env=(false,eval e X.env)::starEach es X.env) aR._auto_1):PA X (e::es) (J9 te t):=by
 intro pos MG s σ H Q I h
 rw[hs]
 show wpAny _ _ (spliced ((false,eval e X.env)::backTo pos (starEach es X.env))) _ _ s
 refine Calls.spliced_cons (c6 (ha MG s σ H _ I h) λu s1 ⟨x,H1,I1,r1,q1⟩=>?_)
 exact c6 (hr pos MG s1 σ H1 _ I1 q1) λus s2 ⟨xs,H2,I2,r2,q2⟩=>⟨x::xs,H2,I2,.cons r1 r2,q2⟩
def KD(t:TA):TE:=fun σ H Q=>t σ H λxs H1=>xs.length<=sizeLine/\∀ p,H1 p=none->Q (.ref p) (upd H1 p (.tup xs))
def Kw(t:TA):TE:=fun σ H Q=>t σ H λxs H1=>xs.length<=sizeLine/\∀ p,H1 p=none->Q (.ref p) (upd H1 p (.lst xs))
theorem BJ{x1}(h:PA X es t):PE X (.Tuple es x1 pos) (KD t):=by
 intro MG s σ H Q I hq
 refine wpAny_Tuple_spliced (c6 (h pos MG s σ H _ I hq) λus s1 ⟨xs,H1,I1,r,z,q⟩=>⟨by rw[← r.length];exact z,?_⟩)
 have hf:H1 s1.heap.objs.size=none:=I1.bM.fresh (Nat.le_refl _)
 refine⟨.ref s1.heap.objs.size,upd H1 s1.heap.objs.size (.tup xs),I1.laid (t':=s1.toks) (λb u e=>Heap.get?_push_of_some _ e) (Nat.le_refl _) ?_,rfl,q _ hf⟩
 exact⟨z,us,r,⟨_,Heap.get?_push_size _ rfl,rfl,_,rfl⟩⟩
theorem AJ(h:PA X es t):PE X (.List es pos) (Kw t):=by
 intro MG s σ H Q I hq
 refine wpAny_List_spliced (c6 (h pos MG s σ H _ I hq) λus s1 ⟨xs,H1,I1,r,z,q⟩=>⟨by rw[← r.length];exact z,?_⟩)
 have hf:H1 s1.heap.objs.size=none:=I1.bM.fresh (Nat.le_refl _)
 refine⟨.ref s1.heap.objs.size,upd H1 s1.heap.objs.size (.lst xs),I1.laid (t':=s1.toks) (λb u e=>Heap.get?_push_of_some _ e) (Nat.le_refl _) ?_,rfl,q _ hf⟩
 exact⟨z,us,0,r,Heap.get?_push_size _ rfl⟩
end
abbrev Sp:=List V->Hp->VK->XK->Prop
abbrev D9:=List Env->Hp->Shared->XK->Value->Shared->Prop
structure xk (P:Program) (w:World) (K:PySem.W.Frag) (mg:Str->Option Value) (base:Heap) (A:Around) (outer:List Env) (s:Shared) (H:Hp):Prop where
 frames:A.frames=some outer
 mod:Mod K mg base
 bs:∀ b o,base.get? b=some o->s.heap.get? b=some o/\H b=none
 Fg:base.objs.size<=s.heap.objs.size
 n_:s.heap.FunFrames base outer
 HM:∀ b∈vX outer,H b=none
 bM:mU P w H s.heap
 bare:AllBare s.gens
def CE(outer:List Env)(P:Program)(w:World)(H:Hp)(s:Shared)(Q:VK)(u:Value)(s':Shared):Prop :=
 ∃ v H',s'.os=s.os/\AllBare s'.gens/\Un (vX outer) [] H H' s.heap s'.heap/\mU P w H' s'.heap/\RelV v u/\Q v H'
def CR(CX:D9)(outer:List Env)(P:Program)(w:World)(H:Hp)(s:Shared)(Q:VK)(E:XK)(r:Result)(s':Shared):Prop :=
 match r with
 | .ok (.ret u)=>CE outer P w H s Q u s'
 | .ok _=>False
 | .error e=>CX outer H s E e s'
structure aJ (P:Program) (w:World) (K:PySem.W.Frag) (mg:Str->Option Value) (base:Heap) (CX:D9) (k:Nat) (f:Addr) (fd:FuncData) (ps:List Str) (sp:Sp):Prop where
 len:∀ vs H Q E,sp vs H Q E->vs.length=ps.length
 run:∀ (A:Around) (outer:List Env) (s:Shared) (H:Hp) (args:Args) (us:List Value) (vs:List V) (Q:VK) (E:XK),cx k A->xk P w K mg base A outer s H->BindsTo s fd args (ps.zip us)->Vals vs us->sp vs H Q E ->
  codeAny (model P w) A (.call (.ref f) args) (CR CX outer P w H s Q E) s
theorem xk.make{P:Program}{w:World}{K:PySem.W.Frag}{mg:Str->Option Value}{base:Heap}{A:Around}{outer:List Env}{s:Shared}{H:Hp}(e:xk P w K mg base A outer s H)(C:Addr)(us:List Value)(kw:List (Str×Value)) :
  xk P w K mg base (A.under (.builtin "type.__call__" ⟨.ref C::us,kw⟩)) outer s H:=⟨by first | exact e.frames | (simpa [Around.under,Code.envs,Code.isFrame,pushEnvs] using e.frames),e.mod,e.bs,e.Fg,e.n_,e.HM,e.bM,e.bare⟩
section
variable{X:Cx}{MG:List (Addr×Obj)}{σ:St}{H:Hp}{s s':Shared}
theorem Inv.k9(I:Inv X MG σ H s):xk X.prog X.w X.K X.mg X.base X.A X.stack s H :=
 ⟨I.ok.frames,I.ok.mod,I.bs,Nat.le_trans I.ok.Fg I.sz,I.stack,I.tJ,I.bM,I.bare⟩
theorem Inv.after{Q:VK}{u:Value}(I:Inv X MG σ H s)(h:CE X.stack X.prog X.w H s Q u s'):EP X MG σ Q u s':=by
 obtain⟨v,H',os,bare,un,bM,r,q⟩:=h
 obtain⟨hh,g,d,t,os'⟩:=s'
 obtain rfl:os'=s.os:=os
 exact⟨v,H',I.call (h':=hh) (g':=g) (d':=d) (t':=t) (ch:=[]) un bM bare (λb z=>absurd z (by simp)),r,q⟩
end
def Binds(K:PySem.W.Frag)(fd:FuncData)(ps:List Str)(ds:List Value):Prop :=
 ∀ (s:Shared) (us:List Value),K.In s.heap->(us++ds).length=ps.length->BindsTo s fd ⟨us,[]⟩ (ps.zip (us++ds))
theorem Binds.all{K:PySem.W.Frag}{fd:FuncData}{ps:List Str}(h:∀ us:List Value,us.length=ps.length->bindArgs fd ⟨us,[]⟩=pure (ps.zip us)):Binds K fd ps []:=λs us _ hl=>by
 rw[List.append_nil] at hl ⊢
 exact .of_eq (h us hl)
section
variable{X:Cx}{CX:D9}{k:Nat}{f C:Addr}{fd:FuncData}{ps:List Str}{sp:Sp}{Nu:List V}{ds:List Value}{E:XK}{x m:Str}{p pos apos:Pos}{e o:Expr}{es:List Expr}{ta:TE}{t:TA}
structure Mk (K:PySem.W.Frag) (C f:Addr):Prop where
 makes:PySem.W.makesIn K C=true
 init:PySem.W.findIn K (.ref C) "__init__" = some (some (.ref f))
 fn:PySem.W.isFn K (.ref f)=true
 kp:PySem.W.keepIn K (.ref C)=true
end
section
variable{X:Cx}{CX:D9}{k:Nat}{f C:Addr}{fd:FuncData}{ps ks:List Str}{sp:Sp}{E:XK}{x m:Str}{p pos apos kpos:Pos}{e o:Expr}{es:List Expr}{kws:List Keyword}{te ta:TE}{t tk:TA}{nm:Option Str}
variable{g:List Value->List Value->List Value}{gV:List V->List V->List V}
end
structure cv (N P:List Str) (sc:Scope):Prop where
 kind:sc.kind=.function
 co:sc.isCoroutine=false
 gen:sc.isGenerator=false
 nd:N.Nodup
 pre:N.take P.length=P
 par:∀ x∈P,sc.names.lookup x=some .local\/sc.names.lookup x=some .cell
 HQ:∀ y∈sc.names,y.2≠.free
theorem rj{kindOf:Str->Option NameKind}{x:Str}:∀ {binds:List (Str×Value)} {m:Str->Option Value},(∀ v,(x,v) ∉ binds)->bindL kindOf binds m x=m x
 | [],_,_=>rfl
 | (n,v)::r,m,h=>by
  unfold bindL
  rw[rj λw hw=>h w (List.mem_cons_of_mem _ hw)]
  split
  ·have:x≠n:=by rintro rfl;exact h v List.mem_cons_self
   simp[this]
  ·rfl
theorem rQ{kindOf:Str->Option NameKind}{x:Str}:∀ {binds:List (Str×Value)} {m:Str->Option Value},(∀ v,(x,v) ∉ binds)->bindC kindOf binds m x=m x
 | [],_,_=>rfl
 | (n,v)::r,m,h=>by
  unfold bindC
  rw[rQ λw hw=>h w (List.mem_cons_of_mem _ hw)]
  split
  ·rfl
  ·have:x≠n:=by rintro rfl;exact h v List.mem_cons_self
   simp[this]
theorem sj{kindOf:Str->Option NameKind}{x:Str}{v:Value}:∀ {P:List Str} {vs:List Value} {i:Nat} {m:Str->Option Value},P.Nodup->P[i]?=some x->vs[i]?=some v->kindOf x=some .local ->
  bindL kindOf (P.zip vs) m x=some v
 | [],_,_,_,_,h,_,_=>by simp at h
 | _::_,[],_,_,_,_,h,_=>by simp at h
 | p::P,w::vs,0,m,nd,h1,h2,hk=>by
  simp at h1 h2;subst h1;subst h2
  show bindL kindOf ((p,w)::P.zip vs) m p=_
  unfold bindL
  rw[rj λv hv=>(List.nodup_cons.mp nd).1 (List.of_mem_zip hv).1,if_pos hk]
  simp
 | p::P,w::vs,i+1,m,nd,h1,h2,hk=>by
  show bindL kindOf ((p,w)::P.zip vs) m x=_
  unfold bindL
  exact sj (i:=i) (List.nodup_cons.mp nd).2 (by simpa using h1) (by simpa using h2) hk
theorem rS{kindOf:Str->Option NameKind}{x:Str}{v:Value}:∀ {P:List Str} {vs:List Value} {i:Nat} {m:Str->Option Value},P.Nodup->P[i]?=some x->vs[i]?=some v->kindOf x≠some .local ->
  bindC kindOf (P.zip vs) m x=some v
 | [],_,_,_,_,h,_,_=>by simp at h
 | _::_,[],_,_,_,_,h,_=>by simp at h
 | p::P,w::vs,0,m,nd,h1,h2,hk=>by
  simp at h1 h2;subst h1;subst h2
  show bindC kindOf ((p,w)::P.zip vs) m p=_
  unfold bindC
  rw[rQ λv hv=>(List.nodup_cons.mp nd).1 (List.of_mem_zip hv).1,if_neg hk]
  simp
 | p::P,w::vs,i+1,m,nd,h1,h2,hk=>by
  show bindC kindOf ((p,w)::P.zip vs) m x=_
  unfold bindC
  exact rS (i:=i) (List.nodup_cons.mp nd).2 (by simpa using h1) (by simpa using h2) hk
def start(N:List Str)(vs:List V):St:=vs.map some++List.replicate (N.length-vs.length) none
def lq(CX:D9)(P:Program)(w:World)(K:PySem.W.Frag)(mg:Str->Option Value)(base:Heap)(N:List Str)(qual:Str)(scope:Scope)(f:Addr)(cd:Value)(A:Around)(outer:List Env)(s:Shared)(H:Hp)(E:XK):Cx where
 prog:=P
 w:=w
 K:=K
 mg:=mg
 base:=base
 A:=A.deeper (envOfC qual scope s.heap.objs.size f cd)
 N:=N
 s₀:=s
 H₀:=H
 env:=envOfC qual scope s.heap.objs.size f cd
 outer:=outer
 stack:=envOfC qual scope s.heap.objs.size f cd::outer
 ex:=[]
 calm:=true
 fn:=λ_=>true
 pn:=[]
 xe:=λe s'=>wpAny (model P w) (A.deeper (envOfC qual scope s.heap.objs.size f cd)) (leaving (envOfC qual scope s.heap.objs.size f cd) e) (λ_ s''=>CX outer H s E e s'') (λe' s''=>CX outer H s E e' s'') s'
theorem uL{sc:Scope}{n:Nat}{x:Str}(h:sc.names.lookup x=some .cell):∃ c,(cellsFrom n sc.names []).lookup x=some c:=by
 have q:=PySem.W.cellsFrom_some sc.names n [] (.inl h)
 exact Option.isSome_iff_exists.mp q
theorem zi{CX:D9}{P:Program}{w:World}{K:PySem.W.Frag}{mg:Str->Option Value}{base:Heap}{N ps:List Str}{qual:Str}{scope:Scope}{f:Addr}{cd:Value}{A:Around}{outer:List Env}{s s1:Shared}{H:Hp}{E:XK}{us:List Value}{vs:List V}
  (S:cv N ps scope) (hd:A.handled=none) (e0:xk P w K mg base A outer s H) (hl:vs.length=ps.length) (r:Vals vs us)
  (x:InCallC s s.heap.objs.size (bindL (envOfC qual scope s.heap.objs.size f cd).kindOf (ps.zip us) λ_=>none) (cellsFrom (s.heap.objs.size+1) scope.names []) (bindC (envOfC qual scope s.heap.objs.size f cd).kindOf (ps.zip us) λ_=>none) s1) :
  Inv (lq CX P w K mg base N qual scope f cd A outer s H E) [] (start N vs) H s1:=by
 have Nh:ps.length<=N.length:=by have:=congrArg List.length S.pre;rw[List.length_take] at this;omega
 obtain⟨h1,tk,rfl,hk⟩:=x.done
 have t8:∀ b:Addr,b ∉ (lq CX P w K mg base N qual scope f cd A outer s H E).ex:=λb z=>absurd (show b∈([]:List Addr) from z) (by simp)
 refine⟨⟨e0.mod,S.kind,rfl,rfl,Nat.le_refl _,λy z c h1 h2=>?_,λy hy=>?_,λy c _ h=>?_,λ_=>hd,Around.frames_deeper e0.frames,.inr ⟨rfl,rfl⟩,λb z=>absurd z (t8 b),e0.bs,e0.Fg,λb _ _=>t8 b,λb z=>absurd z (t8 b),e0.n_,e0.HM⟩,
  rfl,e0.bare,Un.kept hk,⟨_,x.toInCall.ns,λi y v h1 h2 h3=>?_⟩,λy c h=>⟨_,x.cell y c h⟩,e0.bM.fresh (Nat.le_refl _),λy c h=>?_,λp hp=>absurd (show p∈([]:List (Addr×Obj)) from hp) (by simp),e0.bM.kept hk,?_⟩
 ·exact name_of_addr x.apart (PySem.mem_of_lookup h1) (PySem.mem_of_lookup h2)
 ·have hy:scope.names.lookup y=some .cell\/scope.names.lookup y=some .free:=hy
  rcases hy with hy | hy
  ·exact uL hy
  ·exact absurd rfl (S.HQ _ (PySem.mem_of_lookup hy))
 ·exact Nat.le_of_lt (x.above y c (PySem.mem_of_lookup h))
 ·have hi:i<vs.length:=by
   unfold start at h2
   by_cases hi:i<vs.length
   ·exact hi
   ·rw[List.getElem?_append_right (by simpa using hi)] at h2
    rw[List.getElem?_replicate] at h2
    split at h2 <;> cases h2
  have ha:vs[i]?=some v:=by
   unfold start at h2
   rw[List.getElem?_append_left (by simpa using hi),List.getElem?_map] at h2
   cases e:vs[i]? with
   | none=>rw[e] at h2;cases h2
   | some a=>rw[e] at h2;cases h2;rfl
  obtain⟨u,hu,rv⟩:=r.get ha
  have hp:ps[i]?=some y:=by
   rw[← S.pre,List.getElem?_take_of_lt (by omega)];exact h1
  have ndP:ps.Nodup:=by rw[← S.pre];exact S.nd.sublist (List.take_sublist _ _)
  refine⟨u,rv,?_⟩
  rcases S.par y (List.mem_of_getElem? hp) with k | k
  ·exact .inl ⟨k,sj ndP hp hu k⟩
  ·obtain⟨c,e⟩:=uL (n:=s.heap.objs.size+1) k
   refine .inr ⟨.inl k,c,e,?_⟩
   have q:=x.cell y c e
   rw[rS ndP hp hu (by show scope.names.lookup y≠_;rw[k];decide)] at q
   exact q
 ·exact e0.bM.fresh (Nat.le_of_lt (x.above y c (PySem.mem_of_lookup h)))
 ·unfold start
  show _=N.length
  rw[List.length_append,List.length_map,List.length_replicate]
  omega
theorem Jj{CX:D9}{P:Program}{w:World}{K:PySem.W.Frag}{mg:Str->Option Value}{base:Heap}{k:Nat}{f:Addr}{name qual:Str}{params:Arguments}{body:List Stmt}{scope:Scope}{dV kV doc pm M5 ct oc:Value}{an od:Option Addr}
  {OV:Array (Option Value)} {N ps:List Str} {sp:Sp} (lk:K.lookup f=some ⟨oc,od,.func (PySem.W.fnOf name qual params body scope dV kV doc pm an M5 ct),OV⟩) (N2:PySem.W.codeIn K M5 qual=true) (S:cv N ps scope)
  (len:∀ vs H Q E,sp vs H Q E->vs.length=ps.length)
  (O3:∀ (A:Around) (outer:List Env) (s:Shared) (H:Hp) (vs:List V) (Q:VK) (E:XK),cx k (A.deeper (envOfC qual scope s.heap.objs.size f M5))->sp vs H Q E ->
   ∃ t,lZ (lq CX P w K mg base N qual scope f M5 A outer s H E) body t/\t { nx:=λ_ H'=>Q .cR H',rt:=Q } (start N vs) H) :
  aJ P w K mg base CX (k+1) f (PySem.W.fnOf name qual params body scope dV kV doc pm an M5 ct) ps sp:=by
 refine⟨len,λA outer s H args us vs Q E hr e0 hb r hsp=>?_⟩
 have hl:=len _ _ _ _ hsp
 have KX:K.In s.heap:=e0.mod.E5.keeps λb o e=>(e0.bs b o e).1
 have lim:s.heap.NoLimit:=e0.mod.nolimit.keeps λb o e=>(e0.bs b o e).1
 have Qm:∀ y∈ps.zip us,scope.names.lookup y.1=some .local\/(scope.names.lookup y.1=some .cell/\((cellsFrom (s.heap.objs.size+1) scope.names []).lookup y.1).isSome=true):=λ⟨n,v⟩ hy=>by
  rcases S.par n (List.of_mem_zip hy).1 with q | q
  ·exact .inl q
  ·exact .inr ⟨q,PySem.W.cellsFrom_some _ _ _ (.inl q)⟩
 refine codeAny_call_function hr.depth (KX _ _ lk) rfl S.co S.gen rfl (PySem.W.codeRec_of KX N2) (hb _ _ _ _ ?_)
 refine wpAny_newFunctionEnv_cells S.kind Qm λenv he s1 x=>?_
 subst he
 refine⟨lim.keeps x.toInCall.keep,codeAny_func ?_⟩
 obtain⟨t,ht,hq⟩:=O3 A outer s H vs Q E (hr.deeper _) hsp
 have I:Inv (lq CX P w K mg base N qual scope f M5 A outer s H E) [] (start N vs) H s1:=zi S hr.hd e0 hl r x
 refine wpAny_mono (ht [] s1 (start N vs) H _ I hq) (λfl s' hs=>?_) λe s' hs=>hs
 have fin:∀ {σ':St} {H':Hp} {v:V} {u:Value},Inv (lq CX P w K mg base N qual scope f M5 A outer s H E) [] σ' H' s'->RelV v u->Q v H'->CE outer P w H s Q u s' :=
  λ{σ' H' v u} J rv q=>⟨v,H',J.os,J.bare,J.base,J.bM,rv,q⟩
 cases fl with
 | ret u =>
  obtain⟨v,σ',H',J,rv,q⟩:=hs
  exact fin J rv q
 | next =>
  obtain⟨σ',H',J,q⟩:=hs
  exact fin (v:=V.cR) (u:=Value.none) J rfl q
 | brk =>
  obtain⟨_,_,_,q⟩:=hs
  exact False.elim q
 | cont =>
  obtain⟨_,_,_,q⟩:=hs
  exact False.elim q
end L2
namespace L2
open PySem PySem.Spec PyProof.Rows
section
variable{X:Cx}{x:Str}{p pos:Pos}{e:Expr}{es:List Expr}{t:TA}{id T:String}{r:List V->Hp->VK->Prop}
def LI(r:List V->Hp->VK->Prop)(t:TA):TE:=fun σ H Q=>t σ H λvs H1=>r vs H1 Q
theorem qk(hc:dQ X (.builtin id) r)(hg:Gl X x)(hm:X.mg x=none)(hv:bootBuiltins x=some (.builtin id))(ha:PA X (e::es) t)(hn:autoParam (x ≠ "__name__") aD._auto_1)(NN:autoParam ((x==("__debug__" : Str))=false) aD._auto_1)
  (he:autoParam (starEach (e::es) X.env=(false,eval e X.env)::starEach es X.env) aR._auto_1) (Nh:autoParam ((backTo pos (starEach es X.env)).any (·.1)=false) aR._auto_1):PE X (.Call (.Name x p) (e::es) [] pos) (LI r t):=by
 intro MG s σ H Q I h
 refine wpAny_Call_Name_kw (jH I hg hm hv ?_ hn NN)
 exact PyProof.Rows.callWith_builtin1 (c6 (ha pos MG s σ H _ I h) λus s1 ⟨vs,H1,I1,r1,q1⟩=>hc MG s1 σ H1 vs us Q I1 r1 q1) he Nh
theorem yf(hc:dQ X (.type T) r)(hg:Gl X x)(hm:X.mg x=none)(hv:bootBuiltins x=some (.type T))(ha:PA X (e::es) t)(hn:autoParam (x ≠ "__name__") aD._auto_1)(NN:autoParam ((x==("__debug__" : Str))=false) aD._auto_1)
  (he:autoParam (starEach (e::es) X.env=(false,eval e X.env)::starEach es X.env) aR._auto_1) (Nh:autoParam ((backTo pos (starEach es X.env)).any (·.1)=false) aR._auto_1):PE X (.Call (.Name x p) (e::es) [] pos) (LI r t):=by
 intro MG s σ H Q I h
 refine wpAny_Call_Name_kw (jH I hg hm hv ?_ hn NN)
 exact PyProof.Rows.callWith_type1 (c6 (ha pos MG s σ H _ I h) λus s1 ⟨vs,H1,I1,r1,q1⟩=>hc MG s1 σ H1 vs us Q I1 r1 q1) he Nh
end
end L2
namespace HT
open PySem PyProof.Rows
section
open PySem.SeqAt
open PySem.AutoSeq1 (wpAny_loadPart')
open PySem.MeetsSeq PySem.MeetsSeq2 PySem.MeetsSeq3
end
section
variable{prog:Program}{w:World}{A:Around}{E:Value->Shared->Prop}{s:Shared}
theorem C7{t b:Addr}{vs ws:List Value}{Q:Value->Shared->Prop}(ht:IsTup s.heap t vs.toArray)(hb:IsTup s.heap b ws.toArray)(hv:vs≠[])
  (h1:ws=[]->Q (.ref t) s) (h2:ws≠[]->Q (.ref s.heap.objs.size) { s with heap:=s.heap.push { cls:=.type "tuple", data:=.seq (vs++ws).toArray } })
  (Oe:vs.length+ws.length<=sizeLine):wpAny (model prog w) A (binaryOp .Add (.ref t) (.ref b)) Q E s:=by
 obtain⟨⟨cls,dd,data,sl⟩,ho,hc,n,hd⟩:=id ht
 obtain⟨⟨cls2,Qc,data2,sl2⟩,OZ,Pu,n2,hd2⟩:=id hb
 simp only at hc hd Pu hd2
 subst hc hd Pu hd2
 have e:vs.toArray++ws.toArray=(vs++ws).toArray:=by simp
 by_cases hw:ws=[]
 ·exact concat_meets ⟨_,ho,rfl⟩ ⟨_,OZ,rfl⟩ noFill_tuple_add seq_tuple_add PySem.F.slot_tuple_add PySem.F.entry_tuple_add (PySem.F.args_tuple_add_2 _ _)
   (tuple_addW1 t b vs.toArray ws.toArray n n2 dd Qc sl sl2 (by simpa using hv) (by simp[hw])) ⟨ho,OZ,h1 hw⟩
 ·refine concat_meets ⟨_,ho,rfl⟩ ⟨_,OZ,rfl⟩ noFill_tuple_add seq_tuple_add PySem.F.slot_tuple_add PySem.F.entry_tuple_add (PySem.F.args_tuple_add_2 _ _)
   (tuple_addW2 t b vs.toArray ws.toArray n n2 dd Qc sl sl2 (by simpa using hv) (by simpa using hw) (by rw[List.size_toArray,List.size_toArray];exact Oe)) ⟨ho,OZ,?_⟩
  rw[e]
  exact h2 hw
def dr(n d:Nat):Option Int->Nat
 | none=>d
 | some v=>if v<0 then (v+(n:Int)).toNat else min v.toNat n
theorem ye(n d k:Nat):dr n d (some (k:Int))=min k n:=by
 show (if (k:Int)<0 then ((k:Int)+(n:Int)).toNat else min (k:Int).toNat n)=min k n
 rw[if_neg (by omega),Int.toNat_natCast]
theorem Gh(n d:Nat)(hd:d<=n)(o:Option Int):dr n d o<=n:=by
 cases o with
 | none=>exact hd
 | some v =>
  show (if v<0 then (v+(n:Int)).toNat else min v.toNat n)<=n
  by_cases hv:v<0
  ·rw[if_pos hv];omega
  ·rw[if_neg hv];exact Nat.min_le_right _ _
theorem xw(v:Int)(n d:Nat):(if v<0 then max (v+(n:Int)) 0 else min v (n:Int))=((dr n d (some v):Nat):Int):=by
 show (if v<0 then max (v+(n:Int)) 0 else min v (n:Int))=(((if v<0 then (v+(n:Int)).toNat else min v.toNat n):Nat):Int)
 by_cases hv:v<0
 ·simp only[if_pos hv];omega
 ·simp only[if_neg hv];omega
theorem wZ(lo hi:Option Int)(n:Nat):Builtin.Slice.sliceAdjust lo hi 1 (n:Int)=(((dr n 0 lo:Nat):Int),((dr n n hi:Nat):Int)):=by
 have h1:¬ ((1:Int)<0):=by omega
 unfold Builtin.Slice.sliceAdjust
 simp only[h1,if_false]
 refine Prod.ext ?_ ?_
 ·cases lo with
  | none=>rfl
  | some v=>exact xw v n 0
 ·cases hi with
  | none=>rfl
  | some v=>exact xw v n n
theorem wb(i j:Nat):Builtin.Slice.slicePlaces (i:Int) (j:Int) 1=j-i:=by
 unfold Builtin.Slice.slicePlaces
 have h1:(1:Int)>0:=by omega
 simp only[h1,if_true,Int.ediv_one]
 split <;> omega
theorem qe{v:Value}{o:Option Int}{Q:Option Int->Shared->Prop}(p:IsPart v o)(h:Q o s):wpAny (model prog w) A (Builtin.Slice.slicePartIndex v) Q E s:=by
 cases p with
 | none=>exact slicePart_none h
 | int i t=>exact slicePart_int h
theorem iY{sl:Addr}{vl vu:Value}{lo hi:Option Int}{n:Nat}{Q:Int×Int×Nat->Shared->Prop}(hs:s.heap.IsSliceOf sl vl vu .none)(pl:IsPart vl lo)(pu:IsPart vu hi)
  (h:Q (((dr n 0 lo:Nat):Int),1,dr n n hi-dr n 0 lo) s):wpAny (model prog w) A (Builtin.Slice.sliceApplied (.ref sl) (pure (n:Int))) Q E s:=by
 obtain⟨os,PU,hcs,Qj⟩:=id hs
 unfold Builtin.Slice.sliceApplied Builtin.Slice.sliceFields
 refine wpAny_bind (wpAny_bind (wpAny_field PU Qj (x:=vl) rfl (wpAny_bind (wpAny_field PU Qj (x:=vu) rfl (wpAny_bind (wpAny_field PU Qj (x:=.none) rfl (wpAny_pure ?_)))))))
 refine wpAny_bind (slicePart_none ?_)
 show wpAny _ _ (if ((1:Int)==0)=true then _ else _) _ _ s
 rw[if_neg (by decide)]
 refine wpAny_bind (qe pl (wpAny_bind (qe pu (wpAny_bind (wpAny_pure ?_)))))
 show wpAny _ _ (match Builtin.Slice.sliceAdjust lo hi 1 (n:Int) with | (lo,hi)=>pure (lo,(1:Int),Builtin.Slice.slicePlaces lo hi 1)) _ _ s
 rw[wZ lo hi n]
 show wpAny _ _ (pure (((dr n 0 lo:Nat):Int),(1:Int),Builtin.Slice.slicePlaces ((dr n 0 lo:Nat):Int) ((dr n n hi:Nat):Int) 1)) _ _ s
 rw[wb]
 exact wpAny_pure h
theorem BX(xs:Array Value)(i k:Nat):((List.range k).filterMap λ(m:Nat)=>xs[((i:Int)+(m:Int)*1).toNat]?).toArray=((xs.toList.drop i).take k).toArray:=by
 have e:(λ(m:Nat)=>xs[((i:Int)+(m:Int)*1).toNat]?)=λm=>xs[i+m]?:=by
  funext m
  have:((i:Int)+(m:Int)*1).toNat=i+m:=by omega
  rw[this]
 rw[e]
 have:=pick_run xs i k
 rw[List.filterMap_map] at this
 have e2:((λx=>xs[x]?)∘λx=>i+x)=λm=>xs[i+m]?:=rfl
 rw[e2] at this
 rw[this]
theorem lE{t sl:Addr}{items:Array Value}{vl vu:Value}{lo hi:Option Int}{Q:Value->Shared->Prop}(ht:IsTup s.heap t items)(hs:s.heap.IsSliceOf sl vl vu .none)(pl:IsPart vl lo)(pu:IsPart vu hi)
  (hw:¬ (dr items.size 0 lo=0/\dr items.size items.size hi=items.size))
  (h:Q (.ref s.heap.objs.size) { s with heap:=s.heap.push { cls:=.type "tuple", data:=.seq ((items.toList.drop (dr items.size 0 lo)).take (dr items.size items.size hi-dr items.size 0 lo)).toArray } })
  (Oe:items.size<=sizeLine):wpAny (model prog w) A (getItem (.ref t) (.ref sl)) Q E s:=by
 have OQ:sizeOk (.seq ((items.toList.drop (dr items.size 0 lo)).take (dr items.size items.size hi-dr items.size 0 lo)).toArray):=by
  show ((items.toList.drop (dr items.size 0 lo)).take (dr items.size items.size hi-dr items.size 0 lo)).toArray.size<=sizeLine
  rw[List.size_toArray,List.length_take,List.length_drop,Array.length_toList]
  omega
 have hj:dr items.size items.size hi<=items.size:=Gh _ _ (Nat.le_refl _) hi
 obtain⟨os,PU,hcs,Qj⟩:=id hs
 have hTs:s.TypeIs (.ref sl) "slice" := ⟨os,PU,hcs⟩
 unfold getItem
 try with_reducible refine wpAny_holding ?_
 first | refine wpAny_bind (wpAny_pure ?_) | skip
 refine wpAny_bind (wpAny_sequenceKey ht.typeIs (by decide) ?_)
 refine wpAny_bind (wpAny_callSpecial?_slot (name:=Str.ofString "__getitem__") ht.typeIs PyProof.Rows.slot_tuple_getitem
  (wpAny_call_entry PyProof.Rows.slot_tuple_getitem ht.typeIs entry_tuple_getitem ?_ (args_tuple_getitem _ _)))
 show wpAny _ _ (Builtin.Tuple.tupleItemsOf (.ref t) >>= _) _ _ s
 refine wpAny_bind (tupleItemsOf_ ht ?_)
 refine wpAny_bind (wpAny_typeOf hTs ?_)
 rw[if_pos (by decide)]
 refine wpAny_bind (iY hs pl pu ?_)
 have hno:¬ ((((dr items.size 0 lo:Nat):Int)==0&&(1:Int)==1&&(dr items.size items.size hi-dr items.size 0 lo)==items.size)=true):=by
  intro q
  rw[Bool.and_eq_true,Bool.and_eq_true] at q
  have q1:((dr items.size 0 lo:Nat):Int)=0:=eq_of_beq q.1.1
  have q2:dr items.size items.size hi-dr items.size 0 lo=items.size:=eq_of_beq q.2
  exact hw ⟨by omega,by omega⟩
 show wpAny _ _ (if (((dr items.size 0 lo:Nat):Int)==0&&(1:Int)==1&&(dr items.size items.size hi-dr items.size 0 lo)==items.size)=true then _ else _) _ _ s
 rw[if_neg hno,BX]
 first
  | exact wpAny_bind (m:=Builtin.Tuple.tupleExact _) (wpAny_newObj_type (wpAny_pure ⟨_,rfl,wpAny_pure h⟩) OQ)
  | exact wpAny_bind (m:=Builtin.Tuple.tupleExact _) (wpAny_newObj_type (wpAny_bind (wpAny_pure (wpAny_pure ⟨_,rfl,wpAny_pure h⟩))) OQ)
  | exact wpAny_bind (wpAny_bind (m:=Builtin.Tuple.tupleExact _) (wpAny_newObj_type (wpAny_pure (wpAny_pure ⟨_,rfl,wpAny_pure h⟩)) OQ))
  | exact wpAny_bind (wpAny_bind (m:=Builtin.Tuple.tupleExact _) (wpAny_newObj_type (wpAny_pure ⟨_,rfl,wpAny_pure h⟩) OQ))
end
end HT
namespace L2
open PySem PySem.Spec PyProof.Rows
abbrev TO:=St->Hp->(Option Int->Hp->Prop)->Prop
def PO(X:Cx)(e:Option Expr)(t:TO):Prop :=
 ∀ (MG:List (Addr×Obj)) (s:Shared) (σ:St) (H:Hp) (Q:Option Int->Hp->Prop),Inv X MG σ H s->t σ H Q ->
  wpAny (model X.prog X.w) X.A (evalPart e X.env) (λu s'=>∃ o H',Inv X MG σ H' s'/\IsPart u o/\Q o H') X.xe s
def Dw:TO:=λ_ H Q=>Q none H
def JN(t:TE):TO:=fun σ H Q=>t σ H λx H1=>∃ i,x=.int i/\Q (some i) H1
theorem intsAre_of{ns:List Int}:∀ {us:List Value},Vals (ns.map V.int) us->IntsAre us ns:=by
 induction ns with
 | nil=>intro us r;rw[List.map_nil] at r;cases r;exact .nil
 | cons n ns ih =>
  intro us r
  rw[List.map_cons] at r
  cases r with
  | cons r1 r2 =>
   obtain⟨t,e⟩:=r1
   subst e
   exact .cons n t (ih r2)
section
variable{X:Cx}{e:Expr}{te:TE}{lo hi:Option Expr}{tl th:TO}{pos p2:Pos}
theorem Di:PO X none Dw:=by
 intro MG s σ H Q I h
 rw[evalPart_none]
 exact wpAny_pure ⟨none,H,I,.none,h⟩
theorem DJ(h:PE X e te):PO X (some e) (JN te):=by
 intro MG s σ H Q I hw
 rw[evalPart_some]
 refine c6 (h MG s σ H _ I hw) λu s1 ⟨x,H1,I1,r1,q1⟩=>?_
 obtain⟨i,rfl,q⟩:=q1
 obtain⟨t,rfl⟩:=r1
 exact⟨some i,H1,I1,.int i t,q⟩
def CH(X:Cx)(r:V->Option Int->Option Int->Hp->VK->Prop):Prop :=
 ∀ (MG:List (Addr×Obj)) (s:Shared) (σ:St) (H:Hp) (x:V) (v vl vu:Value) (lo hi:Option Int) (sl:Addr) (Q:VK),Inv X MG σ H s->RelV x v->s.heap.IsSliceOf sl vl vu .none->IsPart vl lo->IsPart vu hi->r x lo hi H Q ->
  ∃ T id,typeLookup (.type T) "__getitem__" = pure (some (.builtin id))/\s.TypeIs v T/\wpAny (model X.prog X.w) X.A (getItem v (.ref sl)) (EP X MG σ Q) X.xe s
theorem CH.or{r r':V->Option Int->Option Int->Hp->VK->Prop}(h:CH X r)(h':CH X r'):CH X (λx lo hi H Q=>r x lo hi H Q\/r' x lo hi H Q):=by
 intro MG s σ H x v vl vu lo hi sl Q I rx hs pl pu q
 rcases q with q | q
 ·exact h MG s σ H x v vl vu lo hi sl Q I rx hs pl pu q
 ·exact h' MG s σ H x v vl vu lo hi sl Q I rx hs pl pu q
def Mx(r:V->Option Int->Option Int->Hp->VK->Prop)(te:TE)(tl th:TO):TE:=fun σ H Q=>te σ H λx H1=>tl σ H1 λl H2=>th σ H2 λu H3=>r x l u H3 Q
theorem A9{r:V->Option Int->Option Int->Hp->VK->Prop}(hr:CH X r)(he:PE X e te)(hl:PO X lo tl)(hu:PO X hi th):PE X (.Subscript e (.Slice lo hi none p2) pos) (Mx r te tl th):=by
 intro MG s σ H Q I h
 refine Subscript_ (c6 (he MG s σ H _ I h) λv s1 ⟨x,H1,I1,r1,q1⟩=>?_)
 refine wpAny_Slice (c6 (hl MG s1 σ H1 _ I1 q1) λvl s2 ⟨l,H2,I2,pl,q2⟩=>c6 (hu MG s2 σ H2 _ I2 q2) λvu s3 ⟨u,H3,I3,pu,q3⟩=>?_)
 rw[evalPart_none]
 refine wpAny_pure ?_
 have I4:Inv X MG σ H3 { s3 with heap:=s3.heap.push { cls:=.type "slice", data:=.fields #[vl,vu,.none] } }:=I3.kept (t':=s3.toks) λb ob q=>Heap.get?_push_of_some _ q
 obtain⟨T,id,hT,ht,hg⟩:=hr MG { s3 with heap:=s3.heap.push { cls:=.type "slice", data:=.fields #[vl,vu,.none] } } σ H3 x v vl vu l u s3.heap.objs.size Q I4 r1 (Heap.IsSliceOf.new ..) pl pu q3
 show wpAny (model X.prog X.w) X.A (subscriptTail e (.Slice lo hi none p2) v (.ref s3.heap.objs.size)) (EP X MG σ Q) X.xe { s3 with heap:=s3.heap.push { cls:=.type "slice", data:=.fields #[vl,vu,.none] } }
 exact tail_any (ops:=[.ref s3.heap.objs.size,v]) ht hT hg (by with_unfolding_all rfl)
def u4(xs:List V)(lo hi:Option Int):List V:=(xs.drop (HT.dr xs.length 0 lo)).take (HT.dr xs.length xs.length hi-HT.dr xs.length 0 lo)
theorem nv(xs:List V)(lo hi:Option Int):(u4 xs lo hi).length<=xs.length:=by
 unfold u4
 rw[List.length_take,List.length_drop]
 omega
def Li(K:PySem.W.Frag):V->Option Int->Option Int->Hp->VK->Prop:=λx lo hi H Q=>∃ a xs,x=.ref a/\h_ K H a xs ∧
 ¬ (HT.dr xs.length 0 lo=0/\HT.dr xs.length xs.length hi=xs.length)/\∀ p,H p=none->Q (.ref p) (upd H p (.tup (u4 xs lo hi)))
theorem Ha:CH X (Li X.K):=by
 intro MG s σ H x v vl vu lo hi sl Q I rx hs pl pu h
 obtain⟨a,xs,rfl,hx,hw,q⟩:=h
 cases rx
 obtain⟨MJ,r,ht,hz⟩:=I.tuple hx
 have hlen:MJ.toArray.size=xs.length:=by rw[List.size_toArray];exact r.length.symm
 refine⟨"tuple", _,PyProof.Rows.slot_tuple_getitem.lookup,ht.typeIs,?_⟩
 refine HT.lE ht hs pl pu (by rw[hlen];exact hw) ?_ (by rw[hlen];exact hz)
 rw[hlen]
 refine⟨.ref s.heap.objs.size,_,I.laid (t':=s.toks) (o:=.tup (u4 xs lo hi)) (λb ob q=>Heap.get?_push_of_some _ q) (Nat.le_refl _) ?_,rfl,q _ (I.bM.fresh (Nat.le_refl _))⟩
 exact⟨Nat.le_trans (nv xs lo hi) hz,_,(r.drop (HT.dr xs.length 0 lo)).take (HT.dr xs.length xs.length hi-HT.dr xs.length 0 lo),IsTup.new _ _⟩
def E3(K:PySem.W.Frag):R2:=λx y H Q=>∃ a b xs ys,x=.ref a/\y=.ref b/\h_ K H a xs/\h_ K H b ys/\xs≠[]/\xs.length+ys.length<=sizeLine ∧
 (ys=[]->Q (.ref a) H)/\(ys≠[]->∀ p,H p=none->Q (.ref p) (upd H p (.tup (xs++ys))))
theorem Vals.lx{xs:List V}{us:List Value}(r:Vals xs us):us=[] ↔ xs=[]:=by
 cases r with
 | nil=>simp
 | cons _ _=>simp
theorem Du:iu X (binaryOp .Add) (E3 X.K):=by
 intro MG s σ H x y v u Q I rx ry h
 obtain⟨a,b,xs,ys,rfl,rfl,ha,hb,hx,hz,q1,q2⟩:=h
 cases rx
 cases ry
 obtain⟨MJ,r1,p1,_⟩:=I.tuple ha
 obtain⟨Oq,r2,p2,_⟩:=I.tuple hb
 refine HT.C7 p1 p2 (λz=>hx (r1.lx.mp z)) (λz=>⟨.ref a,H,I,rfl,q1 (r2.lx.mp z)⟩) (λz=>?_) (by rw[← r1.length,← r2.length];exact hz)
 refine⟨.ref s.heap.objs.size,_,I.laid (t':=s.toks) (o:=.tup (xs++ys)) (λb ob q=>Heap.get?_push_of_some _ q) (Nat.le_refl _) ?_,rfl,q2 (λw=>z (r2.lx.mpr w)) _ (I.bM.fresh (Nat.le_refl _))⟩
 exact⟨by rw[List.length_append];exact hz,_,r1.append r2,IsTup.new _ _⟩
end
end L2
namespace L2
open PySem PySem.Spec PyProof.Rows
def zV(n:Nat)(i:Int):Option Nat:=if 0<=i then (if i<n then some i.toNat else none) else if -(n:Int)<=i then some (i+n).toNat else none
def ur{α:Type}(xs:List α)(i:Int):Option α:=(zV xs.length i).bind λj=>xs[j]?
theorem xZ{n:Nat}{i:Int}{j:Nat}(h:zV n i=some j):seqIndex? i n=some j/\j<n/\-(n:Int)<=i/\i<n:=by
 unfold zV at h
 by_cases h0:0<=i
 ·rw[if_pos h0] at h
  by_cases h1:i<n
  ·rw[if_pos h1] at h
   have e:i.toNat=j:=Option.some.inj h
   exact⟨by rw[seqIndex_of h0 h1,e],by omega,by omega,h1⟩
  ·rw[if_neg h1] at h;cases h
 ·rw[if_neg h0] at h
  by_cases h1:-(n:Int)<=i
  ·rw[if_pos h1] at h
   have e:(i+n).toNat=j:=Option.some.inj h
   exact⟨by rw[seqIndex_neg (by omega) h1,e],by omega,h1,by omega⟩
  ·rw[if_neg h1] at h;cases h
theorem sV{α:Type}{xs:List α}{i:Int}{v:α}(h:ur xs i=some v):∃ j,seqIndex? i xs.length=some j/\xs[j]?=some v/\j<xs.length/\-(xs.length:Int)<=i/\i<xs.length:=by
 unfold ur at h
 cases e:zV xs.length i with
 | none=>rw[e] at h;cases h
 | some j =>
  rw[e] at h
  obtain⟨h1,h2,h3,h4⟩:=xZ e
  exact⟨j,h1,h,h2,h3,h4⟩
theorem tN{α:Type}{xs:List α}{j:Nat}{v:α}(h:xs[j]?=some v):ur xs (j:Int)=some v:=by
 have hj:j<xs.length:=(List.getElem?_eq_some_iff.mp h).1
 have e:zV xs.length (j:Int)=some j:=by
  unfold zV
  rw[if_pos (by omega),if_pos (by omega)];simp
 unfold ur;rw[e];exact h
def t4(b:Expr):Prop:=∀ o i,subscripted b false o i=operate [o,i] (getItem o i)
def DY(X:Cx)(r:R2):Prop :=
 ∀ (value slice:Expr) (MG:List (Addr×Obj)) (s:Shared) (σ:St) (H:Hp) (x y:V) (v u:Value) (Q:VK),Inv X MG σ H s->RelV x v->RelV y u->r x y H Q ->
  subscripted slice false v u=operate [v,u] (getItem v u)->wpAny (model X.prog X.w) X.A (subscriptTail value slice v u) (EP X MG σ Q) X.xe s
def Mb(X:Cx)(id:String)(r:V->List V->Hp->VK->Prop):Prop :=
 ∀ (MG:List (Addr×Obj)) (s:Shared) (σ:St) (H:Hp) (x:V) (xs:List V) (v:Value) (us:List Value) (Q:VK),Inv X MG σ H s->RelV x v->Vals xs us->r x xs H Q ->
  wpAny (model X.prog X.w) X.A (call (.builtin id) (v::us)) (EP X MG σ Q) X.xe s
section
variable{X:Cx}{a b:Expr}{ta tb:TE}{pos:Pos}
theorem DY.or{r r':R2}(h:DY X r)(h':DY X r'):DY X (λx y H Q=>r x y H Q\/r' x y H Q):=by
 intro value slice MG s σ H x y v u Q I rx ry q hs
 rcases q with q | q
 ·exact h value slice MG s σ H x y v u Q I rx ry q hs
 ·exact h' value slice MG s σ H x y v u Q I rx ry q hs
theorem Jp{r:R2}(hr:DY X r)(ha:PE X a ta)(hb:PE X b tb)(hs:t4 b):PE X (.Subscript a b pos) (J1 r ta tb):=by
 intro MG s σ H Q I h
 exact Subscript_ (GC ha hb I h λv u s2 x y H2 I2 rx ry q=>hr a b MG s2 σ H2 x y v u Q I2 rx ry q (hs _ _))
def JX(K:PySem.W.Frag):R2:=λx y H Q=>∃ p xs i v,x=.ref p/\y=.int i/\ir K H p xs/\ur xs i=some v/\Q v H
def IV(K:PySem.W.Frag):R2:=λx y H Q=>∃ p xs i v,x=.ref p/\y=.int i/\h_ K H p xs/\ur xs i=some v/\Q v H
def JM:R2:=λx y H Q=>∃ z i c,x=.str z/\y=.int i/\z.length<=sizeLine/\ur z.cps.toList i=some c/\Q (.str ⟨#[c]⟩) H
theorem Dj:DY X (JX X.K):=by
 intro value slice MG s σ H x y v u Q I rx ry h hs
 obtain⟨p,xs,i,z,rfl,rfl,hq,he,q⟩:=h
 cases rx
 obtain⟨t,rfl⟩:=ry
 obtain⟨MJ,r,pl,hz⟩:=I.list hq
 obtain⟨j,h1,h2,h3,h4,h5⟩:=sV he
 obtain⟨w,ew,Om⟩:=r.get h2
 have hl:=r.length
 have hn:=mi
 have fin:EP X MG σ Q w s:=⟨z,H,I,Om,q⟩
 by_cases h0:0<=i
 ·have hj:i.toNat=j:=by
   rw[seqIndex_of h0 h5] at h1
   exact Option.some.inj h1
  exact item_listR pl.isList h0 (by omega) (by rw[hj];simpa using ew) fin hs
 ·have hj:(i+(MJ.toArray.size:Int)).toNat=j:=by
   rw[seqIndex_neg (by omega) h4] at h1
   rw[List.size_toArray,← hl]
   exact Option.some.inj h1
  exact subscriptTail_builtinR (x:=w) pl.isList.typeIs slot_list_getitem.lookup
   (wpAny_getItem_list_neg (Q:=λr s'=>r=w/\EP X MG σ Q r s') pl.isList (by omega) (by rw[List.size_toArray] <;> omega) (by omega) (by rw[hj];simpa using ew) ⟨rfl,fin⟩) hs
theorem GU:DY X (IV X.K):=by
 intro value slice MG s σ H x y v u Q I rx ry h hs
 obtain⟨p,xs,i,z,rfl,rfl,hq,he,q⟩:=h
 cases rx
 obtain⟨t,rfl⟩:=ry
 obtain⟨MJ,r,pl,hz⟩:=I.tuple hq
 obtain⟨j,h1,h2,h3,h4,h5⟩:=sV he
 obtain⟨w,ew,Om⟩:=r.get h2
 have hl:=r.length
 have hn:=mi
 have fin:EP X MG σ Q w s:=⟨z,H,I,Om,q⟩
 exact subscriptTail_builtinR (x:=w) pl.typeIs slot_tuple_getitem.lookup
  (getItem_tuple (j:=j) (Q:=λr s'=>r=w/\EP X MG σ Q r s') pl (by omega) (by omega) (by rw[List.size_toArray,← hl];exact h1) (by simpa using ew) ⟨rfl,fin⟩) hs
theorem GL:DY X JM:=by
 intro value slice MG s σ H x y v u Q I rx ry h hs
 obtain⟨z,i,c,rfl,rfl,hz,he,q⟩:=h
 obtain⟨t,rfl⟩:=rx
 obtain⟨t',rfl⟩:=ry
 obtain⟨j,h1,h2,h3,h4,h5⟩:=sV he
 have hl:z.cps.toList.length=z.length:=by simp[Str.length]
 rw[hl] at h1 h4 h5
 have hn:=mi
 exact tail_any (typeIs_str s z t) slot_str_getitem.lookup (getItem_str (c:=c) (by
  have e1:decide (i < -(2^63:Int))=false:=decide_eq_false (by omega)
  have e2:decide (i>=2^63)=false:=decide_eq_false (by omega)
  rw[e1,e2,Bool.or_false]) (by rw[h1];simpa using h2) ⟨.str ⟨#[c]⟩,H,I.tok _,⟨_,rfl⟩,q⟩) hs
def L7(K:PySem.W.Frag):R2:=λx y H Q=>JX K x y H Q\/IV K x y H Q\/JM x y H Q
theorem Gb:DY X (L7 X.K):=Dj.or (GU.or GL)
theorem wN(MJ:List Value)(n j:Nat)(u:Value):Obj.mapSeq (·.setIfInBounds j u) { cls:=.type "list", data:=.seq MJ.toArray n }={ cls:=.type "list", data:=.seq (MJ.set j u).toArray n }:=by
 simp[Obj.mapSeq]
theorem Inv.lst{MG:List (Addr×Obj)}{σ:St}{H:Hp}{s:Shared}{p:Addr}{xs:List V}(I:Inv X MG σ H s)(h:H p=some (.lst xs)) :
  ∃ (MJ:List Value) (n:Nat),Vals xs MJ/\s.heap.get? p=some { cls:=.type "list", data:=.seq MJ.toArray n }/\xs.length<=sizeLine:=by
 obtain⟨z,MJ,n,r,e⟩:=I.bM p _ h
 exact⟨MJ,n,r,e,z⟩
theorem Inv.HP{MG:List (Addr×Obj)}{σ:St}{H:Hp}{s:Shared}{p:Addr}{xs ys:List V}{MJ its':List Value}{n n':Nat}{f:Obj->Obj}(I:Inv X MG σ H s)(h:H p=some (.lst xs))
  (ho:s.heap.get? p=some { cls:=.type "list", data:=.seq MJ.toArray n }) (hf:f { cls:=.type "list", data:=.seq MJ.toArray n }={ cls:=.type "list", data:=.seq its'.toArray n' }) (r:Vals ys its') (hz:ys.length<=sizeLine) (t:Nat) :
  Inv X MG σ (upd H p (.lst ys)) { s with heap:=s.heap.update p f,toks:=t }:=by
 have e:(s.heap.update p f).get? p=some { cls:=.type "list", data:=.seq its'.toArray n' }:=by
  rw[Heap.get?_update_self f ho (by rw[hf] <;> rfl),hf]
 refine I.write (x:=p) (e:=p) (by rw[h];trivial) (.inl rfl) (λb u hb q=>(Heap.get?_update_other _ _ (Ne.symm hb)).trans q) ⟨_,e⟩ ?_
 exact⟨hz,its',n',r,e⟩
def Ju:V->V->V->Hp->(Hp->Prop)->Prop:=λo i v H Q=>∃ p xs k j,o=.ref p/\i=.int k/\H p=some (.lst xs)/\zV xs.length k=some j/\Q (upd H p (.lst (xs.set j v)))
theorem set_list:JB X Ju:=by
 intro MG s σ H o i v ov iv u Q I ro ri rv h
 obtain⟨p,xs,k,j,rfl,rfl,hp,hj,q⟩:=h
 cases ro
 obtain⟨t,rfl⟩:=ri
 obtain⟨MJ,n,r,ho,hz⟩:=I.lst hp
 obtain⟨h1,h2,h3,h4⟩:=xZ hj
 have hl:=r.length
 have hn:=mi
 have I':Inv X MG σ (upd H p (.lst (xs.set j v))) { s with heap:=s.heap.update p (Obj.mapSeq (·.setIfInBounds j u)) } :=
  I.HP hp ho (wN MJ n j u) (r.set rv j) (by rw[List.length_set];exact hz) s.toks
 by_cases h0:0<=k
 ·have hk:k.toNat=j:=by
   rw[seqIndex_of h0 h4] at h1
   exact Option.some.inj h1
  exact PySem.W.ki_setAt ho h0 (by omega) (by rw[List.size_toArray,← hl];exact h4) (by rw[hk];exact⟨_,I',q⟩)
 ·have hk:(k+(MJ.toArray.size:Int)).toNat=j:=by
   rw[seqIndex_neg (by omega) h3] at h1
   rw[List.size_toArray,← hl]
   exact Option.some.inj h1
  exact PySem.W.ki_setBack ho (by omega) (by rw[List.size_toArray,← hl];exact h3) (by omega) (by rw[hk];exact⟨_,I',q⟩)
theorem sC(lo hi:Option Int)(n:Nat):(sliceBounds lo hi none n).1=((HT.dr n 0 lo:Nat):Int)/\(sliceBounds lo hi none n).2.1=((HT.dr n n hi:Nat):Int)/\(sliceBounds lo hi none n).2.2=1:=by
 refine⟨?_,?_,rfl⟩
 ·cases lo with
  | none=>simp[sliceBounds,HT.dr]
  | some i =>
   simp only[sliceBounds,HT.dr,Option.getD_none,show (1:Int)>0 by decide,if_true]
   by_cases h:i<0
   ·simp only[h,if_true] <;> omega
   ·simp only[h,if_false] <;> omega
 ·cases hi with
  | none=>simp[sliceBounds,HT.dr]
  | some i =>
   simp only[sliceBounds,HT.dr,Option.getD_none,show (1:Int)>0 by decide,if_true]
   by_cases h:i<0
   ·simp only[h,if_true] <;> omega
   ·simp only[h,if_false] <;> omega
theorem qS(MJ:List Value)(lo hi:Option Int):slicePick MJ.toArray lo hi none=((MJ.drop (HT.dr MJ.length 0 lo)).take (HT.dr MJ.length MJ.length hi-HT.dr MJ.length 0 lo)).toArray:=by
 obtain⟨h1,h2,h3⟩:=sC lo hi MJ.toArray.size
 unfold slicePick
 rw[h1,h2,h3]
 simp only[sliceRange_one,pick_run,List.size_toArray] <;> rfl
def K4(K:PySem.W.Frag):V->Option Int->Option Int->Hp->VK->Prop:=λx lo hi H Q=>∃ a xs,x=.ref a/\ir K H a xs/\∀ p,H p=none->Q (.ref p) (upd H p (.lst (u4 xs lo hi)))
theorem DT:CH X (K4 X.K):=by
 intro MG s σ H x v vl vu lo hi sl Q I rx hs pl pu h
 obtain⟨a,xs,rfl,hx,q⟩:=h
 cases rx
 obtain⟨MJ,r,ht,hz⟩:=I.list hx
 have hlen:=r.length
 refine⟨"list", _,slot_list_getitem.lookup,ht.isList.typeIs,?_⟩
 refine wpAny_getItem_list_slice ht.isList hs pl pu .none (by simp) ?_ (by rw[List.size_toArray] <;> omega)
 rw[qS,← hlen]
 refine⟨.ref s.heap.objs.size,_,I.laid (t':=s.toks) (o:=.lst (u4 xs lo hi)) (λb ob q=>Heap.get?_push_of_some _ q) (Nat.le_refl _) ?_,rfl,q _ (I.bM.fresh (Nat.le_refl _))⟩
 exact⟨Nat.le_trans (nv xs lo hi) hz,_,0,(r.drop (HT.dr xs.length 0 lo)).take (HT.dr xs.length xs.length hi-HT.dr xs.length 0 lo),Heap.get?_push_size _ rfl⟩
theorem sI:dQ X (.builtin "len") (λxs H Q=>∃ p ys,xs=[.ref p]/\(ir X.K H p ys\/h_ X.K H p ys)/\Q (.int ys.length) H):=by
 intro MG s σ H xs us Q I r h
 obtain⟨p,ys,rfl,hq,q⟩:=h
 obtain⟨u,rfl,rx⟩:=vals1 r
 cases rx
 have hn:=mi
 rcases hq with hq | hq
 ·obtain⟨MJ,r',pl,hz⟩:=I.list hq
  have hlen:=r'.length
  exact Calls.call_len_list pl.isList (by simp only[List.size_toArray] <;> omega) ⟨.int ys.length,H,I.tok _,⟨s.toks+1,by rw[List.size_toArray,hlen]⟩,q⟩
 ·obtain⟨MJ,r',pl,hz⟩:=I.tuple hq
  have hlen:=r'.length
  exact len_tuple pl (by simp only[List.size_toArray] <;> omega) ⟨.int ys.length,H,I.tok _,⟨s.toks+1,by rw[List.size_toArray,hlen]⟩,q⟩
theorem sN:dQ X (.builtin "len") (λxs H Q=>∃ z,xs=[.str z]/\z.length<=sizeLine/\Q (.int z.length) H):=by
 intro MG s σ H xs us Q I r h
 obtain⟨z,rfl,hz,q⟩:=h
 obtain⟨u,rfl,t,rfl⟩:=vals1 r
 have hn:=mi
 exact len_str (by omega) ⟨.int z.length,H,I.tok _,⟨_,rfl⟩,q⟩
theorem dQ.or{f:Value}{r r':List V->Hp->VK->Prop}(h:dQ X f r)(h':dQ X f r'):dQ X f (λxs H Q=>r xs H Q\/r' xs H Q):=by
 intro MG s σ H xs us Q I rs q
 rcases q with q | q
 ·exact h MG s σ H xs us Q I rs q
 ·exact h' MG s σ H xs us Q I rs q
theorem tY:dQ X (.type "list") (λxs H Q=>∃ p ys,xs=[.ref p]/\(ir X.K H p ys\/h_ X.K H p ys)/\∀ l,H l=none->Q (.ref l) (upd H l (.lst ys))):=by
 intro MG s σ H xs us Q I r h
 obtain⟨p,ys,rfl,hq,q⟩:=h
 obtain⟨u,rfl,rx⟩:=vals1 r
 cases rx
 have fin:∀ (MJ:List Value),Vals ys MJ->ys.length<=sizeLine->∀ (h':Heap) (c':Nat),(∀ b o',s.heap.get? b=some o'->h'.get? b=some o') ->
   h'.get? s.heap.objs.size=some { cls:=.type "list", dict:=none,data:=.seq MJ.toArray c',slots:=#[] }->EP X MG σ Q (.ref s.heap.objs.size) { s with heap:=h' }:=λMJ r' hz h' c' kp e =>
  ⟨.ref s.heap.objs.size,_,I.laid (t':=s.toks) kp (Nat.le_refl _) (show cw X.prog X.w _ h' _ (.lst ys) from ⟨hz,MJ,c',r',e⟩),rfl,q _ (I.bM.fresh (Nat.le_refl _))⟩
 rcases hq with hq | hq
 ·obtain⟨MJ,r',pl,hz⟩:=I.list hq
  have hlen:=r'.length
  obtain⟨o,ho,hc,n,hd⟩:=pl.isList
  exact call_list_seq p (.inl rfl) ho hc hd (λh' c' kp e=>fin MJ r' hz h' c' kp e) (by simp only[List.size_toArray] <;> omega)
 ·obtain⟨MJ,r',pl,hz⟩:=I.tuple hq
  have hlen:=r'.length
  obtain⟨o,ho,hc,n,hd⟩:=pl
  exact call_list_seq p (.inr rfl) ho hc hd (λh' c' kp e=>fin MJ r' hz h' c' kp e) (by simp only[List.size_toArray] <;> omega)
theorem qE:dQ X (.type "tuple") (λxs H Q=>∃ p ys,xs=[.ref p]/\((ir X.K H p ys/\∀ l,H l=none->Q (.ref l) (upd H l (.tup ys)))\/(h_ X.K H p ys/\Q (.ref p) H))):=by
 intro MG s σ H xs us Q I r h
 obtain⟨p,ys,rfl,h⟩:=h
 obtain⟨u,rfl,rx⟩:=vals1 r
 cases rx
 rcases h with ⟨hq,q⟩ | ⟨hq,q⟩
 ·obtain⟨MJ,r',pl,hz⟩:=I.list hq
  have hlen:=r'.length
  refine call_tuple_list pl.isList (λh' kp=>?_) (by simp only[List.size_toArray] <;> omega)
  have I1:Inv X MG σ H { s with heap:=h' }:=I.kept (t':=s.toks) kp
  have I2:Inv X MG σ (upd H h'.objs.size (.tup ys)) { s with heap:=h'.push { cls:=.type "tuple", data:=.seq MJ.toArray } } :=
   I1.laid (t':=s.toks) (λb o e=>Heap.get?_push_of_some _ e) (Nat.le_refl _) (show cw X.prog X.w _ _ _ (.tup ys) from ⟨hz,MJ,r',IsTup.new _ _⟩)
  exact⟨.ref h'.objs.size,_,I2,rfl,q _ (I1.bM.fresh (Nat.le_refl _))⟩
 ·obtain⟨MJ,r',pl,hz⟩:=I.tuple hq
  exact call_tuple_same pl ⟨.ref p,H,I,rfl,q⟩
def L8(K:PySem.W.Frag)(T:String)(x:V)(H:Hp):Prop:=match x with
 | .str _=>T = "str"
 | .int _=>T = "int"
 | .ref p=>(T = "list" /\ ∃ xs,ir K H p xs)\/(T = "tuple" /\ ∃ o,K.lookup p=some o/\o.cls=.type "tuple" /\ o.dict=none) ∨
   (T = "dict" /\ ((∃ NF,H p=some (.dK NF))\/∃ NF,H p=some (.dT NF)))\/(T = "set" /\ ∃ S n,H p=some (.set S n))
 | _=>False
theorem Hb{MG:List (Addr×Obj)}{σ:St}{H:Hp}{s:Shared}{T:String}{x:V}{v:Value}(I:Inv X MG σ H s)(r:RelV x v)(ty:L8 X.K T x H) :
  s.TypeIs v T/\∀ a,v=.ref a->∃ ob,s.heap.get? a=some ob/\ob.dict=none:=by
 cases x with
 | str z =>
  obtain⟨t,rfl⟩:=r
  cases (show T = "str" from ty)
  exact⟨typeIs_str s z t,λ_ e=>nomatch e⟩
 | int i =>
  obtain⟨t,rfl⟩:=r
  cases (show T = "int" from ty)
  exact⟨typeIs_int s i t,λ_ e=>nomatch e⟩
 | ref p =>
  cases r
  rcases ty with ⟨rfl,xs,hq⟩ | ⟨rfl,o,hk,hc,hd⟩ | ⟨rfl,hk⟩ | ⟨rfl,S,n,hk⟩
  ·obtain⟨MJ,_,pl,_⟩:=I.list hq
   refine⟨pl.isList.typeIs,λa e=>?_⟩
   cases e
   obtain⟨o,n,e,c,hd,_⟩:=pl
   exact⟨o,e,hd⟩
  ·refine⟨⟨o,I.jR p o hk,hc⟩,λa e=>?_⟩
   cases e
   exact⟨o,I.jR _ o hk,hd⟩
  ·have z:∃ o,s.heap.get? p=some o/\o.ExactDict:=by
    rcases hk with ⟨NF,hk⟩ | ⟨NF,hk⟩
    ·obtain⟨_,_,_,_,o,_,_,e,ex,_⟩:=I.bM p _ hk
     exact⟨o,e,ex⟩
    ·obtain⟨_,_,_,_,o,_,_,e,ex,_⟩:=I.bM p _ hk
     exact⟨o,e,ex⟩
   obtain⟨o,e,ex⟩:=z
   refine⟨⟨o,e,ex.1⟩,λa e2=>?_⟩
   cases e2
   exact⟨o,e,ex.2.1⟩
  ·obtain⟨o,_,_,_,e,ex,_⟩:=I.bM p _ hk
   refine⟨⟨o,e,ex.1⟩,λa e2=>?_⟩
   cases e2
   exact⟨o,e,ex.2.1⟩
 | _=>exact False.elim ty
def Mr(K:PySem.W.Frag)(T:String)(r:V->List V->Hp->VK->Prop)(to:TE)(t:TA):TE:=fun σ H Q=>to σ H λx H1=>L8 K T x H1/\t σ H1 λxs H2=>r x xs H2 Q
variable{o e:Expr}{es:List Expr}{to:TE}{t:TA}{name:Str}{apos MX:Pos}{T id:String}{r:V->List V->Hp->VK->Prop}
theorem E1(pa:PlainAttrs T)(slot:Slot T name id)(hty:typeOf (.builtin id)=pure (.type "method_descriptor"))(hm:Mb X id r)(ho:PE X o to)(ha:PA X (e::es) t)
  (Ox:autoParam (attributeBase o name X.env (eval o X.env)=eval o X.env) aR._auto_1)
  (O7:autoParam (((backTo MX (starEach (e::es) X.env)).all (λx=>!x.1)&&(backToKw MX (keywordEach [] X.env)).all (λx=>x.1.isSome)
   && decide ((e::es).length+([]:List Keyword).length+(if ([]:List Keyword).isEmpty then 0 else 1)<30))=true) aR._auto_1)
  (Oy:autoParam ((apos.endLine==MX.line)=true) aR._auto_1) (hs:autoParam (starEach (e::es) X.env=(false,eval e X.env)::starEach es X.env) aR._auto_1) (Od:autoParam ((backTo MX (starEach es X.env)).any (·.1)=false) aR._auto_1) :
  PE X (.Call (.Attribute o name apos) (e::es) [] MX) (Mr X.K T r to t):=by
 intro MG s σ H Q I h
 refine wpAny_Call_method_late Ox O7 Oy rfl (c6 (ho MG s σ H _ I h) λv s1 ⟨x,H1,I1,r1,ty,q1⟩=>?_)
 obtain⟨h1,h2⟩:=Hb I1 r1 ty
 refine⟨T,id,pa,slot,hty,h1,h2,?_⟩
 have hA:=ha MX MG s1 σ H1 _ I1 q1
 rw[hs] at hA ⊢
 refine Calls.callWith_builtin (by show (false||(backTo MX (starEach es X.env)).any (·.1))=false;rw[Od] <;> rfl) (Calls.evalArgs_plain ?_)
 exact c6 hA λus s2 ⟨vs,H2,I2,r2,q2⟩=>hm MG s2 σ H2 x vs v us Q I2 r1 r2 q2
end
end L2
namespace L2
open PySem PySem.Spec PyProof.Rows
def Mg(X:Cx)(id:String)(r:V->List V->Hp->VK->Prop):Prop :=
 ∀ (MG:List (Addr×Obj)) (s:Shared) (σ:St) (H:Hp) (x:V) (xs:List V) (v:Value) (us:List Value) (Q:VK),Inv X MG σ H s->RelV x v->Vals xs us->r x xs H Q ->
  wpAny (model X.prog X.w) X.A (call (.builtin id) (v::us)) (EP X MG σ Q) X.xe s
theorem Vals.one:∀ {x:V} {us:List Value},Vals [x] us->∃ u,us=[u]/\RelV x u
 | _,_,.cons r .nil=>⟨_,rfl,r⟩
theorem Vals.rep{xs:List V}{us:List Value}(h:Vals xs us):∀ k:Nat,Vals (List.replicate k xs).flatten (List.replicate k us).flatten
 | 0=>.nil
 | k+1=>by
  rw[List.replicate_succ,List.replicate_succ,List.flatten_cons,List.flatten_cons]
  exact Vals.append h (Vals.rep h k)
theorem foldl_rep(MJ:List Value):∀ (k:Nat) (acc:List Value),
  List.foldl (λx1 x2=>x1++x2) acc.toArray (List.replicate k MJ.toArray)=(acc++(List.replicate k MJ).flatten).toArray
 | 0,acc=>by simp
 | k+1,acc=>by
  have e:acc.toArray++MJ.toArray=(acc++MJ).toArray:=by simp
  have e2:(acc++MJ)++(List.replicate k MJ).flatten=acc++(List.replicate (k+1) MJ).flatten:=by
   rw[List.replicate_succ,List.flatten_cons,List.append_assoc]
  rw[← e2,← foldl_rep MJ k (acc++MJ),← e,List.replicate_succ,List.foldl_cons]
section
variable{X:Cx}{MG:List (Addr×Obj)}{σ:St}{H:Hp}{s:Shared}{l b:Addr}{xs ys zs:List V}
theorem Inv.KH{MJ its':List Value}{n:Nat}{f:Array Value->Array Value}{t':Nat}(I:Inv X MG σ H s)(hH:H l=some (.lst xs))
  (e:s.heap.get? l=some { cls:=.type "list", data:=.seq MJ.toArray n }) (hf:f MJ.toArray=its'.toArray) (hv:Vals ys its') (hz:ys.length<=sizeLine) :
  Inv X MG σ (upd H l (.lst ys)) { s with heap:=s.heap.update l (Obj.mapSeq f),toks:=t' }:=by
 have q:=PySem.IsL.update e f
 rw[hf] at q
 refine I.write (x:=l) (e:=l) (by rw[hH];exact trivial) (.inl rfl) (λb' u hb hu=>(Heap.get?_update_other s.heap (Obj.mapSeq f) (Ne.symm hb)).trans hu) ⟨_,q⟩ ?_
 exact⟨hz,its',_,hv,q⟩
theorem Inv.Jd{MJ:List Value}{t':Nat}(I:Inv X MG σ H s)(hv:Vals ys MJ)(hz:ys.length<=sizeLine) :
  Inv X MG σ (upd H s.heap.objs.size (.lst ys)) { s with heap:=s.heap.push { cls:=.type "list", data:=.seq MJ.toArray },toks:=t' } :=
 I.laid (λ_ _ q=>Heap.get?_push_of_some _ q) (Nat.le_refl _) ⟨hz,MJ,0,hv,Heap.get?_push_size _ rfl⟩
theorem Inv.fresh(I:Inv X MG σ H s):H s.heap.objs.size=none:=I.bM.fresh (Nat.le_refl _)
theorem Inv.C1(I:Inv X MG σ H s)(hH:H l=some (.lst xs)):xs.length<=sizeLine/\∃ (MJ:List Value) (n:Nat),Vals xs MJ/\xs.length=MJ.length/\s.heap.get? l=some { cls:=.type "list", data:=.seq MJ.toArray n }:=by
 obtain⟨z,MJ,n,r,e⟩:=I.bM l _ hH
 exact⟨z,MJ,n,r,r.length,e⟩
theorem Cf{n:Nat}(h:n<=sizeLine):Builtin.List.listTooLong n=false:=by
 unfold Builtin.List.listTooLong
 exact decide_eq_false (by omega)
end
section
variable{X:Cx}
def DQ:V->List V->Hp->VK->Prop:=λx vs H Q=>∃ l xs y,x=.ref l/\vs=[y]/\H l=some (.lst xs)/\xs.length<sizeLine/\Q .cR (upd H l (.lst (xs++[y])))
theorem rW:Mg X "list.append" DQ:=by
 intro MG s σ H x vs v us Q I rx rv h
 obtain⟨l,xs,y,rfl,rfl,hH,hz,q⟩:=h
 cases rx
 obtain⟨u,rfl,ru⟩:=rv.one
 obtain⟨z,MJ,n,r,hl,e⟩:=I.C1 hH
 refine call_meets F.slot_list_append ⟨_,e,rfl⟩ F.entry_list_append (F.args_list_append_2 _ _) (PySem.list_append l MJ.toArray n u (by rw[List.size_toArray];omega)) ⟨e,?_⟩
 refine⟨.cR,_,I.KH (its':=MJ++[u]) hH e (by simp) (r.append (.cons ru .nil)) ?_,rfl,q⟩
 rw[List.length_append,List.length_singleton]
 omega
def Jn:R2:=λx y H Q=>∃ l b xs zs,x=.ref l/\y=.ref b/\H l=some (.lst xs)/\H b=some (.lst zs)/\xs.length+zs.length<=sizeLine/\∀ p,H p=none->Q (.ref p) (upd H p (.lst (xs++zs)))
theorem Ft:iu X (binaryOp .Add) Jn:=by
 intro MG s σ H x y v u Q I rx ry h
 obtain⟨l,b,xs,zs,rfl,rfl,hH,hB,hz,q⟩:=h
 cases rx
 cases ry
 obtain⟨z,MJ,n,r,hl,e⟩:=I.C1 hH
 obtain⟨z2,Oq,n2,r2,N6,e2⟩:=I.C1 hB
 refine PySem.P.add_list e e2 ?_ (by rw[List.size_toArray,List.size_toArray];omega)
 have ea:MJ.toArray++Oq.toArray=(MJ++Oq).toArray:=by simp
 rw[ea]
 exact⟨.ref _,_,I.Jd (t':=s.toks) (r.append r2) (by rw[List.length_append];omega),rfl,q _ I.fresh⟩
def Jr:R2:=λx y H Q=>∃ l k xs,x=.ref l/\y=.int k/\H l=some (.lst xs)/\-(2^63)<=k/\k<2^63/\xs.length*k.toNat<=sizeLine ∧
 ∀ p,H p=none->Q (.ref p) (upd H p (.lst (List.replicate k.toNat xs).flatten))
theorem len_rep{α:Type}(xs:List α)(k:Nat):(List.replicate k xs).flatten.length=k*xs.length:=by
 induction k with
 | zero=>simp
 | succ k ih=>rw[List.replicate_succ,List.flatten_cons,List.length_append,ih,Nat.succ_mul,Nat.add_comm]
theorem Ak:iu X (binaryOp .Mult) Jr:=by
 intro MG s σ H x y v u Q I rx ry h
 obtain⟨l,k,xs,rfl,rfl,hH,h1,h2,hz,q⟩:=h
 cases rx
 obtain⟨t,rfl⟩:=ry
 obtain⟨z,MJ,n,r,hl,e⟩:=I.C1 hH
 have hlen:MJ.toArray.size*k.toNat<=sizeLine:=by rw[List.size_toArray,← hl];exact hz
 have hcap:¬ MJ.toArray.size*k.toNat>(2^63-1)/8:=by
  have:(sizeLine:Nat)<=(2^63-1)/8:=by decide
  omega
 have hfit:¬ (!Builtin.List.listFitsIndex k)=true:=by
  rw[fitsIndex_both h1 h2]
  exact Bool.false_ne_true
 have Qn:¬ Builtin.List.listTooLong (MJ.toArray.size*k.toNat)=true:=by
  rw[Cf hlen]
  exact Bool.false_ne_true
 have N7:List.foldl (λx1 x2=>x1++x2) #[] (List.replicate (if MJ.toArray.isEmpty=true then 0 else k.toNat) MJ.toArray)=(List.replicate k.toNat MJ).flatten.toArray:=by
  have f0:∀ m:Nat,List.foldl (λx1 x2=>x1++x2) #[] (List.replicate m MJ.toArray)=(List.replicate m MJ).flatten.toArray:=λm=>by
   have:=foldl_rep MJ m []
   rw[List.nil_append] at this
   exact this
  rw[f0]
  cases MJ with
  | nil=>simp
  | cons a r'=>rw[if_neg (by simp)]
 refine wpAny_binaryOp_repeat_ref (T := "list") (U := "int") (by decide) ⟨_,e,rfl⟩ (λs'=>typeIs_int s' k t) noFill_list_mul F.fills_int_mul F.slot_int_rmul repeat_list F.slot_int_index.lookup
  (call_meets F.slot_int_rmul (typeIs_int s k t) F.entry_int_rmul (F.args_int_rmul_2 _ _) (int___rmul___int_list k t l MJ.toArray n)
   ⟨e,rfl,⟨_,e,rfl⟩,call_meets F.slot_list_mul ⟨_,e,rfl⟩ F.entry_list_mul (F.args_list_mul_2 _ _) (AutoListH.list___mul___list_int_3 l MJ.toArray n k t hfit hcap Qn) ⟨e,?_⟩⟩)
 rw[N7]
 exact⟨.ref _,_,I.Jd (t':=s.toks) (r.rep k.toNat) (by rw[len_rep,Nat.mul_comm];exact hz),rfl,q _ I.fresh⟩
end
section
variable{prog:Program}{w:World}{A:Around}{E:Value->Shared->Prop}{s:Shared}
end
section
variable{X:Cx}
end
end L2
namespace L2
open PySem PySem.Spec PyProof.Rows
section
variable{κ:Type}[DecidableEq κ]
end
section
variable{P:Program}{w:World}{H:Hp}{h:Heap}{a:Addr}
end
section
variable{X:Cx}{MG:List (Addr×Obj)}{σ:St}{H:Hp}{s:Shared}{a:Addr}{y v:V}{u r:Value}{o:Option V}{A:Around}{E:Value->Shared->Prop}
end
section
variable{X:Cx}{MG:List (Addr×Obj)}{σ:St}{H:Hp}{s:Shared}{a:Addr}{NF:List (Key×V)}{k:Key}{u:Value}{A:Around}{E:Value->Shared->Prop}
end
section
variable{X:Cx}{o i e value:Expr}{pos pos' tpos:Pos}{td ty tv:TE}
end
section
variable{X:Cx}{pos:Pos}
end
section
variable{X:Cx}{MG:List (Addr×Obj)}{σ:St}{H:Hp}{s:Shared}{a:Addr}{y d:V}{u r:Value}{o:Option V}{A:Around}{E:Value->Shared->Prop}
end
section
variable{X:Cx}{o e f:Expr}{apos MX:Pos}{td ty tx:TE}
end
section
variable{X:Cx}{MG:List (Addr×Obj)}{σ:St}{H:Hp}{s:Shared}{a:Addr}{NF:List (Key×V)}{A:Around}{E:Value->Shared->Prop}
end
section
variable{X:Cx}{MG:List (Addr×Obj)}{σ:St}{H:Hp}{s:Shared}{a:Addr}{y:V}{u:Value}{A:Around}{E:Value->Shared->Prop}
end
end L2
namespace Att
open PySem PySem.W PySem.Calls PyProof.Rows
theorem nF{P:Params}{h:Heap}:∀ (ns:List Int) (vs:List Value),WellAll P h vs (ns.map WData.int)->IntsAre vs ns:=by
 intro ns
 induction ns with
 | nil =>
  intro vs w
  rw[List.map_nil] at w
  cases w
  exact .nil
 | cons n ns ih =>
  intro vs w
  rw[List.map_cons] at w
  cases w with
  | cons a b =>
   cases a
   exact .cons _ _ (ih _ b)
theorem yL{l:OpenLaw}{n:Nat}(hn:l.most=some n){P:Params}{h:Heap}{args:List WData}{vals:List Value}
  (y_:l.row.toRowW.claim.pre args=true) (hwl:WellAll P h vals args) :
  ∃ a vs ns,vals=[Value.ref a]/\args=[WData.list (ns.map WData.int)]/\h.get? a=some { cls:=.type "list", data:=.seq vs.toArray }/\IntsAre vs ns/\ns.length<=n:=by
 have hsh:WShape.hasAll [] args [.list .int]=true:=(pre_splitW y_).1
 have hc:l.pre.holds [] { args:=args }=true:=(pre_splitW y_).2
 obtain⟨d,r,rfl,h1,h2⟩:=hasAllW_cons hsh
 obtain rfl:=hasAllW_nil h2
 obtain⟨xs,rfl,h3⟩:=hasW_list h1
 obtain⟨ns,rfl⟩:=items_int h3
 have hlen:ns.length<=n:=by
  unfold OpenLaw.pre at hc
  have h4:(WTm.not (.lt (.lit (.int (n:Int))) (.len (.arg 0)))).holds [] { args:=[.list (ns.map .int)] }=true:=by
   have h4:=(holds_andW hc).1
   rw[hn] at h4
   exact h4
  have h5:=condW_of h4 (w_not (w_lt w_lit (w_len_list (w_arg rfl))))
  rw[List.length_map] at h5
  refine Nat.le_of_not_lt λq=>?_
  have q':(n:Int)<((ns.length:Nat):Int):=by omega
  first
   | (rw[decide_eq_true q'] at h5;exact absurd h5 (by decide))
   | (simp at h5;omega)
 cases hwl with
 | cons w1 w2 =>
  cases w2
  cases w1 with
  | list ho hall=>exact⟨_,_,ns,rfl,rfl,ho,nF ns _ hall,hlen⟩
theorem zA(l:OpenLaw)(args:List WData):l.row.toRowW.claim.post args (.bool true) args=true :=
 postW_of (r:=l.row.toRowW) (X:=(true==true))
  (show WShape.has [] (.bool true) .bool=true by first | rfl | decide | simp[WShape.has,WShape.arms,WShape.armsAll])
  (show (WTm.eq .res (.lit (.bool true))).value [] { args:=args,res:=some (.bool true),after:=args }=some (.bool (true==true)) from w_eq_bool (w_res rfl) w_lit) rfl
section
variable{prog:Program}{w:World}{A:Around}{E:Value->Shared->Prop}{s:Shared}{K:Frag}
end
end Att
namespace L2
open PySem PySem.Spec PyProof.Rows
theorem rO:∀ {vs:List Value} {ns:List Int},IntsAre vs ns->Vals (ns.map V.int) vs
 | _,_,.nil=>.nil
 | _,_,.cons n t h=>.cons ⟨t,rfl⟩ (rO h)
def Iw(H:Hp):Prop:=∀ b,H b=none\/∃ o xs,H b=some (.qB o (.lst xs))
theorem Ck{P:Program}{w:World}{K:PySem.W.Frag}{mg mb:Str->Option Value}{CX:D9}{k:Nat}{fa a:Addr}{fd:FuncData}{x:Str}{sp:Sp}{s₁:Shared}{vs:List Value}{ns:List Int}
  (KX:K.In s₁.heap) (hns:s₁.heap.Ns mainGlobals mg) (hb:s₁.heap.Ns builtinsNs mb) (P6:∀ x:Str,x ≠ "__name__" -> mb x=bootBuiltins x) (hlim:s₁.heap.NoLimit) (hg:s₁.gens=#[])
  (ha:s₁.heap.get? a=some { cls:=.type "list", data:=.seq vs.toArray }) (hi:IntsAre vs ns) (hl:ns.length<=sizeLine) (hr:cx k callerA)
  (F:∀ base:Heap,K.In base->base.Ns mainGlobals mg->aJ P w K mg base CX k fa fd [x] sp) (Qg:∀ (s:Shared) (u:Value),BindsTo s fd ⟨[u],[]⟩ [(x,u)])
  (hsp:∀ H:Hp,Iw H->ir K H a (ns.map V.int)->sp [.ref a] H (λv _=>v=.bl true) λ_ _ _=>False)
  (hCX:∀ H e s',CX [] H s₁ (λ_ _ _=>False) e s'->False) :
  codeAny (model P w) callerA (.call (.ref fa) ⟨[.ref a],[]⟩) (λr s'=>r=.ok (.ret (.bool true))/\OldK s₁.heap s'.heap/\s'.os=s₁.os/\AllBare s'.gens) s₁:=by
 have rv:=rO hi
 have lenV:=hi.length
 have core:∀ H:Hp,Iw H->ir K H a (ns.map V.int)->mU P w H s₁.heap->(∀ b,H b≠none->b=a)->(H a≠none->K.lookup a=none) ->
   codeAny (model P w) callerA (.call (.ref fa) ⟨[.ref a],[]⟩) (λr s'=>r=.ok (.ret (.bool true))/\OldK s₁.heap s'.heap/\s'.os=s₁.os/\AllBare s'.gens) s₁:=by
  intro H hO hS bM hA hK
  have OL:∀ {b:Addr} {o:Obj},s₁.heap.get? b=some o->H b=none->(sZ s₁.heap H).get? b=some o:=λe n=>Ce e n
  have t8:∀ {b:Addr} {o:Obj} {es:Array DictEntry} {ep:Nat},s₁.heap.get? b=some o->o.data=.dict es ep->H b=none:=λ{b o es ep} e d=>by
   cases q:H b with
   | none=>rfl
   | some u =>
    have e':b=a:=hA b (by rw[q];simp)
    subst e'
    rw[ha] at e;cases e
    have d':Data.seq vs.toArray _=Data.dict es ep:=d
    cases d'
  have nsK:∀ {b:Addr} {m:Str->Option Value},s₁.heap.Ns b m->(sZ s₁.heap H).Ns b m:=λ{b m} ⟨o,es,ep,e,d,r⟩=>⟨o,es,ep,OL e (t8 e d),d,r⟩
  have hKb:K.In (sZ s₁.heap H):=λb o e=>OL (KX b o e) (by
   cases q:H b with
   | none=>rfl
   | some u =>
    have e':b=a:=hA b (by rw[q];simp)
    subst e'
    rw[hK (by rw[q];simp)] at e;cases e)
  have hM:Mod K mg (sZ s₁.heap H):=⟨hKb,nsK hns,⟨mb,nsK hb,P6⟩,let ⟨mc,h1,h2⟩:=hlim;⟨mc,nsK h1,h2⟩⟩
  have e0:xk P w K mg (sZ s₁.heap H) callerA [] s₁ H:=⟨rfl,hM,λb o e=>Ec e,Nat.le_of_eq (zd _ _),trivial,λb hb=>absurd (show b∈([]:List Addr) from hb) (by simp),bM,.of_eq hg⟩
  refine codeAny_mono ((F _ hKb (nsK hns)).run callerA [] s₁ H ⟨[.ref a],[]⟩ [.ref a] [.ref a] _ _ hr e0 (Qg s₁ (.ref a)) (.cons rfl .nil) (hsp H hO hS)) λr s' h=>?_
  cases r with
  | error e=>exact(hCX H e s' h).elim
  | ok fl =>
   cases fl with
   | next=>exact False.elim h
   | brk=>exact False.elim h
   | cont=>exact False.elim h
   | ret u =>
    obtain⟨v,H',os,bare,un,hok',r',q⟩:=h
    have q':v=.bl true:=q
    subst q'
    obtain rfl:u=Value.bool true:=r'
    refine⟨rfl,OldK.of_keep λb o e=>?_,os,bare⟩
    cases q:H b with
    | none=>exact un.keep b o e q (by intro z;exact absurd (show b∈([]:List Addr) from z) (by simp)) (by simp)
    | some u =>
     rcases hO b with z | ⟨ob,xs,z⟩
     ·rw[q] at z;cases z
     ·have z2:=un.mD b ob _ z
      obtain⟨e1,_⟩:=bM b _ z
      obtain⟨e2,_⟩:=hok' b _ z2
      rw[e] at e1;cases e1
      exact e2
 cases hk:K.lookup a with
 | some o =>
  have e:=KX a o hk
  rw[ha] at e
  cases e
  refine core (λ_=>none) (λ_=>.inl rfl) (.inr ⟨_,vs.toArray,_,hk,rfl,rfl,rfl,by rw[List.size_toArray,lenV];exact hl,by simpa using rv⟩) (λb u z=>by have z':(none:Option HO)=some u:=z;cases z') (λb z=>absurd rfl z) λz=>absurd rfl z
 | none =>
  refine core (λb=>if b=a then some (.qB { cls:=.type "list", data:=.seq vs.toArray } (.lst (ns.map V.int))) else none) (λb=>?_) (.inl (.inr ⟨{ cls:=.type "list", data:=.seq vs.toArray },if_pos rfl⟩)) (λb u z=>?_) (λb z=>?_) λ_=>hk
  ·by_cases hb:b=a
   ·exact .inr ⟨_,_,if_pos hb⟩
   ·exact .inl (if_neg hb)
  ·by_cases hb:b=a
   ·have z':=(if_pos hb).symm.trans z
    cases z'
    subst hb
    exact⟨ha,by rw[List.length_map];exact hl,vs,_,rv,ha⟩
   ·have z':=(if_neg hb).symm.trans z
    cases z'
  ·by_cases hb:b=a
   ·exact hb
   ·exact absurd (if_neg hb) z
end L2
namespace L2
open PySem PySem.Spec PyProof.Rows
end L2
namespace L2
open PySem PySem.Spec PyProof.Rows
def inClass(s:Stmt)(j:Nat):Stmt:=match s with
 | .ClassDef _ _ _ body _ _ _ _ _ _ _=>body.getD j (.Pass ⟨0,0,0,0⟩)
 | _=>.Pass ⟨0,0,0,0⟩
def iF(s:Stmt):Arguments:=match s with
 | .FunctionDef _ a _ _ _ _ _ _ _ _=>a
 | _=>{ posonlyargs:=[],args:=[],vararg:=none,kwonlyargs:=[],kw_defaults:=[],kwarg:=none,defaults:=[] }
def fq(s:Stmt):List Stmt:=match s with
 | .FunctionDef _ _ b _ _ _ _ _ _ _=>b
 | _=>[]
def bc(s:Stmt):Scope:=match s with
 | .FunctionDef _ _ _ _ _ _ sc _ _ _=>sc
 | _=>{ kind:=.function,names:=[],isGenerator:=false,isCoroutine:=false }
abbrev E0:XK:=λ_ _ _=>False
section
variable{P:Program}{w:World}{K:PySem.W.Frag}{mg:Str->Option Value}{base:Heap}
end
theorem mB{n:Nat}(h:n<=1000):n<sizeLine:=Nat.lt_of_le_of_lt h (by decide)
section
variable{X:Cx}
end
def bu(H H':Hp):Prop:=∀ b o,H b=some o->H' b=some o
end L2
namespace L2
open PySem PySem.Spec PyProof.Rows
section
variable{X:Cx}
def Co(_ j:Int):Prop:=j≠0/\j.natAbs.log2<9000
theorem A1:iu X (binaryOp .FloorDiv) (rI Co λi j=>.int (i.fdiv j)):=Kj λ_ _ _ _ _ _ _ hc q=>floordiv_int hc.1 q (.inl (PyProof.noPylong_of_log2 hc.2))
theorem DN:iu X (binaryOp .Mult) (rI (λi j=>IntMulOk i j) λi j=>.int (i*j)):=Kj λ_ _ _ _ _ _ _ hc q=>mul_int q hc
theorem B_{a b:Int}{m n:Nat}(ha:a.natAbs<2^m)(hb:b.natAbs<2^n)(h:m+n<=134217728):IntMulOk a b:=IntMulOk.of_le (intBits_le_iff.mpr ha) (intBits_le_iff.mpr hb) h
theorem zY:bootBuiltins "isinstance" = some (.builtin "isinstance"):=by decide +kernel
theorem wC:bootBuiltins "int" = some (.type "int"):=by decide +kernel
theorem xQ:bootBuiltins "bool" = some (.type "bool"):=by decide +kernel
theorem qb:bootBuiltins "tuple" = some (.type "tuple"):=by decide +kernel
theorem xT:bootBuiltins "list" = some (.type "list"):=by decide +kernel
theorem Ii:bootBuiltins "sum" = some (.builtin "sum"):=by decide +kernel
def Lk(K:PySem.W.Frag):List V->Hp->VK->Prop:=λxs H Q=>∃ x T t b,xs=[x,.ty T]/\j4 K H x t/\PySem.W.kitOne K t (.type T)=some b/\Q (.bl b) H
theorem Av:dQ X (.builtin "isinstance") (Lk X.K):=by
 intro MG s σ H xs us Q I r h
 obtain⟨x,T,t,b,rfl,ty,e,q⟩:=h
 cases r with
 | cons r1 r2 =>
  cases r2 with
  | cons r3 r4 =>
   cases r4
   cases (show _=Value.type T from r3)
   exact yU I r1 ty e λtk=>⟨.bl b,H,I.tok tk,rfl,q⟩
end
section
variable(K:PySem.W.Frag)
end
section
variable{X:Cx}
theorem Inv.kf{MG:List (Addr×Obj)}{σ:St}{H:Hp}{s:Shared}{h':Heap}{t':Nat}{ch:List Addr}{a:Addr}{o:HO}(I:Inv X MG σ H s)(k:∀ b u,b ∉ ch->s.heap.get? b=some u->h'.get? b=some u)
  (Ow:∀ b∈ch,lF X MG H b) (hp:s.heap.objs.size<=a) (hl:∀ b∈ch,∃ u,s.heap.get? b=some u) (new:cw X.prog X.w (upd H a o) h' a o):Inv X MG σ (upd H a o) { s with heap:=h',toks:=t' }:=by
 have ne:∀ b u,s.heap.get? b=some u->b≠a:=λb u e=>Nat.ne_of_lt (Nat.lt_of_lt_of_le (Heap.lt_size e) hp)
 have O8:H a=none:=I.bM.fresh hp
 have Ph:∀ b u,H b=some u->b ∉ ch:=λb u e z=>by rw[(Ow b z).1] at e;cases e
 have Pg:∀ b u,H b=some u->b≠a:=λb u e z=>by rw[z,O8] at e;cases e
 refine I.step (g':=s.gens) (d':=s.drawn) (ch:=ch) (λb hb=>?_) (λb u _ _ hc e _=>k b u hc e) (λb u _ _ hc e _=>⟨u.slots,k b u hc e⟩)
  (λb u _ e n=>by rw[aw (ne b u e)];exact n) (λb u hc e=>⟨u,k b u hc e⟩)
  (λb xs e=>by rw[aw (Pg b _ e)];exact e) (λb ob u e=>by rw[aw (Pg b _ e)];exact e) (λb ps e=>⟨#[],by rw[aw (Pg b _ e),e];simp⟩) (λm hm=>?_) (λb u e=>?_) I.bare
 ·obtain⟨_,f1,_,f3,f4,f5⟩:=Ow b hb
  exact⟨f3,f1,f4,f5⟩
 ·obtain⟨ob,es,ep,ho,r⟩:=hm
  exact⟨ob,es,ep,k _ ob (λz=>(Ow _ z).2.1 rfl) ho,r⟩
 ·by_cases z:b=a
  ·subst z
   rw[aB] at e
   cases e
   exact new
  ·rw[aw z] at e
   refine(I.bM b u e).nO (λc v hc q=>k c v ?_ q) (λc q=>?_) λc ys q=>?_
   ·rcases hc with z' | z'
    ·rw[z'];exact Ph b u e
    ·exact Ph c _ z'
   ·rw[aw (Pg c _ q)];exact q
   ·rw[aw (Pg c _ q)];exact q
def Ik (K : PySem.W.Frag) (a : Addr) : It :=
  ⟨λi H => ∃ xs x, ir K H a xs /\ xs[i]? = some x,
   λi H y H' => ∃ p x, H p = none /\ y = .ref p /\ H' = upd H p (.tup [.int i, x]) /\ ∀ xs, ir K H a xs -> xs[i]? = some x,
   λi H => ∃ xs, ir K H a xs /\ xs.length <= i⟩
theorem yu{P:Program}{w:World}{K:PySem.W.Frag}{elts:List Expr}{x1:Nat}{tp:Pos}(a e it:Addr)(OC:e≠it):Turn P w K (.Tuple elts x1 tp) (Ik K a) [e,it] e (λi h=>(∃ old,IsEnum h e it i old)/\h.IsListIter it a i) where
 mem:=by simp
 obj:=λi h st b hb=>by
  obtain⟨⟨old,he⟩,⟨o,e1,c,d⟩⟩:=st
  rcases List.mem_cons.mp hb with z | z
  ·subst z
   exact⟨_,he,λv z=>by cases z⟩
  ·have z':b=it:=by simpa using z
   subst z'
   exact⟨o,e1,λv z=>by rw[d] at z;cases z⟩
 keep:=λi h h' st k=>by
  obtain⟨⟨old,he⟩,hit⟩:=st
  exact⟨⟨old,k e (by simp) _ he⟩,hit.at λo x=>k it (by simp) o x⟩
 item:=by
  intro X hP hw hK hc i MG s σ H E I hf st hg
  subst hP hw hK
  obtain⟨xs,x,hq,hx⟩:=hg
  obtain⟨MJ,rv,p,hz⟩:=I.list hq
  obtain⟨u,hu,ru⟩:=rv.get hx
  obtain⟨⟨old,he⟩,hit⟩:=st
  have O6:e<s.heap.objs.size:=Heap.lt_size he
  have PN:it<s.heap.objs.size:=by obtain⟨_,z,_⟩:=hit;exact Heap.lt_size z
  refine wpAny_pyNext_enum_item he hit p.isList (x:=u) (by simpa using hu) OC λh' ho PQ hT Oe hk=>⟨_,rfl,?_⟩
  refine wpAny_letOwnedTupleGo_enum (s:={ s with heap:=h',toks:=s.toks+1 }) ho λh2 he2 N8=>?_
  have Pe:∀ b o,b ∉ [e,it]->s.heap.get? b=some o->h2.get? b=some o:=λb o hb q=>by
   have n1:b≠e:=λz=>hb (by simp[z])
   have n2:b≠it:=λz=>hb (by simp[z])
   exact(N8.2 b n1).trans (hk b o n1 n2 q)
  have Pq:h2.get? s.heap.objs.size=some { cls:=.type "tuple", data:=.seq #[.int i s.toks,u] }:=(N8.2 _ (Nat.ne_of_gt O6)).trans hT
  have I2:Inv X MG σ (upd H s.heap.objs.size (.tup [.int i,x])) { s with heap:=h2,toks:=s.toks+1 } :=
   I.kf (ch:=[e,it]) Pe hf (Nat.le_refl _) (λb hb=>by
    rcases List.mem_cons.mp hb with z | z
    ·subst z;exact⟨_,he⟩
    ·have z':b=it:=by simpa using z
     subst z'
     obtain⟨o,z,_⟩:=hit
     exact⟨o,z⟩)
    ⟨by show 2<=sizeLine;decide,[.int i s.toks,u],.cons ⟨_,rfl⟩ (.cons ru .nil),⟨_,Pq,rfl,_,rfl⟩⟩
  have N7:H s.heap.objs.size=none:=I.bM.fresh (Nat.le_refl _)
  refine⟨.ref s.heap.objs.size,_,I2,rfl,⟨_,x,N7,rfl,rfl,λys hy=>by rw[I.pV hy hq];exact hx⟩,⟨⟨u,by simpa using he2⟩,PQ.at λo z=>(N8.2 it (Ne.symm OC)).trans z⟩,λb hb=>?_⟩
  have nb:b≠s.heap.objs.size:=by
   rcases List.mem_cons.mp hb with z | z
   ·rw[z];exact Nat.ne_of_lt O6
   ·have z':b=it:=by simpa using z
    rw[z'];exact Nat.ne_of_lt PN
  rw[aw nb]
  exact(hf b hb).1
 done:=by
  intro X hP hw hK hc i MG s σ H E I hf st hg
  subst hP hw hK
  obtain⟨xs,hq,hx⟩:=hg
  obtain⟨MJ,rv,p,hz⟩:=I.list hq
  have hl:=rv.length
  obtain⟨⟨old,he⟩,hit⟩:=st
  obtain⟨f0,f1,f2,f3,f4,f5⟩:=hf it (by simp)
  exact wpAny_pyNext_enum_end (I.ok.hd hc) he hit p.isList (by simp;omega) λh' eb=>⟨rfl,I.turned (t':=s.toks) (λb o hb e=>eb b o hb e) f0 f1 f3 f4 f5⟩
 self:=λ_ _ _ _ _ st h=>by
  obtain⟨⟨old,he⟩,_⟩:=st
  exact wpAny_pyIter_enum he h
end
end L2
namespace L2
open PySem PySem.Spec PyProof.Rows
section
variable{prog:Program}{w:World}{A:Around}{R:Result->Shared->Prop}{s:Shared}
theorem yE{elt target iter:Expr}{ifs:List Expr}{scope:Scope}{pos:Pos}{it acc:Value}{env:Env}(I:Nat->Shared->Prop)
  (turn:∀ n s,I n s->wpAny (model prog w) A (pyNext it) (λr s₁=>match r with
   | none=>R (.ok .next) s₁
   | some v=>wpAny (model prog w) A (letOwnedTupleGo target it v) (λ_ s₂=>wpAny (model prog w) A (assign target env v) (λ_ s₃ =>
     wpAny (model prog w) A (forIn ifs true λc r=>if r=true then do let ok ← isTrue c env (eval c env);pure (ForInStep.yield ok) else pure (ForInStep.yield r)) (λok s₄ =>
      if ok=true then wpAny (model prog w) A (eval elt env) (λx s₅ =>
       wpAny (model prog w) A (call (.builtin "list.append") [acc,x]) (λ_ s₆=>∃ m,m<n/\I m s₆) (λ_ _=>False) s₅) (λ_ _=>False) s₄
      else ∃ m,m<n/\I m s₄) (λ_ _=>False) s₃) (λ_ _=>False) s₂) (λ_ _=>False) s₁) (λ_ _=>False) s)
  (n:Nat) (h:I n s) :
  codeAny (model prog w) A (.compLoop (.ListComp elt [⟨target,iter,ifs,0⟩] scope pos) 0 it acc env) R s:=by
 refine codeAny_loop rfl I (λn s hI=>?_) n h
 show wpAny _ A ((compTurn (.ListComp elt [⟨target,iter,ifs,0⟩] scope pos) 0 it acc env).onRaise (λx=>do noteFrame x env;theTreesLotGoes x)) _ _ s
 refine wpAny_noted ?_
 rw[compTurn_list]
 refine wpAny_bind (wpAny_standAt (wpAny_bind (wpAny_mono (turn n s hI) (λr s₁ h₁=>?_) λ_ _ h'=>h'.elim)))
 cases r with
 | none=>exact wpAny_pure h₁
 | some v =>
  refine wpAny_bind (wpAny_mono h₁ (λ_ s₂ h₂=>wpAny_bind (wpAny_mono h₂ (λ_ s₃ h₃=>wpAny_bind (wpAny_mono h₃ (λok s₄ h₄=>?_) λ_ _ h'=>h'.elim)) λ_ _ h'=>h'.elim)) λ_ _ h'=>h'.elim)
  cases ok with
  | false=>exact wpAny_pure ⟨rfl,h₄⟩
  | true =>
   exact wpAny_bind (wpAny_bind (wpAny_mono h₄ (λx s₅ h₅=>wpAny_bind (wpAny_mono h₅ (λ_ s₆ h₆=>wpAny_pure (wpAny_pure ⟨rfl,h₆⟩)) λ_ _ h'=>h'.elim)) λ_ _ h'=>h'.elim))
end
def qy(X:Cx)(scope:Scope)(cl:List (Str×Addr))(N:List Str)(C:Addr)(s₀:Shared)(H₀:Hp)(ex:List Addr)(MG:List (Addr×Obj)):Cx :=
 { X with N:=N,s₀:=s₀,H₀:=H₀,env:=compEnvC scope cl C X.env,outer:=X.stack,stack:=X.stack,ex:=ex,fn:=λ_=>false,pn:=X.pn++MG,xe:=λ_ _=>False }
inductive i6 (X:Cx) (sc:Scope) (cl:List (Str×Addr)):List Str->List Nat->Prop where
 | nil:i6 X sc cl [] []
 | cons {x:Str} {j:Nat} {c:Addr} {fs:List Str} {js:List Nat} (hN:X.N[j]?=some x) (hf:sc.names.lookup x=some .free) (hv:X.env.kindOf x=some .cell\/X.env.kindOf x=some .free) (hc:X.env.cells.lookup x=some c) (hl:cl.lookup x=some c) (r:i6 X sc cl fs js):i6 X sc cl (x::fs) (j::js)
inductive e8 (X:Cx):List (Str×Addr)->Prop where
 | nil:e8 X []
 | cons {x:Str} {c:Addr} {r:List (Str×Addr)} (h:X.env.cells.lookup x=some c) (t:e8 X r):e8 X ((x,c)::r)
theorem e8.at{X:Cx}:∀ {cl:List (Str×Addr)},e8 X cl->∀ x c,cl.lookup x=some c->X.env.cells.lookup x=some c
 | _,.nil,_,_,e=>by simp at e
 | _,.cons (x:=y) (c:=d) h t,x,c,e=>by
  rw[List.lookup_cons] at e
  cases q:x==y with
  | true =>
   rw[q] at e
   have e':d=c:=Option.some.inj e
   have q':x=y:=by simpa using q
   rw[q',← e'];exact h
  | false =>
   rw[q] at e
   exact e8.at t x c e
def iG(cl:List (Str×Addr))(names:List (Str×NameKind)):Bool:=names.all λy=>y.2 != .free||(cl.lookup y.1).isSome
def gu(names:List (Str×NameKind)):Bool:=names.all λy=>y.2 != .cell
def iB(names:List (Str×NameKind)):Bool:=names.all λy=>y.2 != .local||(names.lookup y.1==some .local)
def fL(ts:List Str)(js:List Nat)(σ:St):St:=ts.map (λ_=>none)++js.map λj=>(σ[j]?).join
def Bx(wi:TI)(g:TG)(tt:Option TT)(te:TE)(ts:List Str)(js:List Nat):TE:=fun σ H Q=>wi σ H λJ H1=>∀ D,H1 D=none ->
 ∃ W:Nat->Nat->St->Hp->Prop,(∃ m,W 0 m (fL ts js σ) (upd H1 D (.lst [])))/\∀ i m σ' H',W i m σ' H' ->
  (J.stop i H'/\Q (.ref D) H')\/(J.go i H'/\∃ N:St->Hp->Prop,(∀ σ'' H'',N σ'' H''->∃ m',m'<m/\W (i+1) m' σ'' H'') ∧
   ∀ x H2,J.uq i H' x H2->g x σ' H2 fun σ2 H3=>match tt with
    | none=>te σ2 H3 λy H4=>∃ ys,H4 D=some (.lst ys)/\ys.length<sizeLine/\N σ2 (upd H4 D (.lst (ys++[y])))
    | some t=>t σ2 H3 λb Qb=>if b=true then te σ2 Qb λy H4=>∃ ys,H4 D=some (.lst ys)/\ys.length<sizeLine/\N σ2 (upd H4 D (.lst (ys++[y]))) else N σ2 Qb)
theorem pB {scope : Scope} {cl : List (Str × Addr)} {C : Addr} {env : Env} {x : Str} (h : (compEnvC scope cl C env).kindOf x = some .cell \/ (compEnvC scope cl C env).kindOf x = some .free) (nc : gu scope.names = true) : scope.names.lookup x = some .free := by
  have key : ∀ (names : List (Str × NameKind)), gu names = true ->
      ((names.map λ(n, k) => if (k == NameKind.free && env.scope.kind == .function && env.kindOf n == some .cell) then (n, NameKind.cell) else (n, k)).lookup x = some .cell ∨
       (names.map λ(n, k) => if (k == NameKind.free && env.scope.kind == .function && env.kindOf n == some .cell) then (n, NameKind.cell) else (n, k)).lookup x = some .free) -> names.lookup x = some .free := by
    intro names
    induction names with
    | nil => intro _ h; simp at h
    | cons p r ih =>
      obtain ⟨n, k⟩ := p
      intro nc h
      have nc' : (k != .cell) = true /\ gu r = true := by
        unfold gu at nc
        rw [List.all_cons, Bool.and_eq_true] at nc
        exact nc
      rw [List.map_cons] at h
      dsimp only at h
      by_cases hc : (k == NameKind.free && env.scope.kind == .function && env.kindOf n == some .cell) = true
      · rw [if_pos hc] at h
        rw [List.lookup_cons] at h ⊢
        cases q : x == n with
        | true =>
          have : k = .free := by
            rw [Bool.and_eq_true, Bool.and_eq_true] at hc
            simpa using hc.1.1
          rw [this]
        | false =>
          rw [q] at h
          exact ih nc'.2 h
      · rw [if_neg hc] at h
        rw [List.lookup_cons] at h ⊢
        cases q : x == n with
        | true =>
          rw [q] at h
          have nk : k ≠ .cell := by simpa using nc'.1
          rcases h with h | h
          · exact absurd (Option.some.inj h) nk
          · exact h
        | false =>
          rw [q] at h
          exact ih nc'.2 h
  exact key scope.names nc h
theorem u5{X:Cx}{tg elt iter:Expr}{ifs:List Expr}{scope:Scope}{cl:List (Str×Addr)}{pos MX:Pos}{wi:TI}{g:TG}{tt:Option TT}{te:TE}{ts fs:List Str}{js:List Nat}(MS:X.calm=true)
  (Nd:closureFor scope X.env=pure cl) (hk:scope.kind=.function) (nc:gu scope.names=true) (lo:iB scope.names=true) (fh:iG cl scope.names=true) (ag:e8 X cl) (fr:i6 X scope cl fs js)
  (hi:PI X tg iter wi) (hg:∀ C s₀ H₀ ex MG,PG (qy X scope cl (ts++fs) C s₀ H₀ ex MG) tg g)
  (ht:∀ C s₀ H₀ ex MG,match ifs,tt with | [],none=>True | [c],some t=>PT (qy X scope cl (ts++fs) C s₀ H₀ ex MG) c t | _,_=>False)
  (he:∀ C s₀ H₀ ex MG,PE (qy X scope cl (ts++fs) C s₀ H₀ ex MG) elt te)
  (hs:∀ x,foldedSetIterable iter X.env x=pure x) {MG:List (Addr×Obj)} {s:Shared} {σ:St} {H:Hp} {Q:VK} (I:Inv X MG σ H s) (h:Bx wi g tt te ts js σ H Q)
  (use:Option (Value->Sem Unit)) (Qv:Value->Shared->Prop)
  (GR:∀ (D:Addr) (H':Hp) (s':Shared) (C:Addr),Inv X MG σ H' s'->Q (.ref D) H'->(∃ m,s'.heap.Ns C m)->lF X MG H' C->compPost (model X.prog X.w) X.A X.xe use Qv (.ref D) C (.ok .next) s') :
  wpAny (model X.prog X.w) X.A (comprehension (.ListComp elt [⟨tg,iter,ifs,0⟩] scope pos) scope X.env MX (newList []) false (eval iter X.env) use) Qv X.xe s:=by
 have ON:∀ y∈scope.names,y.2≠.cell:=λy hy=>by
  have:=List.all_eq_true.mp nc y hy
  simpa using this
 have PR:∀ y∈scope.names,y.2=.local->scope.names.lookup y.1=some .local:=λy hy hl=>by
  have:=List.all_eq_true.mp lo y hy
  rw[hl] at this
  simpa using this
 refine wpAny_comprehension_free (use:=use) rfl hs Nd hk PR (c6 (hi MG s σ H _ I h) λv s1 h1=>c6 h1 λitv s2 h2=>?_)
 obtain⟨it,fp,tn,J,H1,e,I2,T,PM,f2,hJ⟩:=h2
 subst e
 refine wpAny_newObj_type (wpAny_newFunctionEnv ON (by intro y hy;simp at hy) (λh₁ hns1 hsb1=>?_) hk)
 dsimp only at hns1 hsb1 ⊢
 generalize hH2:s2.heap.push { cls:=.type "list", dict:=none,data:=.seq ([]:List Value).toArray }=G at hns1 hsb1 ⊢
 have hC:G.objs.size=s2.heap.objs.size+1:=by rw[← hH2,Heap.size_push]
 have old:∀ b o,s2.heap.get? b=some o->h₁.get? b=some o:=λb o e=>by
  have hb:=Heap.lt_size e
  refine hsb1.extBut b o (Nat.ne_of_lt (Nat.lt_of_lt_of_le hb (Nat.le_of_lt (by rw[hC];exact Nat.lt_succ_self _)))) (Heap.get?_push_of_some _ ?_)
  rw[← hH2]
  exact Heap.get?_push_of_some _ e
 have hacc:h₁.get? s2.heap.objs.size=some { cls:=.type "list", dict:=none,data:=.seq #[] }:=by
  refine hsb1.extBut _ _ (Nat.ne_of_lt (by rw[hC];exact Nat.lt_succ_self _)) (Heap.get?_push_of_some _ ?_)
  rw[← hH2]
  exact Heap.get?_push_size _ rfl
 have nD:H1 s2.heap.objs.size=none:=I2.bM.fresh (Nat.le_refl _)
 have nC:H1 G.objs.size=none:=I2.bM.fresh (by omega)
 obtain⟨W,⟨m0,w0⟩,turn⟩:=hJ _ nD
 have Qk:∀ b∈fp,b<s2.heap.objs.size:=λb hb=>by
  obtain⟨o,e,_⟩:=T.obj _ _ PM b hb
  exact Heap.lt_size e
 have ltk:∀ (x:Str) (c:Addr),cl.lookup x=some c->c<s2.heap.objs.size/\H1 c=none/\(∃ v,s2.heap.IsCell c v):=λx c e=>by
  have e':=ag.at x c e
  obtain⟨v,q⟩:=I2.cell x c e'
  exact⟨q.lt,I2.kJ x c e',v,q⟩
 let X':=qy X scope cl (ts++fs) G.objs.size s2 H1 fp MG
 have okX:X'.Ok:=by
  refine⟨I2.ok.mod,hk,I2.ok.glob,I2.ok.blt,by show s2.heap.objs.size<=G.objs.size;omega,λx y c e1 e2=>I2.ok.inj x y c (ag.at x c e1) (ag.at y c e2),λx hx=>?_,λx c hf _=>(nomatch (show (false:Bool)=true from hf)),I2.ok.hd,I2.ok.frames,.inl rfl,λb hb=>⟨?_,λx c e z=>?_⟩,λb o e=>I2.bs b o e,Nat.le_trans I2.ok.Fg I2.sz,λb o e hb=>?_,λb hb hz=>?_,I2.stack,λb hb=>I2.tJ b hb⟩
  ·have OO:=pB (env:=X.env) hx nc
   have hm:∃ y∈scope.names,y.1=x/\y.2=.free:=by
    have:∀ (l:List (Str×NameKind)),l.lookup x=some .free->∃ y∈l,y.1=x/\y.2=.free:=by
     intro l
     induction l with
     | nil=>intro h;simp at h
     | cons p r ih =>
      intro h
      rw[List.lookup_cons] at h
      cases q:x==p.1 with
      | true =>
       rw[q] at h
       exact⟨p,List.mem_cons_self,(by simpa using q:x=p.1).symm,Option.some.inj h⟩
      | false =>
       rw[q] at h
       obtain⟨y,hy,r1,r2⟩:=ih h
       exact⟨y,List.mem_cons_of_mem _ hy,r1,r2⟩
    exact this _ OO
   obtain⟨y,hy,r1,r2⟩:=hm
   have:=List.all_eq_true.mp fh y hy
   rw[r2] at this
   have h':(cl.lookup y.1).isSome=true:=by simpa using this
   rw[r1] at h'
   exact Option.isSome_iff_exists.mp h'
  ·exact Nat.ne_of_lt (Nat.lt_of_lt_of_le (Qk b hb) (by show s2.heap.objs.size<=G.objs.size;omega))
  ·exact(f2 b hb).2.2.2.2.1 x c (ag.at x c e) z
  ·obtain⟨_,_,_,f3,_,_⟩:=f2 b hb
   rcases f3 with z | z
   ·exact I2.ok.zE b o e z
   ·exact absurd (Nat.lt_of_lt_of_le (Heap.lt_size (I2.ok.bs b o e).1) z) (Nat.lt_irrefl _)
  ·rcases List.mem_cons.mp (I2.sE b hz) with z | z
   ·exact(f2 b hb).2.1 z
   ·exact(f2 b hb).2.2.1 z
 have keepB:∀ b o,s2.heap.get? b=some o->h₁.get? b=some o:=old
 have I3:Inv X' [] (fL ts js σ) (upd H1 s2.heap.objs.size (.lst [])) { s2 with heap:=h₁,toks:=s2.toks+([]:List (Str×Value)).length }:=by
  have neD:∀ b o,s2.heap.get? b=some o->b≠s2.heap.objs.size:=λb o e=>Nat.ne_of_lt (Heap.lt_size e)
  refine⟨okX,rfl,I2.bare,⟨λb o e n hb hx=>old b o e,λb o e n hb hx=>⟨o.slots,old b o e⟩,λb o e n hx=>by rw[aw (neD b o e)];exact n,λb o e hx=>⟨o,old b o e⟩,λb xs e=>?_,λb o u e=>?_,λb ps e=>?_⟩,⟨_,hns1,λi x v e1 e2 e3=>?_⟩,λx c e=>?_,?_,λx c e=>?_,λp hp=>?_,?_,?_⟩
  ·rw[aw (bW e nD)];exact e
  ·rw[aw (bW e nD)];exact e
  ·exact⟨#[],by rw[aw (bW e nD)];exact Eq.trans e (by simp)⟩
  ·
   have hlen:(ts.map (λ_=>(none:Option V))).length=ts.length:=List.length_map _
   unfold fL at e2
   by_cases ND:i<ts.length
   ·rw[List.getElem?_append_left (by rw[hlen];exact ND),List.getElem?_map] at e2
    cases q:ts[i]? <;> rw[q] at e2 <;> cases e2
   ·rw[List.getElem?_append_right (by rw[hlen];omega),hlen] at e2
    have e1':fs[i-ts.length]?=some x:=by
     have e1':(ts++fs)[i]?=some x:=e1
     rw[List.getElem?_append_right (by omega)] at e1'
     exact e1'
    have all:∀ {fs:List Str} {js:List Nat},i6 X scope cl fs js->∀ k:Nat,fs[k]?=some x->(js.map λj=>(σ[j]?).join)[k]?=some (some v) ->
      ∃ (j:Nat) (c:Addr),X.N[j]?=some x/\σ[j]?=some (some v)/\(X.env.kindOf x=some .cell\/X.env.kindOf x=some .free)/\X.env.cells.lookup x=some c/\cl.lookup x=some c/\scope.names.lookup x=some .free:=by
     intro fs js r
     induction r with
     | nil=>intro k e;simp at e
     | @cons y j c fs js hN hf hv hc hl r ih =>
      intro k e e'
      cases k with
      | zero =>
       have e0:y=x:=by simpa using e
       subst e0
       have Qd:(σ[j]?).join=some v:=by simpa using e'
       refine⟨j,c,hN,?_,hv,hc,hl,hf⟩
       cases q:σ[j]? with
       | none=>rw[q] at Qd;cases Qd
       | some z=>rw[q] at Qd;cases z with
        | none=>cases Qd
        | some z =>
         have:z=v:=by simpa using Qd
         rw[this]
      | succ k=>exact ih k (by simpa using e) (by simpa using e')
    obtain⟨j,c,q1,q2,q3,q4,q5,q6⟩:=all fr (i-ts.length) e1' e2
    obtain⟨m,hn,hl⟩:=I2.loc
    have vis:CS X.env.scope x:=by
     rcases q3 with z | z
     ·exact .inr (.inl z)
     ·exact .inr (.inr z)
    obtain⟨u,ru,lk⟩:=hl j x v q1 q2 vis
    refine⟨u,ru,.inr ⟨?_,c,q5,?_⟩⟩
    ·rcases e3 with z | z | z
     ·exfalso
      have key:∀ (l:List (Str×NameKind)),(l.map λ(n,k)=>if (k==NameKind.free&&X.env.scope.kind==.function&&X.env.kindOf n==some .cell) then (n,NameKind.cell) else (n,k)).lookup x=some .local->l.lookup x=some .local:=by
       intro l
       induction l with
       | nil=>intro h;simp at h
       | cons p r ih =>
        obtain⟨n,k⟩:=p
        intro h
        rw[List.map_cons] at h
        dsimp only at h
        by_cases hc:(k==NameKind.free&&X.env.scope.kind==.function&&X.env.kindOf n==some .cell)=true
        ·rw[if_pos hc] at h
         rw[List.lookup_cons] at h ⊢
         cases q:x==n with
         | true=>rw[q] at h;cases h
         | false=>rw[q] at h;exact ih h
        ·rw[if_neg hc] at h
         rw[List.lookup_cons] at h ⊢
         cases q:x==n with
         | true=>rw[q] at h;exact h
         | false=>rw[q] at h;exact ih h
      have:=key _ z
      rw[q6] at this
      cases this
     ·exact .inl z
     ·exact .inr z
    ·rcases lk with ⟨k,_⟩ | ⟨_,c',e4,z⟩
     ·rcases q3 with z | z <;> rw[z] at k <;> cases k
     ·rw[q4] at e4
      cases e4
      obtain⟨o,ho,hd⟩:=z
      exact⟨o,old c o ho,hd⟩
  ·obtain⟨_,_,v,o,ho,hd⟩:=ltk x c e
   exact⟨v,o,old c o ho,hd⟩
  ·show upd H1 s2.heap.objs.size (.lst []) G.objs.size=none
   rw[aw (Nat.ne_of_gt (by rw[hC];exact Nat.lt_succ_self _))];exact nC
  ·obtain⟨q1,q2,_⟩:=ltk x c e
   rw[aw (Nat.ne_of_lt q1)];exact q2
  ·have PK:p∈X.pn++MG:=by
    have:p∈(X.pn++MG)++[]:=hp
    rwa [List.append_nil] at this
   obtain⟨e,n,ne,nf,d⟩:=I2.pin p PK
   have ND:=Heap.lt_size e
   refine⟨old _ _ e,by rw[aw (Nat.ne_of_lt ND)];exact n,?_,λhz=>?_,d⟩
   ·show p.1≠G.objs.size
    exact Nat.ne_of_lt (Nat.lt_trans ND (by rw[hC];exact Nat.lt_succ_self _))
   ·rcases List.mem_cons.mp (I2.sE _ hz) with z | z
    ·exact ne z
    ·exact nf z
  ·exact I2.bM.laid old (Nat.le_refl _) ⟨Nat.zero_le _,[],0,.nil,hacc⟩
  ·show (fL ts js σ).length=(ts++fs).length
   have frl:∀ {fs:List Str} {js:List Nat},i6 X scope cl fs js->fs.length=js.length:=by
    intro fs js r
    induction r with
    | nil=>rfl
    | cons _ _ _ _ _ _ ih=>rw[List.length_cons,List.length_cons,ih]
   unfold fL
   rw[List.length_append,List.length_append,List.length_map,List.length_map,frl fr]
 have OK:∀ {H':Hp},(∀ b∈fp,H' b=none)->∀ b∈fp,lF X' [] H' b:=λ{H'} hn b hb=>by
  obtain⟨_,f1,f3,_,f4,f5⟩:=f2 b hb
  refine⟨hn b hb,okX.Kx b hb |>.1,okX.Bk b hb,.inl hb,λx c e=>f4 x c (ag.at x c e),λp hp=>f5 p ?_⟩
  have:p∈(X.pn++MG)++[]:=hp
  rwa [List.append_nil] at this
 have fin:∀ {σ':St} {H':Hp} {s':Shared},Inv X' [] σ' H' s'->Q (.ref s2.heap.objs.size) H' ->
   compPost (model X.prog X.w) X.A X.xe use Qv (.ref s2.heap.objs.size) G.objs.size (.ok .next) s':=by
  intro σ' H' s' I4 q
  obtain⟨m,hn,_⟩:=I4.loc
  have fC:H' G.objs.size=none:=I4.free
  have Io:Inv X MG σ H' s':=by
   refine I2.A_ (s':=s') (ch:=fp) I4.os ⟨λb o e n hb hx=>?_,λb o e n hb hx=>?_,λb o e n hx=>I4.base.free b o e n hx,λb o e hx=>?_,I4.base.sG,I4.base.mD,I4.base.tf⟩ I4.bM I4.bare λb hb=>?_
   ·exact I4.base.keep b o e n hb hx
   ·exact I4.base.slot b o e n hb hx
   ·exact I4.base.there b o e hx
   ·obtain⟨_,f1,_,f3,f4,f5⟩:=f2 b hb
    exact⟨f3,f1,f4,f5⟩
  have hCl:s2.heap.objs.size<=G.objs.size:=by rw[hC];exact Nat.le_succ _
  exact GR _ H' s' _ Io q ⟨m,hn⟩ (I2.t6 hCl fC)
 have loop:∀ s3:Shared,s3={ s2 with heap:=h₁,toks:=s2.toks+([]:List (Str×Value)).length } ->
   codeAny (model X.prog X.w) X.A (.compLoop (.ListComp elt [⟨tg,iter,ifs,0⟩] scope pos) 0 (.ref it) (.ref s2.heap.objs.size) (compEnvC scope cl G.objs.size X.env))
    (compPost (model X.prog X.w) X.A X.xe use Qv (.ref s2.heap.objs.size) G.objs.size) s3:=by
  rintro s3 rfl
  refine yE (λn s'=>∃ i σ' H',Inv X' [] σ' H' s'/\tn i s'.heap/\(∀ b∈fp,H' b=none)/\W i n σ' H') ?_ m0 ⟨0,_,_,I3,T.keep _ _ _ PM λb _ o e=>old b o e,λb hb=>?_,w0⟩
  ·rintro n s3 ⟨i,σ3,H3,I3,st3,fr3,w3⟩
   rcases turn i n σ3 H3 w3 with ⟨stop,qn⟩ | ⟨go,N,hN,step⟩
   ·refine c6 (T.done X' rfl rfl rfl MS i [] s3 σ3 H3 _ I3 (OK fr3) st3 stop) λr s4 ⟨hr,I4⟩=>?_
    subst hr
    exact fin I4 qn
   ·refine c6 (T.item X' rfl rfl rfl MS i [] s3 σ3 H3 _ I3 (OK fr3) st3 go) λr s4 ⟨u,hr,h4⟩=>?_
    subst hr
    refine c6 h4 λ_ s5 ⟨x,H5,I5,r5,y5,st5,fr5⟩=>?_
    have I5':=I5.pinned (OK fr5) (T.obj _ _ st5)
    refine c6 (hg _ _ _ _ _ _ s5 σ3 H5 x u _ I5' r5 (step x H5 y5)) λ_ s6 ⟨σ6,H6,I6,q6⟩=>?_
    have again:∀ {σ7:St} {H7:Hp} {s7:Shared},Inv X' ([]++me fp s5.heap) σ7 H7 s7->N σ7 H7->∃ m,m<n/\∃ i σ' H',Inv X' [] σ' H' s7/\tn i s7.heap/\(∀ b∈fp,H' b=none)/\W i m σ' H':=λ{σ7 H7 s7} I7 n7=>by
     obtain⟨m',hm,w7⟩:=hN σ7 H7 n7
     refine⟨m',hm,i+1,σ7,H7,I7.lB,T.keep _ _ _ st5 λb hb o e=>(I7.pin (b,o) (List.mem_append_right _ (List.mem_append_right _ (jr hb e)))).1,λb hb=>?_,w7⟩
     obtain⟨o,e,d⟩:=T.obj _ _ st5 b hb
     exact(I7.pin (b,o) (List.mem_append_right _ (List.mem_append_right _ (jr hb e)))).2.1
    have tail:∀ {H7:Hp} {s7:Shared},Inv X' ([]++me fp s5.heap) σ6 H7 s7->(te σ6 H7 λy H4=>∃ ys,H4 s2.heap.objs.size=some (.lst ys)/\ys.length<sizeLine/\N σ6 (upd H4 s2.heap.objs.size (.lst (ys++[y])))) ->
      wpAny (model X.prog X.w) X.A (eval elt (compEnvC scope cl G.objs.size X.env)) (λx s₅=>wpAny (model X.prog X.w) X.A (call (.builtin "list.append") [.ref s2.heap.objs.size,x])
       (λ_ s₆=>∃ m,m<n/\∃ i σ' H',Inv X' [] σ' H' s₆/\tn i s₆.heap/\(∀ b∈fp,H' b=none)/\W i m σ' H') (λ_ _=>False) s₅) (λ_ _=>False) s7:=by
     intro H7 s7 I7 q7
     refine c6 (he _ _ _ _ _ _ s7 σ6 H7 _ I7 q7) λuy s8 ⟨y,H8,I8,ry,ys,hy,hl,q8⟩=>?_
     refine c6 (rW (X:=X') _ s8 σ6 H8 (.ref s2.heap.objs.size) [y] (.ref s2.heap.objs.size) [uy] (λ_ H9=>N σ6 H9) I8 rfl (.cons ry .nil) ⟨_,ys,y,rfl,rfl,hy,hl,q8⟩) λ_ s9 ⟨_,H9,I9,_,q9⟩=>?_
     exact again I9 q9
    cases ifs with
    | nil =>
     cases tt with
     | none=>exact wpAny_tests_nil (tail I6 q6)
     | some t=>exact(ht 0 s2 H1 [] []).elim
    | cons c r =>
     cases r with
     | nil =>
      cases tt with
      | none=>exact(ht 0 s2 H1 [] []).elim
      | some t =>
       refine wpAny_tests_one (c6 (ht G.objs.size s2 H1 fp MG _ s6 σ6 H6 _ I6 q6) λb s7 ⟨H7,I7,q7⟩=>?_)
       cases b with
       | true =>
        rw[if_pos rfl] at q7 ⊢
        exact tail I7 q7
       | false =>
        rw[if_neg Bool.false_ne_true] at q7 ⊢
        exact again I7 q7
     | cons _ _=>cases tt <;> exact(ht 0 s2 H1 [] []).elim
  ·rw[aw (Nat.ne_of_lt (Qk b hb))]
   exact(f2 b hb).1
 exact codeAny_compStart_list (loop _ rfl) (T.self _ 0 _ _ _ (T.keep _ _ _ PM λb _ o e=>old b o e) (loop _ rfl))
theorem Inv.other{X:Cx}{MG:List (Addr×Obj)}{σ:St}{H:Hp}{s:Shared}{C:Addr}{h':Heap}(I:Inv X MG σ H s)(f:lF X MG H C)(hs:Heap.SameBut C s.heap h'):Inv X MG σ H { s with heap:=h' }:=by
 obtain⟨f0,f1,_,f3,f4,f5⟩:=f
 refine I.A_ (s':={ s with heap:=h' }) (ch:=[C]) rfl ⟨λb o e n hb hx=>?_,λb o e n hb hx=>?_,λb o e n hx=>n,λb o e hx=>?_,λ_ _ q=>q,λ_ _ _ q=>q,λb ps q=>⟨#[],by rw[q];simp⟩⟩ (λb u e=>?_) I.bare λb hb=>?_
 ·exact(hs.2 b (λz=>hx (by rw[z];exact List.mem_singleton.mpr rfl))).trans e
 ·exact⟨o.slots,(hs.2 b (λz=>hx (by rw[z];exact List.mem_singleton.mpr rfl))).trans e⟩
 ·exact⟨o,(hs.2 b (λz=>hx (by rw[z];exact List.mem_singleton.mpr rfl))).trans e⟩
 ·refine(I.bM b u e).nO (λc v hc q=>(hs.2 c ?_).trans q) (λ_ q=>q) λ_ _ q=>q
  rcases hc with z | z
  ·rw[z];exact bW e f0
  ·exact bW z f0
 ·rw[List.mem_singleton.mp hb]
  exact⟨f3,f1,f4,f5⟩
theorem xG{X:Cx}{tg elt iter:Expr}{ifs:List Expr}{scope:Scope}{cl:List (Str×Addr)}{pos:Pos}{wi:TI}{g:TG}{tt:Option TT}{te:TE}{ts fs:List Str}{js:List Nat}(MS:X.calm=true)
  (Nd:closureFor scope X.env=pure cl) (hk:scope.kind=.function) (nc:gu scope.names=true) (lo:iB scope.names=true) (fh:iG cl scope.names=true) (ag:e8 X cl) (fr:i6 X scope cl fs js)
  (hi:PI X tg iter wi) (hg:∀ C s₀ H₀ ex MG,PG (qy X scope cl (ts++fs) C s₀ H₀ ex MG) tg g)
  (ht:∀ C s₀ H₀ ex MG,match ifs,tt with | [],none=>True | [c],some t=>PT (qy X scope cl (ts++fs) C s₀ H₀ ex MG) c t | _,_=>False)
  (he:∀ C s₀ H₀ ex MG,PE (qy X scope cl (ts++fs) C s₀ H₀ ex MG) elt te)
  (hs:autoParam (∀ x,foldedSetIterable iter X.env x=pure x) aI._auto_1) :
  PE X (.ListComp elt [⟨tg,iter,ifs,0⟩] scope pos) (Bx wi g tt te ts js):=by
 intro MG s σ H Q I h
 rw[eval_ListComp]
 refine u5 MS Nd hk nc lo fh ag fr hi hg ht he hs I h none _ λD H' s' C Io q hm f=>?_
 obtain⟨m,hn⟩:=hm
 exact⟨m,hn,λh' P9=>⟨.ref D,H',Io.other f P9,rfl,q⟩⟩
def wq(wi:TI)(g:TG)(te:TE)(ts:List Str)(js:List Nat):TE:=fun σ H Q=>wi σ H λJ H1=>∀ D,H1 D=none ->
 ∃ W:Nat->Nat->St->Hp->Prop,(∃ m,W 0 m (fL ts js σ) (upd H1 D (.lst [])))/\∀ i m σ' H',W i m σ' H' ->
  (J.stop i H'/\Q (.ref D) H')\/(J.go i H'/\∃ N:St->Hp->Prop,(∀ σ'' H'',N σ'' H''->∃ m',m'<m/\W (i+1) m' σ'' H'') ∧
   ∀ x H2,J.uq i H' x H2->g x σ' H2 fun σ2 H3=>te σ2 H3 λy H4=>∃ ys,H4 D=some (.lst ys)/\ys.length<sizeLine/\N σ2 (upd H4 D (.lst (ys++[y]))))
def Hv(wi:TI)(g:TG)(t:TT)(te:TE)(ts:List Str)(js:List Nat):TE:=fun σ H Q=>wi σ H λJ H1=>∀ D,H1 D=none ->
 ∃ W:Nat->Nat->St->Hp->Prop,(∃ m,W 0 m (fL ts js σ) (upd H1 D (.lst [])))/\∀ i m σ' H',W i m σ' H' ->
  (J.stop i H'/\Q (.ref D) H')\/(J.go i H'/\∃ N:St->Hp->Prop,(∀ σ'' H'',N σ'' H''->∃ m',m'<m/\W (i+1) m' σ'' H'') ∧
   ∀ x H2,J.uq i H' x H2->g x σ' H2 fun σ2 H3=>t σ2 H3 λb Qb=>if b=true then te σ2 Qb λy H4=>∃ ys,H4 D=some (.lst ys)/\ys.length<sizeLine/\N σ2 (upd H4 D (.lst (ys++[y]))) else N σ2 Qb)
theorem z9{X:Cx}{tg elt iter:Expr}{scope:Scope}{cl:List (Str×Addr)}{pos:Pos}{wi:TI}{g:TG}{te:TE}{ts fs:List Str}{js:List Nat}(MS:X.calm=true)
  (Nd:closureFor scope X.env=pure cl) (hk:scope.kind=.function) (nc:gu scope.names=true) (lo:iB scope.names=true) (fh:iG cl scope.names=true) (ag:e8 X cl) (fr:i6 X scope cl fs js)
  (hi:PI X tg iter wi) (hg:∀ C s₀ H₀ ex MG,PG (qy X scope cl (ts++fs) C s₀ H₀ ex MG) tg g) (he:∀ C s₀ H₀ ex MG,PE (qy X scope cl (ts++fs) C s₀ H₀ ex MG) elt te)
  (hs:autoParam (∀ x,foldedSetIterable iter X.env x=pure x) aI._auto_1):PE X (.ListComp elt [⟨tg,iter,[],0⟩] scope pos) (wq wi g te ts js) :=
 xG (tt:=none) MS Nd hk nc lo fh ag fr hi hg (λ_ _ _ _ _=>trivial) he hs
theorem AK{X:Cx}{tg elt iter c:Expr}{scope:Scope}{cl:List (Str×Addr)}{pos:Pos}{wi:TI}{g:TG}{t:TT}{te:TE}{ts fs:List Str}{js:List Nat}(MS:X.calm=true)
  (Nd:closureFor scope X.env=pure cl) (hk:scope.kind=.function) (nc:gu scope.names=true) (lo:iB scope.names=true) (fh:iG cl scope.names=true) (ag:e8 X cl) (fr:i6 X scope cl fs js)
  (hi:PI X tg iter wi) (hg:∀ C s₀ H₀ ex MG,PG (qy X scope cl (ts++fs) C s₀ H₀ ex MG) tg g) (ht:∀ C s₀ H₀ ex MG,PT (qy X scope cl (ts++fs) C s₀ H₀ ex MG) c t) (he:∀ C s₀ H₀ ex MG,PE (qy X scope cl (ts++fs) C s₀ H₀ ex MG) elt te)
  (hs:autoParam (∀ x,foldedSetIterable iter X.env x=pure x) aI._auto_1):PE X (.ListComp elt [⟨tg,iter,[c],0⟩] scope pos) (Hv wi g t te ts js) :=
 xG (tt:=some t) MS Nd hk nc lo fh ag fr hi hg ht he hs
end L2
namespace L2
open PySem PySem.Spec PyProof.Rows
def gk(h:Heap)(b:Bool)(l:Addr)(xs:Array Value):Prop:=match b with
 | true=>h.IsList l xs
 | false=>h.IsTuple l xs
def eR(h:Heap)(b:Bool)(it l:Addr)(i:Nat):Prop:=match b with
 | true=>h.IsListIter it l i
 | false=>h.IsTupleIter it l i
theorem gk.at{h h':Heap}{b:Bool}{l:Addr}{xs:Array Value}(x:gk h b l xs)(k:∀ o,h.get? l=some o->h'.get? l=some o):gk h' b l xs:=by
 cases b with
 | true=>obtain⟨o,ho,r⟩:=(show h.IsList l xs from x);exact(show h'.IsList l xs from ⟨o,k o ho,r⟩)
 | false=>obtain⟨o,ho,r⟩:=(show h.IsTuple l xs from x);exact(show h'.IsTuple l xs from ⟨o,k o ho,r⟩)
theorem eR.at{h h':Heap}{b:Bool}{it l:Addr}{i:Nat}(x:eR h b it l i)(k:∀ o,h.get? it=some o->h'.get? it=some o):eR h' b it l i:=by
 cases b with
 | true=>obtain⟨o,ho,r⟩:=(show h.IsListIter it l i from x);exact(show h'.IsListIter it l i from ⟨o,k o ho,r⟩)
 | false=>obtain⟨o,ho,r⟩:=(show h.IsTupleIter it l i from x);exact(show h'.IsTupleIter it l i from ⟨o,k o ho,r⟩)
theorem eR.obj{h:Heap}{b:Bool}{it l:Addr}{i:Nat}(x:eR h b it l i):∃ o vs,h.get? it=some o/\o.data=.fields vs:=by
 cases b with
 | true=>obtain⟨o,ho,_,hd⟩:=(show h.IsListIter it l i from x);exact⟨o,_,ho,hd⟩
 | false=>obtain⟨o,ho,_,hd⟩:=(show h.IsTupleIter it l i from x);exact⟨o,_,ho,hd⟩
theorem gk.obj{h:Heap}{b:Bool}{l:Addr}{xs:Array Value}(x:gk h b l xs):∃ o n,h.get? l=some o/\o.data=.seq xs n:=by
 cases b with
 | true=>obtain⟨o,ho,_,n,hd⟩:=(show h.IsList l xs from x);exact⟨o,n,ho,hd⟩
 | false=>obtain⟨o,ho,_,n,hd⟩:=(show h.IsTuple l xs from x);exact⟨o,n,ho,hd⟩
section
variable{prog:Program}{w:World}{A:Around}{E:Value->Shared->Prop}{s:Shared}
theorem iC{it t:Addr}{i:Nat}{items:Array Value}{x:Value}{Q:Value->Shared->Prop}(hit:s.heap.IsTupleIter it t i)
  (ht:s.heap.IsTuple t items) (hx:items[i]?=some x)
  (hQ:∀ h',h'.IsTupleIter it t (i+1)->Heap.SameBut it s.heap h'->Q x { s with heap:=h' }) :
  wpAny (model prog w) A (Builtin.SmallTypes.nextOf (.ref it)) Q E s:=by
 obtain⟨o,ho,hc,hd⟩:=id hit
 obtain⟨ol,hol,_,nl,hdl⟩:=ht
 unfold Builtin.SmallTypes.nextOf
 refine wpAny_bind (wpAny_callSpecial?_slot (name:=Str.ofString "__next__") hit.typeIs F.slot_tuple_iterator_next
  (wpAny_call_entry F.slot_tuple_iterator_next hit.typeIs F.entry_tuple_iterator_next ?_ (F.args_tuple_iterator_next_1 _)))
 show wpAny _ _ (field (.ref it) 0 >>= _) _ _ s
 refine wpAny_bind (wpAny_field ho hd (x:=.ref t) rfl ?_)
 show wpAny _ _ (if (Value.ref t==Value.none)=true then _ else _) _ _ s
 rw[if_neg (show ¬ ((Value.ref t==Value.none)=true) from Bool.false_ne_true)]
 show wpAny _ _ (field (.ref it) 1 >>= _) _ _ s
 refine wpAny_bind (wpAny_field ho hd (x:=.int i 0) rfl ?_)
 show wpAny _ _ (seqItems? (.ref t) >>= _) _ _ s
 refine wpAny_bind (wpAny_seqItems hol hdl ?_)
 simp only[Int.toNat_natCast,hx]
 refine wpAny_bind (wpAny_setField ho hd (by simp) (wpAny_pure ⟨x,rfl,wpAny_pure (hQ _ ?_ (Heap.SameBut.update ..))⟩))
 exact⟨_,Heap.get?_update_self _ ho (Obj.isFreed_of_fields (Obj.data_mapFields hd _)),(Obj.cls_mapFields ..).trans hc,by
  rw[Obj.data_mapFields hd];simp[rawInt]⟩
theorem fx{it t:Addr}{i:Nat}{items:Array Value}{Q:Value->Shared->Prop}(hh:A.handled=none)
  (hit:s.heap.IsTupleIter it t i) (ht:s.heap.IsTuple t items) (hx:items[i]?=none)
  (hE:∀ h' e,Heap.ExtBut it s.heap h'->(∃ o,h'.get? e=some o/\o.cls=.type "StopIteration")->E (.ref e) { s with heap:=h' }) :
  wpAny (model prog w) A (Builtin.SmallTypes.nextOf (.ref it)) Q E s:=by
 obtain⟨o,ho,hc,hd⟩:=id hit
 obtain⟨ol,hol,_,nl,hdl⟩:=ht
 unfold Builtin.SmallTypes.nextOf
 refine wpAny_bind (wpAny_callSpecial?_slot (name:=Str.ofString "__next__") hit.typeIs F.slot_tuple_iterator_next
  (wpAny_call_entry F.slot_tuple_iterator_next hit.typeIs F.entry_tuple_iterator_next ?_ (F.args_tuple_iterator_next_1 _)))
 show wpAny _ _ (field (.ref it) 0 >>= _) _ _ s
 refine wpAny_bind (wpAny_field ho hd (x:=.ref t) rfl ?_)
 show wpAny _ _ (if (Value.ref t==Value.none)=true then _ else _) _ _ s
 rw[if_neg (show ¬ ((Value.ref t==Value.none)=true) from Bool.false_ne_true)]
 show wpAny _ _ (field (.ref it) 1 >>= _) _ _ s
 refine wpAny_bind (wpAny_field ho hd (x:=.int i 0) rfl ?_)
 show wpAny _ _ (seqItems? (.ref t) >>= _) _ _ s
 refine wpAny_bind (wpAny_seqItems hol hdl ?_)
 simp only[Int.toNat_natCast,hx]
 refine wpAny_bind (wpAny_rule (wpAny_bind (wpAny_setField ho hd (by simp) ?_)))
 show wpAny _ _ (newExc (.type "StopIteration") [] >>= _) _ _ _
 refine wpAny_bind ?_
 simp only[newExc,newTuple]
 refine wpAny_bind (wpAny_newObj_type ?_ (by size_fits))
 refine wpAny_bind (m:=firstArgMember _ _) (wpAny_of_eq (a:=Value.none) (by first | rfl | (simp only[firstArgMember];rfl)) ?_)
 refine wpAny_newObj_type ?_ (by size_fits)
 simp only[raiseNew]
 refine wpAny_bind (wpAny_handled ?_)
 first | rw[show A.in1.handled=none from hh] | rw[hh]
 refine wpAny_bind (wpAny_pure (wpAny_throw ?_))
 exact hE _ _ (((Heap.SameBut.update ..).extBut.push _).push _) ⟨_,Heap.get?_push_size _ rfl,rfl⟩
theorem cZ{b:Bool}{it l:Addr}{i:Nat}{items:Array Value}{x:Value}{Q:Value->Shared->Prop}(hit:eR s.heap b it l i)(hl:gk s.heap b l items)(hx:items[i]?=some x)
  (hQ:∀ h',eR h' b it l (i+1)->Heap.SameBut it s.heap h'->Q x { s with heap:=h' }):wpAny (model prog w) A (Builtin.SmallTypes.nextOf (.ref it)) Q E s:=by
 cases b with
 | true=>exact wpAny_nextOf_list_item hit hl hx hQ
 | false=>exact iC hit hl hx hQ
theorem hV{b:Bool}{it l:Addr}{i:Nat}{items:Array Value}{Q:Value->Shared->Prop}(hh:A.handled=none)(hit:eR s.heap b it l i)(hl:gk s.heap b l items)(hx:items[i]?=none)
  (hE:∀ h' e,Heap.ExtBut it s.heap h'->(∃ o,h'.get? e=some o/\o.cls=.type "StopIteration")->E (.ref e) { s with heap:=h' }):wpAny (model prog w) A (Builtin.SmallTypes.nextOf (.ref it)) Q E s:=by
 cases b with
 | true=>exact wpAny_nextOf_list_end hh hit hl hx hE
 | false=>exact fx hh hit hl hx hE
theorem yB{b1 b2:Bool}{z TI TO i1 i2 l1 l2:Addr}{k1 k2:Nat}{xs ys:Array Value}{x y a b:Value}{Q:Value->Shared->Prop}(D:ZipApart z TI TO i1 i2 l1 l2)
  (hz:IsZip s.heap z TI TO .none) (Nr:IsPair s.heap TI (.ref i1) (.ref i2)) (Nv:IsPair s.heap TO a b)
  (h1:eR s.heap b1 i1 l1 k1) (h2:eR s.heap b2 i2 l2 k2) (N5:gk s.heap b1 l1 xs) (N6:gk s.heap b2 l2 ys) (hx:xs[k1]?=some x) (hy:ys[k2]?=some y)
  (hQ:∀ h',IsZip h' z TI TO (rawInt s.heap.objs.size)->IsPair h' TO x y->eR h' b1 i1 l1 (k1+1)->eR h' b2 i2 l2 (k2+1)->IsPair h' s.heap.objs.size x y->h'.objs.size=s.heap.objs.size+1 ->
   (∀ c o,c≠z->c≠TO->c≠i1->c≠i2->s.heap.get? c=some o->h'.get? c=some o)->Q (.ref s.heap.objs.size) { s with heap:=h' }) :
  wpAny (model prog w) A (Builtin.«zip.__next__» ⟨[.ref z],[]⟩) (λfin s'=>∃ v,fin=.done (.ret v)/\Q v s') E s:=by
 show wpAny _ _ (field (.ref z) 2 >>= _) _ _ _
 refine wpAny_bind (wpAny_field hz rfl (x:=.bool false) rfl ?_)
 show wpAny _ _ (field (.ref z) 3 >>= _) _ _ _
 refine wpAny_bind (wpAny_field hz rfl (x:=.ref TI) rfl ?_)
 refine wpAny_bind (wpAny_seqItems Nr rfl ?_)
 show wpAny _ _ (Builtin.SmallTypes.ownedTupleIsFree (.ref z) >>= _) _ _ _
 refine wpAny_bind ?_
 unfold Builtin.SmallTypes.ownedTupleIsFree
 refine wpAny_bind (wpAny_field hz rfl (x:=.none) rfl (wpAny_pure ?_))
 simp only[if_true]
 refine wpAny_bind (wpAny_rule ?_)
 refine wpAny_bind (wpAny_field hz rfl (x:=.ref TO) rfl ?_)
 refine wpAny_bind (wpAny_setField_rec hz (by simp) λh₁ hz1 hs1=>?_)
 replace hz1:IsZip h₁ z TI TO .ellipsis:=hz1
 refine wpAny_bind ?_
 simp only[List.zipIdx_cons,List.zipIdx_nil,List.forIn_cons,List.forIn_nil]
 refine wpAny_bind (wpAny_bind (wpAny_onRaise ?_))
 show wpAny _ _ (Builtin.SmallTypes.nextOf (.ref i1) >>= _) _ _ _
 refine wpAny_bind (cZ (h1.at λo e=>hs1.extBut _ _ D.i1z e) (N5.at λo e=>hs1.extBut _ _ D.l1z e) hx λh₂ h1₂ hs2=>wpAny_pure ?_)
 have hTO2:IsPair h₂ TO a b:=hs2.extBut _ _ D.TOi1 (hs1.extBut _ _ D.TOz Nv)
 refine wpAny_bind (wpAny_seqItems hTO2 rfl ?_)
 refine wpAny_bind (wpAny_updateSeq_pair hTO2 λh₃ hTO3 hs3=>?_)
 replace hTO3:IsPair h₃ TO x b:=hTO3
 refine wpAny_bind (wpAny_letGo (wpAny_pure ?_))
 refine wpAny_bind (wpAny_bind (wpAny_onRaise ?_))
 show wpAny _ _ (Builtin.SmallTypes.nextOf (.ref i2) >>= _) _ _ _
 refine wpAny_bind (cZ (h2.at λo e=>hs3.extBut _ _ D.TOi2.symm (hs2.extBut _ _ D.i12.symm (hs1.extBut _ _ D.i2z e)))
  (N6.at λo e=>hs3.extBut _ _ D.l2TO (hs2.extBut _ _ D.l2i1 (hs1.extBut _ _ D.l2z e))) hy λh₄ h2₄ hs4=>wpAny_pure ?_)
 have hTO4:IsPair h₄ TO x b:=hs4.extBut _ _ D.TOi2 hTO3
 refine wpAny_bind (wpAny_seqItems hTO4 rfl ?_)
 refine wpAny_bind (wpAny_updateSeq_pair hTO4 λh₅ hTO5 hs5=>?_)
 replace hTO5:IsPair h₅ TO x y:=hTO5
 refine wpAny_bind (wpAny_letGo (wpAny_pure (wpAny_pure ?_)))
 refine wpAny_bind (wpAny_seqItems hTO5 rfl ?_)
 refine wpAny_bind (wpAny_newTuple ?_)
 have Oe:h₅.objs.size=s.heap.objs.size:=by rw[hs5.1,hs4.1,hs3.1,hs2.1,hs1.1]
 have hz5:IsZip h₅ z TI TO .ellipsis:=hs5.extBut _ _ D.TOz.symm (hs4.extBut _ _ D.i2z.symm (hs3.extBut _ _ D.TOz.symm (hs2.extBut _ _ D.i1z.symm hz1)))
 have hk5:∀ c o,c≠z->c≠TO->c≠i1->c≠i2->s.heap.get? c=some o->h₅.get? c=some o:=λc o c1 c2 c3 c4 e =>
  hs5.extBut _ _ c2 (hs4.extBut _ _ c4 (hs3.extBut _ _ c2 (hs2.extBut _ _ c3 (hs1.extBut _ _ c1 e))))
 have h1₅:eR h₅ b1 i1 l1 (k1+1):=h1₂.at λo e=>hs5.extBut _ _ D.TOi1.symm (hs4.extBut _ _ D.i12 (hs3.extBut _ _ D.TOi1.symm e))
 have h2₅:eR h₅ b2 i2 l2 (k2+1):=h2₄.at λo e=>hs5.extBut _ _ D.TOi2.symm e
 have Pc:z<h₅.objs.size:=Heap.lt_size hz5
 show wpAny _ _ (Builtin.SmallTypes.ownedTupleHandOut (.ref z) (.ref h₅.objs.size) >>= _) _ _ _
 refine wpAny_bind ?_
 unfold Builtin.SmallTypes.ownedTupleHandOut
 have hz6:IsZip (h₅.push { cls:=.type "tuple", data:=.seq #[x,y] }) z TI TO .ellipsis:=Heap.get?_push_of_some _ hz5
 refine wpAny_bind (wpAny_setField_rec hz6 (by simp) λh₇ hz7 hs7=>?_)
 replace hz7:IsZip h₇ z TI TO (rawInt h₅.objs.size):=hz7
 refine wpAny_setField_rec hz7 (by simp) λh₈ hz₈ hs8=>?_
 replace hz₈:IsZip h₈ z TI TO (rawInt h₅.objs.size):=hz₈
 have up:∀ c o,c≠z->h₅.get? c=some o->h₈.get? c=some o:=λc o c1 e=>hs8.extBut _ _ c1 (hs7.extBut _ _ c1 (Heap.get?_push_of_some _ e))
 have hT8:IsPair h₈ h₅.objs.size x y:=hs8.extBut _ _ (Nat.ne_of_gt Pc) (hs7.extBut _ _ (Nat.ne_of_gt Pc) (Heap.get?_push_size _ rfl))
 have hz8:h₈.objs.size=h₅.objs.size+1:=by rw[hs8.1,hs7.1,Heap.size_push]
 rw[Oe] at hz₈ hT8 hz8
 refine wpAny_pure ⟨_,rfl,?_⟩
 show Q (.ref h₅.objs.size) _
 rw[Oe]
 exact hQ h₈ hz₈ (up _ _ D.TOz hTO5) (h1₅.at λo e=>up _ o D.i1z e) (h2₅.at λo e=>up _ o D.i2z e) hT8 hz8 λc o c1 c2 c3 c4 e=>up c o c1 (hk5 c o c1 c2 c3 c4 e)
theorem Cg{b1 b2:Bool}{z TI TO i1 i2 l1 l2:Addr}{k1 k2:Nat}{xs ys:Array Value}{a b:Value}{Q:Fin->Shared->Prop}(hh:A.handled=none)(D:ZipApart z TI TO i1 i2 l1 l2)
  (hz:IsZip s.heap z TI TO .none) (Nr:IsPair s.heap TI (.ref i1) (.ref i2)) (Nv:IsPair s.heap TO a b)
  (h1:eR s.heap b1 i1 l1 k1) (h2:eR s.heap b2 i2 l2 k2) (N5:gk s.heap b1 l1 xs) (N6:gk s.heap b2 l2 ys) (Oc:xs[k1]?=none\/ys[k2]?=none)
  (hE:∀ h' e,(∀ c o,c≠z->c≠TO->c≠i1->c≠i2->s.heap.get? c=some o->h'.get? c=some o)->(∃ o,h'.get? e=some o/\o.cls=.type "StopIteration")->E (.ref e) { s with heap:=h' }) :
  wpAny (model prog w) A (Builtin.«zip.__next__» ⟨[.ref z],[]⟩) Q E s:=by
 show wpAny _ _ (field (.ref z) 2 >>= _) _ _ _
 refine wpAny_bind (wpAny_field hz rfl (x:=.bool false) rfl ?_)
 show wpAny _ _ (field (.ref z) 3 >>= _) _ _ _
 refine wpAny_bind (wpAny_field hz rfl (x:=.ref TI) rfl ?_)
 refine wpAny_bind (wpAny_seqItems Nr rfl ?_)
 show wpAny _ _ (Builtin.SmallTypes.ownedTupleIsFree (.ref z) >>= _) _ _ _
 refine wpAny_bind ?_
 unfold Builtin.SmallTypes.ownedTupleIsFree
 refine wpAny_bind (wpAny_field hz rfl (x:=.none) rfl (wpAny_pure ?_))
 simp only[if_true]
 refine wpAny_bind (wpAny_rule ?_)
 refine wpAny_bind (wpAny_field hz rfl (x:=.ref TO) rfl ?_)
 refine wpAny_bind (wpAny_setField_rec hz (by simp) λh₁ hz1 hs1=>?_)
 replace hz1:IsZip h₁ z TI TO .ellipsis:=hz1
 refine wpAny_bind ?_
 simp only[List.zipIdx_cons,List.zipIdx_nil,List.forIn_cons,List.forIn_nil]
 refine wpAny_bind (wpAny_bind (wpAny_onRaise ?_))
 show wpAny _ _ (Builtin.SmallTypes.nextOf (.ref i1) >>= _) _ _ _
 cases hx:xs[k1]? with
 | none =>
  refine wpAny_bind (hV hh (h1.at λo e=>hs1.extBut _ _ D.i1z e) (N5.at λo e=>hs1.extBut _ _ D.l1z e) hx λh₂ e hs2 he=>?_)
  obtain⟨oe,Oo,OM⟩:=he
  have hz2:IsZip h₂ z TI TO .ellipsis:=hs2 _ _ D.i1z.symm hz1
  have Pw:e≠z:=λx=>by subst x;rw[hz2] at Oo;cases Oo;simp at OM
  refine wpAny_setField_rec hz2 (by simp) λh₃ _ hs3=>hE h₃ e (λc o c1 _ c3 _ x=>hs3.extBut _ _ c1 (hs2 _ _ c3 (hs1.extBut _ _ c1 x))) ⟨oe,hs3.extBut _ _ Pw Oo,OM⟩
 | some x =>
  have hy:ys[k2]?=none:=by rcases Oc with h | h;rw[hx] at h;cases h;exact h
  refine wpAny_bind (cZ (h1.at λo e=>hs1.extBut _ _ D.i1z e) (N5.at λo e=>hs1.extBut _ _ D.l1z e) hx λh₂ h1₂ hs2=>wpAny_pure ?_)
  have hTO2:IsPair h₂ TO a b:=hs2.extBut _ _ D.TOi1 (hs1.extBut _ _ D.TOz Nv)
  refine wpAny_bind (wpAny_seqItems hTO2 rfl ?_)
  refine wpAny_bind (wpAny_updateSeq_pair hTO2 λh₃ hTO3 hs3=>?_)
  refine wpAny_bind (wpAny_letGo (wpAny_pure ?_))
  refine wpAny_bind (wpAny_bind (wpAny_onRaise ?_))
  show wpAny _ _ (Builtin.SmallTypes.nextOf (.ref i2) >>= _) _ _ _
  refine wpAny_bind (hV hh (h2.at λo e=>hs3.extBut _ _ D.TOi2.symm (hs2.extBut _ _ D.i12.symm (hs1.extBut _ _ D.i2z e)))
   (N6.at λo e=>hs3.extBut _ _ D.l2TO (hs2.extBut _ _ D.l2i1 (hs1.extBut _ _ D.l2z e))) hy λh₄ e hs4 he=>?_)
  obtain⟨oe,Oo,OM⟩:=he
  have hz4:IsZip h₄ z TI TO .ellipsis:=hs4 _ _ D.i2z.symm (hs3.extBut _ _ D.TOz.symm (hs2.extBut _ _ D.i1z.symm hz1))
  have Pw:e≠z:=λx=>by subst x;rw[hz4] at Oo;cases Oo;simp at OM
  refine wpAny_setField_rec hz4 (by simp) λh₅ _ hs5=>hE h₅ e (λc o c1 c2 c3 c4 x=>hs5.extBut _ _ c1 (hs4 _ _ c4 (hs3.extBut _ _ c2 (hs2.extBut _ _ c3 (hs1.extBut _ _ c1 x))))) ⟨oe,hs5.extBut _ _ Pw Oo,OM⟩
theorem uw{b:Bool}{l:Addr}{items:Array Value}{Q:Value->Shared->Prop}(hl:gk s.heap b l items)
  (h:∀ o,o=({ cls:=.type (if b then "list_iterator" else "tuple_iterator"),data:=.fields #[.ref l,.int 0 0] }:Obj)->Q (.ref s.heap.objs.size) { s with heap:=s.heap.push o }):wpAny (model prog w) A (pyIter (.ref l)) Q E s:=by
 cases b with
 | true=>exact wpAny_pyIter_list hl (h _ rfl)
 | false=>exact wpAny_pyIter_tuple hl (h _ rfl)
theorem l8{b1 b2:Bool}{z TI TO i1 i2 l1 l2:Addr}{k1 k2:Nat}{xs ys:Array Value}{x y a b:Value}{Q:Option Value->Shared->Prop}(D:ZipApart z TI TO i1 i2 l1 l2)
  (hz:IsZip s.heap z TI TO .none) (Nr:IsPair s.heap TI (.ref i1) (.ref i2)) (Nv:IsPair s.heap TO a b)
  (h1:eR s.heap b1 i1 l1 k1) (h2:eR s.heap b2 i2 l2 k2) (N5:gk s.heap b1 l1 xs) (N6:gk s.heap b2 l2 ys) (hx:xs[k1]?=some x) (hy:ys[k2]?=some y)
  (hQ:∀ h',IsZip h' z TI TO (rawInt s.heap.objs.size)->IsPair h' TO x y->eR h' b1 i1 l1 (k1+1)->eR h' b2 i2 l2 (k2+1)->IsPair h' s.heap.objs.size x y->h'.objs.size=s.heap.objs.size+1 ->
   (∀ c o,c≠z->c≠TO->c≠i1->c≠i2->s.heap.get? c=some o->h'.get? c=some o)->Q (some (.ref s.heap.objs.size)) { s with heap:=h' }) :
  wpAny (model prog w) A (pyNext (.ref z)) Q E s:=by
 have hT:s.TypeIs (.ref z) "zip" := ⟨_,hz,rfl⟩
 unfold pyNext
 exact wpAny_bind (wpAny_attempt (wpAny_callSpecial?_slot (name:=Str.ofString "__next__") hT F.slot_zip_next
  (wpAny_call_entry F.slot_zip_next hT F.entry_zip_next
   (yB D hz Nr Nv h1 h2 N5 N6 hx hy λh' a1 a2 a3 a4 a5 a6 a7=>wpAny_pure (hQ h' a1 a2 a3 a4 a5 a6 a7)) (F.args_zip_next_1 _))))
theorem nU{b1 b2:Bool}{z TI TO i1 i2 l1 l2:Addr}{k1 k2:Nat}{xs ys:Array Value}{a b:Value}{Q:Option Value->Shared->Prop}(hh:A.handled=none)(D:ZipApart z TI TO i1 i2 l1 l2)
  (hz:IsZip s.heap z TI TO .none) (Nr:IsPair s.heap TI (.ref i1) (.ref i2)) (Nv:IsPair s.heap TO a b)
  (h1:eR s.heap b1 i1 l1 k1) (h2:eR s.heap b2 i2 l2 k2) (N5:gk s.heap b1 l1 xs) (N6:gk s.heap b2 l2 ys) (Oc:xs[k1]?=none\/ys[k2]?=none)
  (hQ:∀ h',(∀ c o,c≠z->c≠TO->c≠i1->c≠i2->s.heap.get? c=some o->h'.get? c=some o)->Q none { s with heap:=h' }):wpAny (model prog w) A (pyNext (.ref z)) Q E s:=by
 have hT:s.TypeIs (.ref z) "zip" := ⟨_,hz,rfl⟩
 unfold pyNext
 refine wpAny_bind (wpAny_attempt (wpAny_callSpecial?_slot (name:=Str.ofString "__next__") hT F.slot_zip_next
  (wpAny_call_entry F.slot_zip_next hT F.entry_zip_next (Cg hh D hz Nr Nv h1 h2 N5 N6 Oc λh' e hk he=>?_) (F.args_zip_next_1 _))))
 obtain⟨o,ho,hc⟩:=he
 refine wpAny_bind (wpAny_isInstance (T := "StopIteration") (b:=true) ⟨o,ho,hc⟩ isSubtype_stop ?_)
 exact wpAny_pure (hQ _ hk)
abbrev Ep(b:Bool)(l:Addr):Obj:={ cls:=.type (if b then "list_iterator" else "tuple_iterator"),data:=.fields #[.ref l,.int 0 0] }
abbrev Hq(h:Heap)(b1:Bool)(l1:Addr):Heap:=h.push (Ep b1 l1)
abbrev Fm(h:Heap)(b1 b2:Bool)(l1 l2:Addr):Heap:=(Hq h b1 l1).push (Ep b2 l2)
abbrev Kg(h:Heap)(b1 b2:Bool)(l1 l2:Addr):Heap:=(Fm h b1 b2 l1 l2).push { cls:=.type "tuple", data:=.seq #[.ref h.objs.size,.ref (Hq h b1 l1).objs.size] }
abbrev Kd(h:Heap)(b1 b2:Bool)(l1 l2:Addr):Heap:=(Kg h b1 b2 l1 l2).push { cls:=.type "tuple", data:=.seq #[.none,.none] }
abbrev GV(h:Heap)(b1 b2:Bool)(l1 l2:Addr):Heap:=(Kd h b1 b2 l1 l2).push { cls:=.type "zip", data:=.fields #[.none,.bool false,.bool false,.ref (Fm h b1 b2 l1 l2).objs.size,.ref (Kg h b1 b2 l1 l2).objs.size] }
end
theorem gb{prog:Program}{w:World}{A:Around}{E:Value->Shared->Prop}{s:Shared}{b:Bool}{l:Addr}{items:Array Value}{Q:Value->Shared->Prop}(hl:gk s.heap b l items)
  (h:Q (.ref s.heap.objs.size) { s with heap:=s.heap.push (Ep b l) }):wpAny (model prog w) A (pyIter (.ref l)) Q E s:=uw hl λo e=>by subst e;exact h
theorem gk.push{h:Heap}{b:Bool}{l:Addr}{xs:Array Value}(x:gk h b l xs)(o:Obj):gk (h.push o) b l xs:=x.at λ_ e=>Heap.get?_push_of_some _ e
theorem pC(b1 b2:Bool)(l1 l2:Addr)(xs ys:Array Value) :
  Meets (Builtin.«zip.__new__» ⟨[.type "zip", .ref l1,.ref l2],[]⟩) (λ_ R s=>gk s.heap b1 l1 xs/\gk s.heap b2 l2 ys ∧
   R (.ok (.ret (.ref (Kd s.heap b1 b2 l1 l2).objs.size))) { s with heap:=GV s.heap b1 b2 l1 l2 }) :=
 .of_wp λprog w A R s h=>by
  obtain⟨hp,g,d,tk,os⟩:=s;obtain⟨N5,N6,h⟩:=h
  have Qr:=sub_zip
  have hL1:gk (Shared.heap ⟨hp,g,d,tk,os⟩) b1 l1 xs:=N5
  have hL2:gk (Shared.heap ⟨hp.push (Ep b1 l1),g,d,tk,os⟩) b2 l2 ys:=gk.push N6 _
  wp_walk using gb hL1,gb hL2
  exact⟨_,rfl,h⟩
section
variable{prog:Program}{w:World}{A:Around}{E:Value->Shared->Prop}{s:Shared}
theorem eR.new(h:Heap)(b:Bool)(it l:Addr)(e:h.get? it=some (Ep b l)):eR h b it l 0:=by
 cases b with
 | true=>exact⟨_,e,rfl,rfl⟩
 | false=>exact⟨_,e,rfl,rfl⟩
theorem zT{b1 b2:Bool}{l1 l2:Addr}{xs ys:Array Value}{Q:Value->Shared->Prop}(N5:gk s.heap b1 l1 xs)(N6:gk s.heap b2 l2 ys)
  (h:∀ h',IsZip h' (s.heap.objs.size+4) (s.heap.objs.size+2) (s.heap.objs.size+3) .none->IsPair h' (s.heap.objs.size+2) (.ref s.heap.objs.size) (.ref (s.heap.objs.size+1)) ->
   IsPair h' (s.heap.objs.size+3) .none .none->eR h' b1 s.heap.objs.size l1 0->eR h' b2 (s.heap.objs.size+1) l2 0->h'.objs.size=s.heap.objs.size+5 ->
   (∀ c o,s.heap.get? c=some o->h'.get? c=some o)->Q (.ref (s.heap.objs.size+4)) { s with heap:=h' }) :
  wpAny (model prog w) A (call (.type "zip") [.ref l1,.ref l2]) Q E s:=by
 refine callType_new F.called_zip (by decide) (F.typeCall_zip_2 _ _) (F.newCall_zip_2 _ _) (λobj=>F.args_object_init_3 obj _ _) F.entry_zip_new
  (pC b1 b2 l1 l2 xs ys) ⟨N5,N6,?_⟩
 have z1:(Hq s.heap b1 l1).objs.size=s.heap.objs.size+1:=Heap.size_push ..
 have z2:(Fm s.heap b1 b2 l1 l2).objs.size=s.heap.objs.size+2:=by rw[Heap.size_push,z1]
 have z3:(Kg s.heap b1 b2 l1 l2).objs.size=s.heap.objs.size+3:=by rw[Heap.size_push,z2]
 have z4:(Kd s.heap b1 b2 l1 l2).objs.size=s.heap.objs.size+4:=by rw[Heap.size_push,z3]
 have z5:(GV s.heap b1 b2 l1 l2).objs.size=s.heap.objs.size+5:=by rw[Heap.size_push,z4]
 have g5:(GV s.heap b1 b2 l1 l2).get? (Kd s.heap b1 b2 l1 l2).objs.size=some _:=Heap.get?_push_size _ rfl
 have g4:(GV s.heap b1 b2 l1 l2).get? (Kg s.heap b1 b2 l1 l2).objs.size=some _:=Heap.get?_push_of_some _ (Heap.get?_push_size _ rfl)
 have g3:(GV s.heap b1 b2 l1 l2).get? (Fm s.heap b1 b2 l1 l2).objs.size=some _:=Heap.get?_push_of_some _ (Heap.get?_push_of_some _ (Heap.get?_push_size _ rfl))
 have g2:(GV s.heap b1 b2 l1 l2).get? (Hq s.heap b1 l1).objs.size=some _:=Heap.get?_push_of_some _ (Heap.get?_push_of_some _ (Heap.get?_push_of_some _ (Heap.get?_push_size _ rfl)))
 have g1:(GV s.heap b1 b2 l1 l2).get? s.heap.objs.size=some _:=Heap.get?_push_of_some _ (Heap.get?_push_of_some _ (Heap.get?_push_of_some _ (Heap.get?_push_of_some _ (Heap.get?_push_size _ rfl))))
 show _/\_
 rw[z2,z3,z4] at g5
 rw[z1,z2] at g3
 rw[z3] at g4
 rw[z1] at g2
 rw[z4]
 exact⟨⟨_,g5,rfl⟩,h _ g5 g3 g4 (eR.new _ b1 _ _ g1) (eR.new _ b2 _ _ g2) z5 λc o x =>
  Heap.get?_push_of_some _ (Heap.get?_push_of_some _ (Heap.get?_push_of_some _ (Heap.get?_push_of_some _ (Heap.get?_push_of_some _ x))))⟩
end
def kI(K:PySem.W.Frag)(H:Hp)(b:Bool)(a:Addr)(xs:List V):Prop:=match b with
 | true=>ir K H a xs
 | false=>h_ K H a xs
section
variable{X:Cx}
theorem Inv.row{MG:List (Addr×Obj)}{σ:St}{H:Hp}{s:Shared}{b:Bool}{a:Addr}{xs:List V}(I:Inv X MG σ H s)(h:kI X.K H b a xs):∃ MJ:List Value,Vals xs MJ/\gk s.heap b a MJ.toArray/\xs.length<=sizeLine:=by
 cases b with
 | true =>
  obtain⟨MJ,r,p,z⟩:=I.list h
  exact⟨MJ,r,p.isList,z⟩
 | false =>
  obtain⟨MJ,r,p,z⟩:=I.tuple h
  exact⟨MJ,r,p,z⟩
theorem Inv.lO{MG:List (Addr×Obj)}{σ:St}{H:Hp}{s:Shared}{b:Bool}{a:Addr}{xs ys:List V}(I:Inv X MG σ H s)(h:kI X.K H b a xs)(h':kI X.K H b a ys):xs=ys:=by
 cases b with
 | true=>exact I.pV h h'
 | false=>exact I.mx h h'
theorem Inv.xr{MG:List (Addr×Obj)}{σ:St}{H:Hp}{s:Shared}{h':Heap}{t':Nat}{ch:List Addr}(I:Inv X MG σ H s)(k:∀ b u,b ∉ ch->s.heap.get? b=some u->h'.get? b=some u)
  (Ow:∀ b∈ch,lF X MG H b):Inv X MG σ H { s with heap:=h',toks:=t' }:=by
 have Ph:∀ b u,H b=some u->b ∉ ch:=λb u e z=>by rw[(Ow b z).1] at e;cases e
 refine I.step (g':=s.gens) (d':=s.drawn) (ch:=ch) (λb hb=>?_) (λb u _ _ hc e _=>k b u hc e) (λb u _ _ hc e _=>⟨u.slots,k b u hc e⟩)
  (λb u _ e n=>n) (λb u hc e=>⟨u,k b u hc e⟩) (λb xs e=>e) (λb ob u e=>e) (λb ps e=>⟨#[],by rw[e];simp⟩) (λm hm=>?_) (λb u e=>?_) I.bare
 ·obtain⟨_,f1,_,f3,f4,f5⟩:=Ow b hb
  exact⟨f3,f1,f4,f5⟩
 ·obtain⟨ob,es,ep,ho,r⟩:=hm
  exact⟨ob,es,ep,k _ ob (λz=>(Ow _ z).2.1 rfl) ho,r⟩
 ·refine(I.bM b u e).nO (λc v hc q=>k c v ?_ q) (λc q=>q) λc ys q=>q
  rcases hc with z' | z'
  ·rw[z'];exact Ph b u e
  ·exact Ph c _ z'
theorem cN{MG:List (Addr×Obj)}{σ:St}{H:Hp}{s:Shared}{b:Bool}{a c:Addr}{xs:List V}(I:Inv X MG σ H s)(h:kI X.K H b a xs)(f:lF X MG H c):a≠c:=by
 have rd:∀ {u:HO},Rd H a u->a≠c:=λ{u} r=>by
  rcases r with r | ⟨o,r⟩
  ·exact bW r f.1
  ·exact bW r f.1
 have mk:∀ {o:Obj},X.K.lookup a=some o->a≠c:=λ{o} e z=>by
  subst z
  have e':=I.ok.mod.E5 _ _ e
  rcases f.2.2.2.1 with q | q
  ·exact I.ok.zE _ _ e' q
  ·exact absurd (Nat.lt_of_lt_of_le (Heap.lt_size (I.ok.bs _ _ e').1) q) (Nat.lt_irrefl _)
 cases b with
 | true =>
  rcases(show ir X.K H a xs from h) with r | ⟨o,MJ,n,e,_⟩
  ·exact rd r
  ·exact mk e
 | false =>
  rcases(show h_ X.K H a xs from h) with r | ⟨o,MJ,n,e,_⟩
  ·exact rd r
  ·exact mk e
def LQ (K : PySem.W.Frag) (b1 b2 : Bool) (a1 a2 : Addr) : It :=
  ⟨λi H => ∃ xs ys x y, kI K H b1 a1 xs /\ kI K H b2 a2 ys /\ xs[i]? = some x /\ ys[i]? = some y,
   λi H v H' => ∃ p x y, H p = none /\ v = .ref p /\ H' = upd H p (.tup [x, y]) /\ (∀ xs, kI K H b1 a1 xs -> xs[i]? = some x) /\ (∀ ys, kI K H b2 a2 ys -> ys[i]? = some y),
   λi H => ∃ xs ys, kI K H b1 a1 xs /\ kI K H b2 a2 ys /\ (xs.length <= i \/ ys.length <= i)⟩
theorem Cv{P:Program}{w:World}{K:PySem.W.Frag}{elts:List Expr}{x1:Nat}{tp:Pos}(b1 b2:Bool)(a1 a2 z TI TO i1 i2:Addr)(D:TI≠z/\TO≠z/\i1≠z/\i2≠z/\TI≠TO/\TI≠i1/\TI≠i2/\TO≠i1/\TO≠i2/\i1≠i2) :
  Turn P w K (.Tuple elts x1 tp) (LQ K b1 b2 a1 a2) [z,TO,i1,i2,TI] z (λi h=>IsZip h z TI TO .none/\IsPair h TI (.ref i1) (.ref i2)/\(∃ a b,IsPair h TO a b)/\eR h b1 i1 a1 i/\eR h b2 i2 a2 i) where
 mem:=by simp
 obj:=λi h st b hb=>by
  obtain⟨hz,Nr,⟨a,c,Nv⟩,h1,h2⟩:=st
  simp only[List.mem_cons,List.mem_nil_iff,or_false] at hb
  rcases hb with q | q | q | q | q <;> subst q
  ·exact⟨_,hz,λv z=>by cases z⟩
  ·exact⟨_,Nv,λv z=>by cases z⟩
  ·obtain⟨o,vs,e,d⟩:=h1.obj
   exact⟨o,e,λv z=>by rw[d] at z;cases z⟩
  ·obtain⟨o,vs,e,d⟩:=h2.obj
   exact⟨o,e,λv z=>by rw[d] at z;cases z⟩
  ·exact⟨_,Nr,λv z=>by cases z⟩
 keep:=λi h h' st k=>by
  obtain⟨hz,Nr,⟨a,c,Nv⟩,h1,h2⟩:=st
  exact⟨k z (by simp) _ hz,k TI (by simp) _ Nr,⟨a,c,k TO (by simp) _ Nv⟩,h1.at λo e=>k i1 (by simp) o e,h2.at λo e=>k i2 (by simp) o e⟩
 item:=by
  intro X hP hw hK hc i MG s σ H E I hf st hg
  subst hP hw hK
  obtain⟨xs,ys,x,y,Nt,Nk,hx,hy⟩:=hg
  obtain⟨Pd,Pz,p1,Qu⟩:=I.row Nt
  obtain⟨Oq,PB,p2,Qw⟩:=I.row Nk
  obtain⟨u1,hu1,ru1⟩:=Pz.get hx
  obtain⟨u2,hu2,ru2⟩:=PB.get hy
  obtain⟨hz,Nr,⟨a,c,Nv⟩,h1,h2⟩:=st
  obtain⟨d1,d2,d3,d4,d5,d6,d7,d8,d9,d10⟩:=D
  obtain⟨o1,n1,e1,dd1⟩:=p1.obj
  obtain⟨o2,n2,e2,Qc⟩:=p2.obj
  obtain⟨oi1,vs1,Qe,di1⟩:=h1.obj
  obtain⟨oi2,vs2,Qf,di2⟩:=h2.obj
  have D:ZipApart z TI TO i1 i2 a1 a2:=⟨d1,d2,d3,d4,d5,d6,d7,d8,d9,d10,cN I Nt (hf z (by simp)),cN I Nt (hf TO (by simp)),cN I Nt (hf i1 (by simp)),cN I Nt (hf i2 (by simp)),
   cN I Nk (hf z (by simp)),cN I Nk (hf TO (by simp)),cN I Nk (hf i1 (by simp)),cN I Nk (hf i2 (by simp))⟩
  refine l8 D hz Nr Nv h1 h2 p1 p2 (x:=u1) (y:=u2) (by simpa using hu1) (by simpa using hu2) λh' g1 g2 g3 g4 g5 g6 g7=>⟨_,rfl,?_⟩
  refine wpAny_letOwnedTupleGo_zip (s:={ s with heap:=h' }) g1 λh3 hz3 OP=>?_
  have N7:H s.heap.objs.size=none:=I.bM.fresh (Nat.le_refl _)
  have lt:∀ {c:Addr} {o:Obj},s.heap.get? c=some o->c≠s.heap.objs.size:=λe=>Nat.ne_of_lt (Heap.lt_size e)
  have Pf:∀ b o,b ∉ [z,TO,i1,i2,TI]->s.heap.get? b=some o->h3.get? b=some o:=λb o hb q=>by
   simp only[List.mem_cons,List.mem_nil_iff,or_false,not_or] at hb
   exact(OP.2 b hb.1).trans (g7 b o hb.1 hb.2.1 hb.2.2.1 hb.2.2.2.1 q)
  have hT3:h3.get? s.heap.objs.size=some { cls:=.type "tuple", data:=.seq #[u1,u2] }:=(OP.2 _ (lt hz).symm).trans g5
  have I3:Inv X MG σ (upd H s.heap.objs.size (.tup [x,y])) { s with heap:=h3,toks:=s.toks } :=
   I.kf (ch:=[z,TO,i1,i2,TI]) Pf hf (Nat.le_refl _) (λb hb=>by
    simp only[List.mem_cons,List.mem_nil_iff,or_false] at hb
    rcases hb with q | q | q | q | q <;> subst q
    ·exact⟨_,hz⟩
    ·exact⟨_,Nv⟩
    ·exact⟨_,Qe⟩
    ·exact⟨_,Qf⟩
    ·exact⟨_,Nr⟩)
    ⟨by show 2<=sizeLine;decide,[u1,u2],.cons ru1 (.cons ru2 .nil),⟨_,hT3,rfl,_,rfl⟩⟩
  refine⟨.ref s.heap.objs.size,_,I3,rfl,⟨_,x,y,N7,rfl,rfl,λzs Py=>by rw[I.lO Py Nt];exact hx,λzs Py=>by rw[I.lO Py Nk];exact hy⟩,
   ⟨hz3,(OP.2 TI d1).trans (g7 TI _ d1 d5 d6 d7 Nr),⟨_,_,(OP.2 TO d2).trans g2⟩,g3.at λo e=>(OP.2 i1 d3).trans e,g4.at λo e=>(OP.2 i2 d4).trans e⟩,λb hb=>?_⟩
  have nb:b≠s.heap.objs.size:=by
   simp only[List.mem_cons,List.mem_nil_iff,or_false] at hb
   rcases hb with q | q | q | q | q <;> subst q
   ·exact lt hz
   ·exact lt Nv
   ·exact lt Qe
   ·exact lt Qf
   ·exact lt Nr
  rw[aw nb]
  exact(hf b hb).1
 done:=by
  intro X hP hw hK hc i MG s σ H E I hf st hg
  subst hP hw hK
  obtain⟨xs,ys,Nt,Nk,Oc⟩:=hg
  obtain⟨Pd,Pz,p1,Qu⟩:=I.row Nt
  obtain⟨Oq,PB,p2,Qw⟩:=I.row Nk
  obtain⟨hz,Nr,⟨a,c,Nv⟩,h1,h2⟩:=st
  obtain⟨d1,d2,d3,d4,d5,d6,d7,d8,d9,d10⟩:=D
  have D:ZipApart z TI TO i1 i2 a1 a2:=⟨d1,d2,d3,d4,d5,d6,d7,d8,d9,d10,cN I Nt (hf z (by simp)),cN I Nt (hf TO (by simp)),cN I Nt (hf i1 (by simp)),cN I Nt (hf i2 (by simp)),
   cN I Nk (hf z (by simp)),cN I Nk (hf TO (by simp)),cN I Nk (hf i1 (by simp)),cN I Nk (hf i2 (by simp))⟩
  have l1:=Pz.length
  have l2:=PB.length
  refine nU (I.ok.hd hc) D hz Nr Nv h1 h2 p1 p2 ?_ λh' k=>⟨rfl,?_⟩
  ·rcases Oc with q | q
   ·exact .inl (by simp;omega)
   ·exact .inr (by simp;omega)
  ·exact I.xr (t':=s.toks) (ch:=[z,TO,i1,i2,TI]) (λb u hb e=>by
    simp only[List.mem_cons,List.mem_nil_iff,or_false,not_or] at hb
    exact k b u hb.1 hb.2.1 hb.2.2.1 hb.2.2.2.1 e) hf
 self:=λ_ _ _ _ _ st h=>by
  obtain⟨hz,_⟩:=st
  exact wpAny_pyIter_zip hz h
theorem FW(n:Nat):n+2≠n+4/\n+3≠n+4/\n≠n+4/\n+1≠n+4/\n+2≠n+3/\n+2≠n/\n+2≠n+1/\n+3≠n/\n+3≠n+1/\n≠n+1:=by
 refine⟨?_,?_,?_,?_,?_,?_,?_,?_,?_,?_⟩ <;> omega
def Jm(K:PySem.W.Frag)(tl:TA):TI:=fun σ H R=>tl σ H λvs H1=>∃ b1 b2 a1 a2,vs=[.ref a1,.ref a2]/\(∃ xs,kI K H1 b1 a1 xs)/\(∃ ys,kI K H1 b2 a2 ys)/\R (LQ K b1 b2 a1 a2) H1
theorem iS{elts:List Expr}{x1:Nat}{tp:Pos}{l1 l2:Expr}{tl:TA}{p pos:Pos}(hg:Gl X "zip")(hm:X.mg "zip" = none)(hl:PA X [l1,l2] tl)(hs:autoParam (starEach [l1,l2] X.env=[(false,eval l1 X.env),(false,eval l2 X.env)]) aR._auto_1)(N8:autoParam (starEach [l2] X.env=[(false,eval l2 X.env)]) aR._auto_1) :
  PI X (.Tuple elts x1 tp) (.Call (.Name "zip" p) [l1,l2] [] pos) (Jm X.K tl):=by
 intro MG s σ H R I h
 refine Call_ (jH I hg hm PyProof.Rows.boot_zip (PyProof.Rows.callWith_type1 (c6 (hl pos MG s σ H _ I h) λus s1 ⟨vs,H1,I1,r1,q1⟩=>?_) (by rw[hs,N8]) (by rw[N8];rfl)))
 obtain⟨b1,b2,a1,a2,e,⟨xs,Nt⟩,⟨ys,Nk⟩,q⟩:=q1
 subst e
 cases r1 with
 | cons r rr =>
  cases rr with
  | cons r' rr =>
   cases rr
   cases (show _=Value.ref a1 from r)
   cases (show _=Value.ref a2 from r')
   obtain⟨Pd,Pz,p1,Qu⟩:=I1.row Nt
   obtain⟨Oq,PB,p2,Qw⟩:=I1.row Nk
   refine zT p1 p2 λh' g1 g2 g3 g4 g5 g6 g7=>?_
   have I2:Inv X MG σ H1 { s1 with heap:=h' }:=I1.kept (t':=s1.toks) g7
   refine wpAny_pyIter_zip (s:={ s1 with heap:=h' }) g1 ?_
   refine⟨s1.heap.objs.size+4,[s1.heap.objs.size+4,s1.heap.objs.size+3,s1.heap.objs.size,s1.heap.objs.size+1,s1.heap.objs.size+2],_,_,H1,rfl,I2,
    Cv b1 b2 a1 a2 _ _ _ _ _ (FW s1.heap.objs.size),⟨g1,g2,⟨_,_,g3⟩,g4,g5⟩,λb hb=>?_,q⟩
   have hle:s1.heap.objs.size<=b:=by
    simp only[List.mem_cons,List.mem_nil_iff,or_false] at hb
    rcases hb with q | q | q | q | q
    ·rw[q];exact Nat.le_add_right _ 4
    ·rw[q];exact Nat.le_add_right _ 3
    ·rw[q];exact Nat.le_refl _
    ·rw[q];exact Nat.le_add_right _ 1
    ·rw[q];exact Nat.le_add_right _ 2
   exact I1.t6 hle (I1.bM.fresh hle)
end
end L2
namespace L2
open PySem PySem.Spec PyProof.Rows
def Ks(K:PySem.W.Frag)(b:Bool)(a:Addr):It:=match b with
 | true=>Ma K a
 | false=>L4 K a
section
variable{X:Cx}{tg:Expr}
def IU(K:PySem.W.Frag)(tl:TE):TI:=fun σ H R=>tl σ H λx H1=>∃ b a,x=.ref a/\(∃ xs,kI K H1 b a xs)/\R (Ks K b a) H1
theorem dc{l:Expr}{tl:TE}(hl:PE X l tl):PI X tg l (IU X.K tl):=by
 intro MG s σ H R I h
 refine c6 (hl MG s σ H _ I h) λv s1 ⟨x,H1,I1,r1,q1⟩=>?_
 obtain⟨b,a,e,⟨xs,hq⟩,q⟩:=q1
 subst e
 cases r1
 cases b with
 | true =>
  obtain⟨MJ,rv,p,hz⟩:=I1.list hq
  refine wpAny_pyIter_list p.isList ?_
  refine⟨s1.heap.objs.size,[s1.heap.objs.size],_,_,H1,rfl,I1.kept (t':=s1.toks) λb o e=>Heap.get?_push_of_some _ e,yk a _,⟨_,Heap.get?_push_size _ rfl,rfl,rfl⟩,λb hb=>?_,q⟩
  have e:b=s1.heap.objs.size:=by simpa using hb
  subst e
  exact I1.t6 (Nat.le_refl _) (I1.bM.fresh (Nat.le_refl _))
 | false =>
  obtain⟨MJ,rv,p,hz⟩:=I1.tuple hq
  refine wpAny_pyIter_tuple (show s1.heap.IsTuple a MJ.toArray from p) ?_
  refine⟨s1.heap.objs.size,[s1.heap.objs.size],_,_,H1,rfl,I1.kept (t':=s1.toks) λb o e=>Heap.get?_push_of_some _ e,v9 a _,⟨_,Heap.get?_push_size _ rfl,rfl,rfl⟩,λb hb=>?_,q⟩
  have e:b=s1.heap.objs.size:=by simpa using hb
  subst e
  exact I1.t6 (Nat.le_refl _) (I1.bM.fresh (Nat.le_refl _))
end
section
end
section
variable{X:Cx}
theorem yJ(hc:X.calm=true):dQ X (.builtin "sum") (λxs H Q=>∃ (a:Addr) (ns:List Int),xs=[.ref a]/\ir X.K H a (ns.map V.int)/\Q (.int ns.sum) H):=by
 intro MG s σ H xs us Q I r h
 obtain⟨a,ns,rfl,hq,q⟩:=h
 cases r with
 | cons r1 r2 =>
  cases r2
  cases (show _=Value.ref a from r1)
  obtain⟨MJ,rv,p,hz⟩:=I.list hq
  have hi:=intsAre_of rv
  obtain⟨xs',e⟩:=hi.allInts.items
  have e3:numsOf (intItems xs').toList=ns:=by rw[← e];exact hi.numsOf
  rw[nums_intItems] at e3
  refine sum_intListG (I.ok.hd hc) (by rw[← e];exact p.isList) λh' tk t' hk=>⟨.int ns.sum,H,I.kept (t':=tk) hk,⟨t',?_⟩,q⟩
  rw[preSum_eq,List.take_of_length_le (by simp),e3]
end
end L2
namespace L2
open PySem PySem.Spec PyProof.Rows
structure jI (K:PySem.W.Frag) (C:Addr):Prop where
 ga:PySem.W.findIn K (.ref C) "__getattribute__" = some (some (.builtin "BaseException.__getattribute__"))
 gn:PySem.W.findIn K (.ref C) "__getattr__" = some none
 hd:PySem.W.hasDictIn K C=true
 sa:PySem.W.findIn K (.ref C) "__setattr__" = some (some (.builtin "object.__setattr__"))
 mb:PySem.W.mroIn K C (.type "BaseException")=some true
 mo:PySem.W.mroIn K C (.type "object")=some true
 ca:PySem.W.findIn K (.ref C) "__class__" = some (some (.builtin "object.__class__"))
 cg:PySem.W.specialIn K (.builtin "object.__class__") "__get__" = some (some (.builtin "getset_descriptor.__get__"))
 ct:PySem.W.takesIn K (.builtin "object.__class__")=some true
section
variable{prog:Program}{w:World}{A:Around}{E:Value->Shared->Prop}{s:Shared}{K:PySem.W.Frag}{x C:Addr}{ox:Obj}{od:Option Obj}{name:Str}
theorem An:builtinKind "BaseException.__getattribute__" = some .slot:=by decide +kernel
theorem zw:splitId "BaseException.__getattribute__" = some ("BaseException", "__getattribute__"):=by decide +kernel
theorem Gg{tk:Tok}{fill expr:Bool}{Q:Value->Shared->Prop}(c:jI K C)(X:K.In s.heap)(I:PySem.W.InstAt s.heap x ox C od)
  (h:wpAny (model prog w) A.in1 (Builtin.«object.__getattribute__» ⟨[.ref x,.str name tk],[]⟩)
   (λfin s'=>match fin with | .done (.ret v)=>wpAny (model prog w) A (handedOut v) Q E s' | _=>False) (λ_ _=>False) s) :
  wpAny (model prog w) A (getAttrBy (.ref x) (.str name tk) fill expr) Q E s:=by
 have Qt:(Value.builtin "BaseException.__getattribute__" == Value.builtin "object.__getattribute__")=false:=by decide +kernel
 have Qa:(onTheHeap (Value.ref C)&&Value.builtin "BaseException.__getattribute__" == Value.builtin "object.__getattribute__")=false:=by rw[Qt];rfl
 have hx0:(expr&&onTheHeap (Value.builtin "BaseException.__getattribute__"))=false:=by cases expr <;> rfl
 have sub:PySem.W.Looks (model prog w) s.heap (isInstance (.ref x) (.type "BaseException")) true:=I.type.andThen (PySem.W.looks_mroIn X c.mb)
 unfold getAttrBy
 refine wpAny_holding (wpAny_bind (I.type.here (wpAny_bind ((PySem.W.looks_findIn X c.ga).here ?_))))
 dsimp only
 rw[Qa,if_neg Bool.false_ne_true]
 unfold getAttrByItsOwn hookBefore
 refine wpAny_bind ?_
 show wpAny _ _ (typeLookup (.ref C) "__getattr__") _ _ _
 refine(PySem.W.looks_findIn X c.gn).here ?_
 refine wpAny_bind (wpAny_attempt (wpAny_holding ?_))
 unfold callGetattribute
 rw[hx0,if_neg Bool.false_ne_true]
 unfold boundAndCalled
 refine wpAny_bind (wpAny_of_eq (PySem.F.attr_ValueError.ga.bind _) ?_)
 refine wpAny_call (codeAny_call_builtin PySem.F.attr_ValueError.ga.plain PySem.F.entry_bexc_ga (@PySem.W.check_slot (model prog w) _ _ s "BaseException.__getattribute__" "BaseException" "__getattribute__" (.ref x) [.str name tk] [] _ An zw sub (PySem.F.args_bexc_ga _ _) ?_))
 refine wpAny_mono h (λfin s' z=>?_) (λ_ _ z=>z.elim)
 rcases fin with (v | _ | _ | _) | _ <;> first | exact z | exact z.elim
end
end L2
namespace L2
open PySem PySem.Spec PyProof.Rows
open PySem.Builtin.ObjectAttr (storeInOwnDict storeTaker? setByDescriptor)
abbrev fy:List Value:=[.type "ValueError", .type "Exception", .type "BaseException", .type "object"]
def gB:List Value->Bool
 | .ref _::r=>gB r
 | l=>l==fy
theorem qq(self:Value):refuseLoop self "__setattr__" fy=pure ():=by kernel_rfl
theorem nr(self:Value):∀ {l:List Value},gB l=true->refuseLoop self "__setattr__" l=pure ()
 | .ref c::r,e=>by rw[PySem.refuseLoop_ref];exact nr self e
 | [],e=>by cases (show false=true from e)
 | .type n::r,e=>by rw[show Value.type n::r=fy from beq_iff_eq.mp e];exact qq self
 | .none::r,e=>by rw[show Value.none::r=fy from beq_iff_eq.mp e];exact qq self
section
variable{prog:Program}{w:World}{A:Around}{E:Value->Shared->Prop}{s:Shared}{K:PySem.W.Frag}{x C:Addr}{ox:Obj}{od:Option Obj}{name:Str}
theorem qR{a g:Value}(hc:(PySem.W.clsIn K C).isSome=true)(ha:PySem.W.findIn K (.ref C) name=some (some a))(hg:PySem.W.specialIn K a "__get__" = some (some g))(ht:PySem.W.takesIn K a=some true):PySem.W.findObj K C od name=some (.bind g a):=by
 obtain⟨cd,hc⟩:=Option.isSome_iff_exists.mp hc
 unfold PySem.W.findObj
 rw[hc,Option.bind_some,ha,Option.bind_some]
 simp[hg,ht]
theorem zG{Q:Option Value->Shared->Prop}(c:jI K C)(X:K.In s.heap)(I:PySem.W.InstAt s.heap x ox C od)(h:Q (some (.ref C)) { s with toks:=s.toks+1 }):wpAny (model prog w) A (getAttr? (.ref x) "__class__") Q E s:=by
 have hc:(PySem.W.clsIn K C).isSome=true:=by obtain⟨cd,hc,_⟩:=PySem.W.any_some c.hd;rw[hc];rfl
 have hf:PySem.W.findObj K C od "__class__" = some (.bind (.builtin "getset_descriptor.__get__") (.builtin "object.__class__")):=qR hc c.ca c.cg c.ct
 unfold getAttr? getAttrBy?
 refine wpAny_bind (wpAny_mkText (wpAny_bind (wpAny_attempt ?_)))
 refine Gg (s:={ s with toks:=s.toks+1 }) c X I ?_
 unfold Builtin.«object.__getattribute__»
 refine wpAny_bind (wpAny_pure ?_)
 dsimp only
 refine wpAny_bind (wpAny_pure ?_)
 refine wpAny_bind (I.type.here (s:={ s with toks:=s.toks+1 }) (wpAny_bind ((PySem.W.looks_find X I hf).here (s:={ s with toks:=s.toks+1 }) ?_)))
 show wpAny _ _ (holding [.builtin "object.__class__"] (call (.builtin "getset_descriptor.__get__") [.builtin "object.__class__", .ref x,.ref C]) >>= ret) _ _ _
 refine wpAny_bind (wpAny_holding (wpAny_call (PySem.W.class_get (s:={ s with toks:=s.toks+1 }) (ox:=ox) (od:=od) X I c.mo ?_)))
 refine wpAny_pure ?_
 exact PySem.W.handed_on rfl (wpAny_pure h)
theorem uD(c:jI K C):PySem.W.KitX K (.ref x) (.ref C) (λh=>PySem.W.InstAt h x ox C od) where
 ty:=λ_ _ _ I=>I.type
 it:=λ_ _ X _=>by
  obtain⟨cdD,O4,_⟩:=PySem.W.any_some c.hd
  unfold PySem.W.clsIn at O4
  split at O4
  ·rename_i c' d' cd' sl' ho
   intro A' Q' E' s' k q
   unfold isType loadHead
   exact wpAny_bind (wpAny_loadPart (k _ _ (X _ _ ho)) (wpAny_pure q))
  ·cases O4
 ne:=λh tp dd MJ n sl X htp=>by
  obtain⟨cdD,O4,_⟩:=PySem.W.any_some c.hd
  refine Bool.eq_false_iff.mpr λq=>?_
  have e:C=tp:=Value.ref.inj (beq_iff_eq.mp q)
  subst e
  unfold PySem.W.clsIn at O4
  split at O4
  ·rename_i c' d' cd' sl' ho
   have z:=(X _ _ ho).symm.trans htp
   cases z
  ·cases O4
 ca:=λX I k=>zG c X I k
theorem DX{tk:Tok}{v:Value}{R:Result->Shared->Prop}(po:((PySem.W.clsIn K C).any λcd=>gB cd.mro)=true)(c:jI K C)(X:K.In s.heap)(I:PySem.W.InstAt s.heap x ox C od)(ht:PySem.W.takerIn K C name=some none)
  (h:∀ b,wpAny (model prog w) A.in1 (storeInOwnDict (.ref x) (.ref C) (.str name tk) name v b)
   (λfin s'=>match fin with | .done f=>R (.ok f) s' | .again c'=>c'.quiet=true/\codeAny (model prog w) A c' R s') (λe s'=>R (.error e) s') s) :
  codeAny (model prog w) A (.call (.builtin "object.__setattr__") ⟨[.ref x,.str name tk,v],[]⟩) R s:=by
 have SF:=PySem.F.store_object
 obtain⟨cd,hc,ho⟩:=PySem.W.any_some po
 have sub:PySem.W.Looks (model prog w) s.heap (isInstance (.ref x) (.type "object")) true:=I.type.andThen (PySem.W.looks_mroIn X c.mo)
 refine codeAny_call_builtin SF.slot.plain SF.entry (@PySem.W.check_slot (model prog w) _ _ s "object.__setattr__" "object" "__setattr__" (.ref x) [.str name tk,v] [] _ SF.kind SF.split sub (SF.args (.ref x) (.str name tk) v) ?_)
 obtain⟨attr,ha,hr⟩:=Option.bind_eq_some_iff.mp ht
 have hm:PySem.W.Looks (model prog w) s.heap (mroOf (.ref C)) cd.mro:=(PySem.W.looks_clsIn X hc).andThen .now
 have L3:PySem.W.Looks (model prog w) s.heap (storeTaker? attr) none:=by
  cases attr with
  | none=>cases hr;exact .now
  | some a =>
   obtain⟨b,hb,e⟩:=Option.map_eq_some_iff.mp hr
   refine(PySem.W.looks_takesIn X hb).andThen ?_
   cases b with
   | true=>cases e
   | false=>exact .now
 rw[PySem.W.osa_eq,PySem.refuse_eq]
 refine wpAny_bind (wpAny_bind (I.type.here (wpAny_bind (hm.here ?_))))
 rw[nr _ ho]
 refine wpAny_pure (wpAny_bind (I.type.here (wpAny_bind ((PySem.W.looks_findIn X ha).here (wpAny_bind (L3.here ?_))))))
 exact h _
theorem Cq{vs:Array Value}{v:Value}{Q:Unit->Shared->Prop}(po:((PySem.W.clsIn K C).any λcd=>gB cd.mro)=true)(c:jI K C)(X:K.In s.heap)(hx:s.heap.get? x=some ⟨.ref C,none,.fields vs,#[]⟩)(ht:PySem.W.takerIn K C name=some none)
  (h:∀ h' tk d,h'.get? x=some ⟨.ref C,some d,.fields vs,#[]⟩->s.heap.get? d=none->h'.Ns1 d (λy=>if y=name then some v else none)->(∀ b o,b≠x->s.heap.get? b=some o->h'.get? b=some o)->Q () { s with heap:=h',toks:=tk }) :
  wpAny (model prog w) A (setAttr (.ref x) name v) Q E s:=by
 have I:PySem.W.InstAt s.heap x ⟨.ref C,none,.fields vs,#[]⟩ C none:=⟨hx,rfl,rfl,trivial⟩
 refine PySem.W.set_plain X I c.sa (DX (s:={ s with toks:=s.toks+1 }) po c X I ht λb=>?_)
 obtain⟨cd,hc,Qi⟩:=PySem.W.any_some c.hd
 have ND:=Heap.lt_size hx
 refine wpAny_bind (wpAny_pure (wpAny_bind (wpAny_bind (wpAny_loadPart hx (wpAny_bind (PySem.W.Looks.here (s:={ s with toks:=s.toks+1 }) (PySem.W.looks_clsIn X hc) ?_))))))
 rw[Qi]
 refine wpAny_bind (wpAny_alloc ?_)
 have Qa:(s.heap.push { cls:=.type "dict", data:=.dict #[] }).get? x=some ⟨.ref C,none,.fields vs,#[]⟩:=Heap.get?_push_of_some _ hx
 refine wpAny_bind (wpAny_update Qa ?_)
 refine wpAny_pure (a:=some s.heap.objs.size) (wpAny_bind (wpAny_pure (wpAny_bind ?_)))
 have Qt:((s.heap.push { cls:=.type "dict", data:=.dict #[] }).update x λo=>{ o with dict:=some s.heap.objs.size }).get? x=some ⟨.ref C,some s.heap.objs.size,.fields vs,#[]⟩:=Heap.get?_update_self _ Qa rfl
 have e1:(s.heap.push { cls:=.type "dict", data:=.dict #[] }).get? s.heap.objs.size=some { cls:=.type "dict", data:=.dict #[] }:=Heap.get?_push_size s.heap rfl
 have nxd:s.heap.objs.size≠x:=Nat.ne_of_gt ND
 have e2:((s.heap.push { cls:=.type "dict", data:=.dict #[] }).update x λo=>{ o with dict:=some s.heap.objs.size }).get? s.heap.objs.size=some { cls:=.type "dict", data:=.dict #[] }:=by
  rw[Heap.get?_update_other _ _ (Ne.symm nxd)]
  exact e1
 have e3:((s.heap.push { cls:=.type "dict", data:=.dict #[] }).update x λo=>{ o with dict:=some s.heap.objs.size }).Ns s.heap.objs.size (λ_=>none):=⟨_,#[],_,e2,rfl,(λe he=>absurd he (by simp)),λ_=>rfl⟩
 refine wpAny_nsSet1 (s:={ s with heap:=(s.heap.push { cls:=.type "dict", data:=.dict #[] }).update x λo=>{ o with dict:=some s.heap.objs.size },toks:=s.toks+1 }) (Heap.Ns1.of_empty e3) λh' Px N8=>?_
 obtain⟨oD,esD,epD,hoD,hdD,O4⟩:=Px.count (PySem.Within.cons (ns:=[]) name v (λy hy=>absurd rfl hy))
 refine wpAny_bind (wpAny_lookBehind hoD (by rw[hdD];exact pastItsLine_dict (Nat.le_trans O4 (by show 1<=sizeLine+1;exact Nat.le_add_left _ _))) ?_)
 refine wpAny_pure (h h' _ s.heap.objs.size ((N8.2 x (Ne.symm nxd)).trans Qt) (Heap.get?_none_of_le (Nat.le_refl _)) Px λb o hb e=>?_)
 refine(N8.2 b (Nat.ne_of_lt (Heap.lt_size e))).trans ?_
 rw[Heap.get?_update_other _ _ (Ne.symm hb)]
 exact Heap.get?_push_of_some _ e
end
def o6(K:PySem.W.Frag)(C:Addr)(newId:String)(f:Addr):Bool:=match K.lookup C with
 | some ⟨.type "type", _,.cls cd,sl⟩=>(match cd.mro,sl.toList with
  | .ref C'::bm,[_,_,_,_,some (.builtin n),_]=>C'==C&&n==newId&&!cd.hasDel&&PySem.W.tailIn K fy bm&&PySem.W.nsOkIn K cd.ns&&PySem.W.nsIn K cd.ns "__init__" == some (some (.ref f))
  | _,_=>false)
 | _=>false
section
variable{prog:Program}{w:World}{A:Around}{E:Value->Shared->Prop}{h:Heap}{g:Array GenState}{d:Drawn}{t:Nat}{os:OsState}
variable{nm q:Str}{C N:Addr}{bs bm:List Value}{OF:Bool}{sn:List Str}{sub:List Value}{ab:Bool}{col:Option Bool}{dd:Option Addr}{k0 k1 k2 k3 k5:Option Value}{newId PZ:String}
theorem pz(F:ExcBaseFacts "ValueError" newId PZ fy)(T:OwnTail h fy bm){mN:Str->Option Value}{rest:List Value}{f:Addr}{Q:Fin->Shared->Prop}
  (hC:h.get? C=some (excClassObj nm q C N bs bm OF sn sub ab col dd k0 k1 k2 k3 k5 newId)) (hn:h.Ns N mN) (OY:mN "__init__" = some (.ref f))
  (hb:∀ h':Heap,(∀ b o,h.get? b=some o->h'.get? b=some o)->∀ self,PySem.W.Looks (model prog w) h' (bindSpecial (.ref f) self) (.ref f,[self]))
  (hq:∀ h':Heap,(∀ b o,h.get? b=some o->h'.get? b=some o)->h'.get? h.objs.size=some { cls:=.type "tuple", data:=.seq rest.toArray } ->
   h'.get? (h.objs.size+1)=some { cls:=.ref C,data:=.fields #[.ref h.objs.size,.none,.none,.none,.bool false,.none] }->h'.objs.size=h.objs.size+2 ->
   wpAny (model prog w) A (call (.ref f) (.ref (h.objs.size+1)::rest)) (λv s'=>v=.none/\Q (.done (.ret (.ref (h.objs.size+1)))) s') E ⟨h',g,d,t,os⟩) (B5:rest.length<=sizeLine:=by size_fits) :
  wpAny (model prog w) A (Builtin.«type.__call__» ⟨.ref C::rest,[]⟩) Q E ⟨h,g,d,t,os⟩:=by
 repeat (first | with_reducible refine wpAny_loadPart_at hC ?_ | with_reducible refine wpAny_madeBy_exc hC ?_ | wp_step)
 refine codeAny_call_builtin_code (Code.quiet_builtin _ F.quiet) (wpAny_check_new_subT F T hC ?_)
 refine codeAny_exc_new_subT F T hC ?_ B5
 show wpAny _ _ _ _ _ _
 have kp:∀ b o,h.get? b=some o->((h.push { cls:=.type "tuple", data:=.seq rest.toArray }).push { cls:=.ref C,data:=.fields #[.ref h.objs.size,.none,.none,.none,.bool false,.none] }).get? b=some o:=λb o e=>Heap.get?_push_of_some _ (Heap.get?_push_of_some _ e)
 have hC1:=kp _ _ hC
 have hn₁:((h.push { cls:=.type "tuple", data:=.seq rest.toArray }).push { cls:=.ref C,data:=.fields #[.ref h.objs.size,.none,.none,.none,.bool false,.none] }).Ns N mN:=hn.keeps kp
 have Ql:((h.push { cls:=.type "tuple", data:=.seq rest.toArray }).push
   { cls:=.ref C,data:=.fields #[.ref h.objs.size,.none,.none,.none,.bool false,.none] }).get? (h.objs.size+1)=some
   { cls:=.ref C,data:=.fields #[.ref h.objs.size,.none,.none,.none,.bool false,.none] }:=by heap_get
 have htup:((h.push { cls:=.type "tuple", data:=.seq rest.toArray }).push
   { cls:=.ref C,data:=.fields #[.ref h.objs.size,.none,.none,.none,.bool false,.none] }).get? h.objs.size=some { cls:=.type "tuple", data:=.seq rest.toArray }:=Heap.get?_push_of_some _ (Heap.get?_push_size _ rfl)
 have Oe:((h.push { cls:=.type "tuple", data:=.seq rest.toArray }).push { cls:=.ref C,data:=.fields #[.ref h.objs.size,.none,.none,.none,.bool false,.none] }).objs.size=h.objs.size+2:=by rw[Heap.size_push,Heap.size_push]
 have hcC:(Value.ref C::bm).contains (.ref C)=true:=by simp
 have T₁:=T.keeps kp
 have hb₁:=hb _ kp (.ref (h.objs.size+1))
 have fin:=hq _ kp htup Ql Oe
 generalize ((h.push { cls:=.type "tuple", data:=.seq rest.toArray }).push { cls:=.ref C,data:=.fields #[.ref h.objs.size,.none,.none,.none,.bool false,.none] })=h1 at *
 unfold isInstance
 repeat (first | with_reducible refine wpAny_loadPart_at Ql ?_ | (with_reducible refine wpAny_isSubtype_exc hC1 ?_;rw[hcC]) | wp_step)
 show wpAny _ _ (typeLookup (.ref C) _) _ _ _
 refine wpAny_typeLookup_tail hC1 hn₁ T₁ F.mroIs F.init.lookup ?_
 rw[OY]
 refine wpAny_holding (wpAny_bind (hb₁.here ?_))
 refine wpAny_bind (wpAny_mono fin (λv s' z=>?_) λ_ _ z=>z)
 obtain⟨rfl,z⟩:=z
 wp_walk
 exact z
end
end L2
namespace L2
open PySem PySem.Spec PyProof.Rows
def ju(C:Addr)(dd:Option Addr)(e:Addr):HO:=.ext λh=>∃ vs,h.get? e=some ⟨.ref C,dd,.fields vs,#[]⟩
def ExcAt(H:Hp)(e C:Addr)(fo:Option (List (Str×V))):Prop:=match fo with
 | none=>H e=some (ju C none e)
 | some fs=>∃ d,H e=some (ju C (some d) e)/\H d=some (.xd fs)
section
variable{X:Cx}{MG:List (Addr×Obj)}{σ:St}{H:Hp}{s:Shared}
theorem Inv.Br(I:Inv X MG σ H s){C e:Addr}{dd:Option Addr}(he:H e=some (ju C dd e)):∃ vs,s.heap.get? e=some ⟨.ref C,dd,.fields vs,#[]⟩:=(I.bM e _ he).1
theorem Inv.DA(I:Inv X MG σ H s){C e:Addr}{fo:Option (List (Str×V))}(h:ExcAt H e C fo):∃ ox od,PySem.W.InstAt s.heap e ox C od/\(fo=none->od=none) ∧
  ∀ fs,fo=some fs->∃ (o:Obj) (mA:Str->Option Value),od=some o/\(∀ n,PySem.W.lookIn n o=some (mA n))/\∀ f,mv (fs.lookup f) (mA f):=by
 cases fo with
 | none =>
  obtain⟨vs,q⟩:=I.Br h
  exact⟨_,none,⟨q,rfl,rfl,trivial⟩,λ_=>rfl,λfs z=>(by cases z)⟩
 | some fs =>
  obtain⟨d,h1,h2⟩:=h
  obtain⟨vs,q⟩:=I.Br h1
  obtain⟨mA,n,r⟩:=(show ∃ mA,s.heap.Ns1 d mA/\∀ f,mv (fs.lookup f) (mA f) from I.bM d _ h2)
  obtain⟨o,ho,hl⟩:=mf n
  refine⟨_,some o,⟨q,rfl,rfl,ho⟩,λz=>(by cases z),λPD z=>?_⟩
  cases z
  exact⟨o,mA,rfl,hl,r⟩
theorem Inv.sF{a:Addr}(I:Inv X MG σ H s)(hn:s.heap.get? a=none):H a=none:=by
 cases q:H a with
 | none=>rfl
 | some u =>
  exfalso
  have:∀ (u:HO),cw X.prog X.w H s.heap a u->∃ ob,s.heap.get? a=some ob:=by
   intro u
   induction u with
   | lst xs=>intro ⟨_,_,_,_,e⟩;exact⟨_,e⟩
   | tup xs=>intro ⟨_,_,_,p⟩;obtain⟨ob,e,_⟩:=p;exact⟨ob,e⟩
   | dK NF=>intro ⟨_,_,_,_,p⟩;obtain⟨ob,_,_,e,_⟩:=p;exact⟨ob,e⟩
   | dT NF=>intro ⟨_,_,_,_,ob,_,_,e,_⟩;exact⟨ob,e⟩
   | set S n=>intro p;obtain⟨es,ob,xs,ep,e,_⟩:=p;exact⟨_,e⟩
   | ins C dx fs=>intro ⟨_,_,_,e,_⟩;exact⟨_,e⟩
   | own x=>intro ⟨ob,e⟩;exact⟨ob,e⟩
   | xd fs=>intro ⟨mA,n,_⟩;obtain⟨ob,e,_⟩:=mf n;exact⟨ob,e⟩
   | met f x=>intro e;exact⟨_,e⟩
   | je lo hi=>intro ⟨_,_,_,e⟩;exact⟨_,e⟩
   | qB o u _=>intro ⟨e,_⟩;exact⟨_,e⟩
   | Fb ps=>intro e;exact⟨_,e⟩
   | ext φ=>intro ⟨_,⟨ob,e⟩,_⟩;exact⟨ob,e⟩
  obtain⟨ob,e⟩:=this u (I.bM a u q)
  rw[hn] at e;cases e
theorem Inv.ES{h':Heap}{t':Nat}{a:Addr}{o:HO}(I:Inv X MG σ H s)(k:∀ b u,s.heap.get? b=some u->h'.get? b=some u)(hn:s.heap.get? a=none)(new:cw X.prog X.w (upd H a o) h' a o) :
  Inv X MG σ (upd H a o) { s with heap:=h',toks:=t' }:=by
 have ne:∀ b u,s.heap.get? b=some u->b≠a:=λb u e z=>by rw[z,hn] at e;cases e
 have O8:H a=none:=I.sF hn
 have Pg:∀ b u,H b=some u->b≠a:=λb u e z=>by rw[z,O8] at e;cases e
 refine I.un ⟨λb u e _ _ _=>k b u e,λb u e _ _ _=>⟨u.slots,k b u e⟩,λb u e n _=>by rw[aw (ne b u e)];exact n,λb u e _=>⟨u,k b u e⟩,
  λb xs e=>by rw[aw (Pg b _ e)];exact e,λb ob u e=>by rw[aw (Pg b _ e)];exact e,λb ps e=>⟨#[],by rw[aw (Pg b _ e),e];simp⟩⟩ λb u e=>?_
 by_cases z:b=a
 ·subst z
  rw[aB] at e
  cases e
  exact new
 ·rw[aw z] at e
  refine(I.bM b u e).nO (λc v _ q=>k c v q) (λc q=>?_) λc ys q=>?_
  ·rw[aw (Pg c _ q)];exact q
  ·rw[aw (Pg c _ q)];exact q
end
section
variable{X:Cx}{o:Expr}{ta:TE}{f m:Str}{pos apos:Pos}
def Lm(K:PySem.W.Frag):List V->Hp->VK->Prop:=λxs H Q=>∃ e C fo b,jI K C/\ExcAt H e C fo ∧
 ((∃ T,xs=[.ref e,.ty T]/\PySem.W.kitOne K (.ref C) (.type T)=some b)\/(∃ D,xs=[.ref e,.ref D]/\PySem.W.kitOne K (.ref C) (.ref D)=some b))/\Q (.bl b) H
theorem BI:dQ X (.builtin "isinstance") (Lm X.K):=by
 intro MG s σ H xs us Q I r h
 obtain⟨e,C,fo,b,c,ha,hc,q⟩:=h
 obtain⟨ox,od,J,_⟩:=I.DA ha
 rcases hc with ⟨T,rfl,hk⟩ | ⟨D,rfl,hk⟩
 ·cases r with
  | cons r1 r2 =>
   cases r2 with
   | cons r3 r4 =>
    cases r4
    cases (show _=Value.ref e from r1)
    cases (show _=Value.type T from r3)
    exact PySem.W.kia_one (uD c) I.jR J hk (λz=>nomatch z) λtk=>⟨.bl b,H,I.tok tk,rfl,q⟩
 ·cases r with
  | cons r1 r2 =>
   cases r2 with
   | cons r3 r4 =>
    cases r4
    cases (show _=Value.ref e from r1)
    cases (show _=Value.ref D from r3)
    exact PySem.W.kia_one (uD c) I.jR J hk (λz=>nomatch z) λtk=>⟨.bl b,H,I.tok tk,rfl,q⟩
end
theorem wz{K:PySem.W.Frag}{h:Heap}{N:Addr}{mg:Str->Option Value}{n:Str}{v:Value}(X:K.In h)(G:h.Ns N mg)(e:PySem.W.nsIn K N n=some (some v)):mg n=some v:=by
 obtain⟨o,es,ep,ho,hd,_,hf⟩:=G
 unfold PySem.W.nsIn at e
 split at e
 ·rename_i c d es' n' sl q
  have:=X _ _ q
  rw[ho] at this
  cases this
  cases hd
  split at e
  ·rename_i en he
   cases e
   rw[← hf]
   unfold nsFind findBy
   rw[← Array.find?_toList,he]
   rfl
  ·split at e <;> cases e
 ·cases e
theorem Es{K:PySem.W.Frag}{h:Heap}{C:Addr}{newId:String}(X:K.In h)(q:PySem.W.excIn K C fy newId=true) :
  ∃ bm N nm qn bs OF sn sub ab col dd k0 k1 k2 k3 k5 mN,h.get? C=some (excClassObj nm qn C N bs bm OF sn sub ab col dd k0 k1 k2 k3 k5 newId)/\h.Ns N mN/\mN "__init__" = none/\OwnTail h fy bm:=by
 unfold PySem.W.excIn at q
 split at q
 ·rename_i dd cd sl ho
  split at q
  ·rename_i C' bm k0 k1 k2 k3 n k5 hm hs
   simp only[Bool.and_eq_true,beq_iff_eq,Bool.not_eq_true'] at q
   obtain⟨⟨⟨⟨⟨rfl,rfl⟩,O5⟩,ht⟩,bM⟩,OY⟩:=q
   obtain⟨nm,bs,mro,ns,qn,hd,sn,sub,ab,col,del⟩:=cd
   dsimp only at hm O5 bM OY
   subst hm O5
   have hsl:sl=#[k0,k1,k2,k3,some (.builtin n),k5]:=by
    obtain⟨l⟩:=sl
    simp only at hs
    rw[hs]
   subst hsl
   exact⟨bm,ns,nm,qn,bs,hd,sn,sub,ab,col,dd,k0,k1,k2,k3,k5,_,X _ _ ho,.of_isNs (PySem.W.isNs_of_in X bM),PySem.W.nsMap_none_of_in X bM OY,PySem.W.tail_of_in X ht⟩
  ·cases q
 ·cases q
theorem Ct{K:PySem.W.Frag}{h:Heap}{C f:Addr}{newId:String}(X:K.In h)(q:o6 K C newId f=true) :
  ∃ bm N nm qn bs OF sn sub ab col dd k0 k1 k2 k3 k5 mN,h.get? C=some (excClassObj nm qn C N bs bm OF sn sub ab col dd k0 k1 k2 k3 k5 newId)/\h.Ns N mN/\mN "__init__" = some (.ref f)/\OwnTail h fy bm:=by
 unfold o6 at q
 split at q
 ·rename_i dd cd sl ho
  split at q
  ·rename_i C' bm k0 k1 k2 k3 n k5 hm hs
   simp only[Bool.and_eq_true,beq_iff_eq,Bool.not_eq_true'] at q
   obtain⟨⟨⟨⟨⟨rfl,rfl⟩,O5⟩,ht⟩,bM⟩,OY⟩:=q
   obtain⟨nm,bs,mro,ns,qn,hd,sn,sub,ab,col,del⟩:=cd
   dsimp only at hm O5 bM OY
   subst hm O5
   have hsl:sl=#[k0,k1,k2,k3,some (.builtin n),k5]:=by
    obtain⟨l⟩:=sl
    simp only at hs
    rw[hs]
   subst hsl
   have hN:=Heap.Ns.of_isNs (PySem.W.isNs_of_in X bM)
   exact⟨bm,ns,nm,qn,bs,hd,sn,sub,ab,col,dd,k0,k1,k2,k3,k5,_,X _ _ ho,hN,wz X hN OY,PySem.W.tail_of_in X ht⟩
  ·cases q
 ·cases q
section
variable{X:Cx}{C f:Addr}{fd:FuncData}{ps:List Str}{sp:Sp}{x:Str}{p pos:Pos}{e:Expr}{es:List Expr}{t:TA}{k:Nat}
end
end L2
namespace L2
open PySem PySem.Spec PyProof.Rows
open PySem.SeqAt (shaped noMix noMixAll)
section
variable{X:Cx}
end
end L2
namespace L2
open PySem PySem.Spec PyProof.Rows
open PySem.SeqAt (shaped noMix noMixAll)
section
variable{X:Cx}{MG:List (Addr×Obj)}{σ:St}{H:Hp}{s:Shared}
theorem CV{x:V}{u t:Value}(I:Inv X MG σ H s)(rx:RelV x u)(ty:j4 X.K H x t):∃ HH:Heap->Prop,PySem.W.KitX X.K u t HH/\HH s.heap/\u≠.builtin "__main__.__loader__#opaque" := by
 cases ty with
 | cR=>cases (show u=Value.none from rx);exact⟨_,PySem.W.kitx_none,True.intro,λz=>nomatch z⟩
 | bl y=>cases (show u=Value.bool y from rx);exact⟨_,PySem.W.kitx_bool,True.intro,λz=>nomatch z⟩
 | int i=>obtain⟨t,q⟩:=(show ∃ t,u=Value.int i t from rx);cases q;exact⟨_,PySem.W.kitx_int,True.intro,λz=>nomatch z⟩
 | str y=>obtain⟨t,q⟩:=(show ∃ t,u=Value.str y t from rx);cases q;exact⟨_,PySem.W.kitx_str,True.intro,λz=>nomatch z⟩
 | E6 y=>obtain⟨t,q⟩:=(show ∃ t,u=Value.float y t from rx);cases q;exact⟨_,PySem.W.kitx_float,True.intro,λz=>nomatch z⟩
 | @lst a xs ea =>
  cases (show u=Value.ref a from rx)
  obtain⟨_,_,n,_,h1⟩:=(show cw X.prog X.w H s.heap a (.lst xs) from I.bM a _ ea)
  exact⟨_,PySem.W.kitx_list,⟨_,h1,rfl⟩,λz=>nomatch z⟩
 | @qB a ob xs ea =>
  cases (show u=Value.ref a from rx)
  obtain⟨_,_,_,n,_,h1⟩:=(show cw X.prog X.w H s.heap a (.qB ob (.lst xs)) from I.bM a _ ea)
  exact⟨_,PySem.W.kitx_list,⟨_,h1,rfl⟩,λz=>nomatch z⟩
 | @tup a xs ea =>
  cases (show u=Value.ref a from rx)
  obtain⟨_,_,_,o,h1,h2,_⟩:=(show cw X.prog X.w H s.heap a (.tup xs) from I.bM a _ ea)
  exact⟨_,PySem.W.kitx_tuple,⟨o,h1,h2⟩,λz=>nomatch z⟩
 | @dK a NF ea =>
  cases (show u=Value.ref a from rx)
  obtain⟨_,_,vs,_,o,es,ep,h1,h2,_⟩:=(show cw X.prog X.w H s.heap a (.dK NF) from I.bM a _ ea)
  exact⟨_,PySem.W.kitx_dict,⟨o,h1,h2.1⟩,λz=>nomatch z⟩
 | @dT a NF ea =>
  cases (show u=Value.ref a from rx)
  obtain⟨_,_,xs,_,o,es,ep,h1,h2,_⟩:=(show cw X.prog X.w H s.heap a (.dT NF) from I.bM a _ ea)
  exact⟨_,PySem.W.kitx_dict,⟨o,h1,h2.1⟩,λz=>nomatch z⟩
 | @ins a C dx fs ea cl ha hn Ip hm =>
  cases (show u=Value.ref a from rx)
  obtain⟨mA,O,_⟩:=lT I.bM ea
  obtain⟨od,J,_⟩:=O.look
  exact⟨_,PySem.W.kitx_own (cl.get _) cl.hd ha hn Ip hm,J,λz=>nomatch z⟩
end
section
variable{X:Cx}
def IP(K:PySem.W.Frag):List V->Hp->VK->Prop:=λxs H Q=>∃ (x:V) (tp:Addr) (Ts:List String) (t:Value) (b:Bool),xs=[x,.ref tp]/\H tp=some (.tup (Ts.map V.ty))/\j4 K H x t/\PySem.W.kitAny K t (Ts.map Value.type)=some b/\Q (.bl b) H
theorem xt:∀ {Ts:List String} {us:List Value},Vals (Ts.map V.ty) us->us=Ts.map Value.type
 | [],us,r=>by rw[List.map_nil] at r;cases r;rfl
 | T::Ts,us,r=>by
  rw[List.map_cons] at r
  cases r with
  | cons r1 r2 =>
   cases (show _=Value.type T from r1)
   rw[xt r2]
   rfl
theorem zR:dQ X (.builtin "isinstance") (IP X.K):=by
 intro MG s σ H xs us Q I r h
 obtain⟨x,tp,Ts,t,b,rfl,htp,ty,e,q⟩:=h
 cases r with
 | cons r1 r2 =>
  cases r2 with
  | cons r3 r4 =>
   cases r4
   cases (show _=Value.ref tp from r3)
   obtain⟨HH,Z,p,ne⟩:=CV I r1 ty
   obtain⟨_,MJ,rv,o,h1,h2,n,h3⟩:=(show cw X.prog X.w H s.heap tp (.tup (Ts.map V.ty)) from I.bM tp _ htp)
   have ei:=xt rv
   subst ei
   obtain⟨cls,dd,data,sl⟩:=o
   dsimp only at h2 h3
   subst h2 h3
   exact PySem.W.kia_tup Z I.jR p h1 e ne λtk=>⟨.bl b,H,I.tok tk,rfl,q⟩
theorem xn:∀ {bs:List Bool} {us:List Value},Vals (bs.map V.bl) us->us=bs.map Value.bool
 | [],us,r=>by rw[List.map_nil] at r;cases r;rfl
 | b::bs,us,r=>by
  rw[List.map_cons] at r
  cases r with
  | cons r1 r2 =>
   cases (show _=Value.bool b from r1)
   rw[xn r2]
   rfl
theorem FG:bootBuiltins "all" = some (.builtin "all"):=by decide +kernel
theorem zx(hc:X.calm=true):dQ X (.builtin "all") (λxs H Q=>∃ (a:Addr) (bs:List Bool),xs=[.ref a]/\ir X.K H a (bs.map V.bl)/\Q (.bl (bs.all id)) H):=by
 intro MG s σ H xs us Q I r h
 obtain⟨a,bs,rfl,hq,q⟩:=h
 cases r with
 | cons r1 r2 =>
  cases r2
  cases (show _=Value.ref a from r1)
  obtain⟨MJ,rv,p,hz⟩:=I.list hq
  have ei:=xn rv
  subst ei
  have hl:=p.isList
  have ND:a<s.heap.objs.size:=by obtain⟨_,e,_⟩:=hl;exact Heap.lt_size e
  refine call_all_walk (wpAny_pyIter_list hl ?_)
  refine⟨s.heap.objs.size,[s.heap.objs.size,a],[s.heap.objs.size],(bs.map Value.bool).toArray.size,_,_,λi=>(bs[i]?).getD true,rfl,Walks.list (A:=X.A.in1) (I.ok.hd hc) _ a (Nat.ne_of_lt ND) (bs.map Value.bool).toArray,
   ⟨⟨_,Heap.get?_push_size _ rfl,rfl,rfl⟩,hl.push _⟩,λi v s' Q' E' hP hQ=>?_,λh' tk hk=>?_⟩
  ·have hP':(bs.map Value.bool)[i]?=some v:=by simpa using hP
   rw[List.getElem?_map] at hP'
   obtain⟨b,e1,e2⟩:=Option.map_eq_some_iff.mp hP'
   subst e2
   simp only[e1,Option.getD_some] at hQ
   exact wpAny_truthy_bool hQ
  ·have e:((List.range (bs.map Value.bool).toArray.size).all λi=>(bs[i]?).getD true)=bs.all id:=by
    rw[List.size_toArray,List.length_map]
    rw[Bool.eq_iff_iff,List.all_eq_true,List.all_eq_true]
    constructor
    ·intro h b hb
     obtain⟨i,hi,e⟩:=List.getElem_of_mem hb
     have:=h i (List.mem_range.mpr hi)
     simp only[List.getElem?_eq_getElem hi,Option.getD_some,e] at this
     exact this
    ·intro h i hi
     have P8:=List.mem_range.mp hi
     simp only[List.getElem?_eq_getElem P8,Option.getD_some]
     exact h _ (List.getElem_mem P8)
   rw[e]
   refine⟨.bl _,H,I.kept (t':=tk) (λb x e=>?_),rfl,q⟩
   exact hk b x (λhm=>by rw[List.mem_singleton.mp hm] at e;exact Nat.lt_irrefl _ (Heap.lt_size e)) (Heap.get?_push_of_some _ e)
end
end L2
namespace L2
open PySem PySem.Spec PyProof.Rows
open PySem.MeetsSeq PySem.MeetsSeq2 PySem.MeetsSeq3
theorem mF:fillsNumberSlot (.type "tuple") "mul" = pure false :=
 PySem.fillsNumberSlot_seq (id := "tuple.__mul__") (r:=some (.builtin "tuple.__rmul__")) F.slot_tuple_mul.lookup (by decide +kernel) F.slot_tuple_rmul.lookup (by decide +kernel)
theorem tM:seqRepeat? (.type "tuple")=pure (some (.builtin "tuple.__mul__")):=by
 unfold seqRepeat?
 rw[PySem.seqSlot_of (T := "tuple") (name := "__mul__") (id := "tuple.__mul__") F.slot_tuple_mul.lookup (by decide +kernel),PySem.seqSlot_of (T := "tuple") (name := "__rmul__") (id := "tuple.__rmul__") F.slot_tuple_rmul.lookup (by decide +kernel)]
 rfl
theorem ug(a:Int)(t:Tok)(l:Addr)(items:Array Value)(n:Nat)(dd:Option Addr)(sl:Array (Option Value)) :
  Meets (Builtin.«int.__rmul__» ⟨[.int a t,.ref l],[]⟩) (λ_ R s=>s.heap.get? l=some ⟨.type "tuple", dd,.seq items n,sl⟩/\R (.ok (.ret Value.notImplemented)) s) :=
 .of_wp λprog w A R s h=>by obtain⟨hp,g,d,tk,os⟩:=s;obtain⟨hl,h⟩:=h;wp_walk;exact⟨_,rfl,h⟩
theorem yS(l:Addr)(items:Array Value)(n:Nat)(dd:Option Addr)(sl:Array (Option Value))(u:Tok) :
  Meets (Builtin.«tuple.__mul__» ⟨[.ref l,.int 1 u],[]⟩) (λ_ R s=>s.heap.get? l=some ⟨.type "tuple", dd,.seq items n,sl⟩/\R (.ok (.ret (.ref l))) s) :=
 .of_wp λprog w A R s h=>by
  obtain⟨hp,g,d,tk,os⟩:=s;obtain⟨hl,h⟩:=h;have f1:=AutoSeq1.idx_int;have f2:=AutoSeq1.sub_tuple_tuple
  wp_walk using AutoSeq1.wpAny_loadPart' hl
  exact⟨_,rfl,h⟩
theorem yv(l:Addr)(items:Array Value)(n:Nat)(dd:Option Addr)(sl:Array (Option Value))(x:Int)(u:Tok)(c0:¬ (decide (x < -2^63)||decide (x>=2^63))=true)(c1:¬ (items.isEmpty||x==1)=true)(c2:¬ (decide (x<=0)||items.isEmpty)=true)
  (c3:¬ (items.size:Int)*x>(2^63-1)/8) (c4:¬ Builtin.Tuple.tupleTooMany ((items.size:Int)*x)=true) (Oe:(List.foldl (λx1 x2=>x1++x2) #[] (List.replicate x.toNat items)).size<=sizeLine) :
  Meets (Builtin.«tuple.__mul__» ⟨[.ref l,.int x u],[]⟩) (λ_ R s=>s.heap.get? l=some ⟨.type "tuple", dd,.seq items n,sl⟩/\R (.ok (.ret (.ref s.heap.objs.size))) { s with heap:=s.heap.push { cls:=.type "tuple", data:=.seq (List.foldl (λx1 x2=>x1++x2) #[] (List.replicate x.toNat items)) },toks:=s.toks }) :=
 .of_wp λprog w A R s h=>by
  obtain⟨hp,g,d,tk,os⟩:=s;obtain⟨hl,h⟩:=h;have f1:=AutoSeq1.idx_int;have f2:=AutoSeq1.sub_tuple_tuple
  wp_walk using AutoSeq1.wpAny_loadPart' hl
  refine wpAny_ite_false (decide_eq_false c0) ?_;wp_walk using AutoSeq1.wpAny_loadPart' hl
  refine wpAny_ite_false (decide_eq_false c3) ?_;wp_walk using AutoSeq1.wpAny_loadPart' hl
  exact⟨_,rfl,h⟩
theorem zK(l:Addr)(items:Array Value)(n:Nat)(dd:Option Addr)(sl:Array (Option Value))(x:Int)(u:Tok)(c0:¬ (decide (x < -2^63)||decide (x>=2^63))=true)(c1:¬ (items.isEmpty||x==1)=true)(c2:(decide (x<=0)||items.isEmpty)=true) :
  Meets (Builtin.«tuple.__mul__» ⟨[.ref l,.int x u],[]⟩) (λ_ R s=>s.heap.get? l=some ⟨.type "tuple", dd,.seq items n,sl⟩/\R (.ok (.ret (.ref s.heap.objs.size))) { s with heap:=s.heap.push { cls:=.type "tuple", data:=.seq #[] },toks:=s.toks }) :=
 .of_wp λprog w A R s h=>by
  obtain⟨hp,g,d,tk,os⟩:=s;obtain⟨hl,h⟩:=h;have f1:=AutoSeq1.idx_int;have f2:=AutoSeq1.sub_tuple_tuple
  wp_walk using AutoSeq1.wpAny_loadPart' hl
  refine wpAny_ite_false (decide_eq_false c0) ?_;wp_walk using AutoSeq1.wpAny_loadPart' hl
  exact⟨_,rfl,h⟩
section
variable{X:Cx}
def EU(K:PySem.W.Frag):R2:=λx y H Q=>∃ a k xs,x=.ref a/\y=.int k/\h_ K H a xs/\xs≠[]/\-(2^63)<=k/\k<2^63/\xs.length*k.toNat<=sizeLine/\(k=1->Q (.ref a) H)/\(k≠1->∀ p,H p=none->Q (.ref p) (upd H p (.tup (List.replicate k.toNat xs).flatten)))
theorem Dk:iu X (binaryOp .Mult) (EU X.K):=by
 intro MG s σ H x y v u Q I rx ry h
 obtain⟨a,k,xs,rfl,rfl,hq,OC,h1,h2,hz,q1,q2⟩:=h
 cases rx
 obtain⟨t,rfl⟩:=ry
 obtain⟨MJ,r,⟨o,e,hc,n,hd⟩,_⟩:=I.tuple hq
 obtain⟨cls,dd,data,sl⟩:=o
 dsimp only at hc hd
 subst hc hd
 have hl:=r.length
 refine wpAny_binaryOp_repeat_ref (T := "tuple") (U := "int") (by decide) ⟨_,e,rfl⟩ (λs'=>typeIs_int s' k t) mF F.fills_int_mul F.slot_int_rmul tM F.slot_int_index.lookup
  (call_meets F.slot_int_rmul (typeIs_int s k t) F.entry_int_rmul (F.args_int_rmul_2 _ _) (ug k t a MJ.toArray n dd sl) ⟨e,rfl,⟨_,e,rfl⟩,?_⟩)
 by_cases hk1:k=1
 ·subst hk1
  exact call_meets F.slot_tuple_mul ⟨_,e,rfl⟩ F.entry_tuple_mul (F.args_tuple_mul_2 _ _) (yS a MJ.toArray n dd sl t) ⟨e,⟨.ref a,H,I,rfl,q1 rfl⟩⟩
 ·have hb1:(k==1)=false:=by simpa using hk1
  have OY:MJ≠[]:=λz=>OC (r.lx.mp z)
  have hie:MJ.toArray.isEmpty=false:=by cases MJ with | nil=>exact absurd rfl OY | cons _ _=>rfl
  have c0:¬ (decide (k < -2^63)||decide (k>=2^63))=true:=by simp;omega
  have c1:¬ (MJ.toArray.isEmpty||k==1)=true:=by rw[hie,hb1];simp
  have fin:∀ ys,ys=(List.replicate k.toNat MJ).flatten.toArray->EP X MG σ Q (.ref s.heap.objs.size) { s with heap:=s.heap.push { cls:=.type "tuple", data:=.seq ys },toks:=s.toks }:=λys ey=>by
   subst ey
   refine⟨.ref s.heap.objs.size,_,I.laid (t':=s.toks) (o:=.tup (List.replicate k.toNat xs).flatten) (λb ob q=>Heap.get?_push_of_some _ q) (Nat.le_refl _) ?_,rfl,q2 hk1 _ (I.bM.fresh (Nat.le_refl _))⟩
   exact⟨by rw[len_rep,Nat.mul_comm];exact hz,_,r.rep k.toNat,IsTup.new _ _⟩
  have N7:List.foldl (λx1 x2=>x1++x2) #[] (List.replicate k.toNat MJ.toArray)=(List.replicate k.toNat MJ).flatten.toArray:=by
   have:=foldl_rep MJ k.toNat []
   rw[List.nil_append] at this
   exact this
  by_cases hk0:k<=0
  ·have c2:(decide (k<=0)||MJ.toArray.isEmpty)=true:=by rw[decide_eq_true hk0];rfl
   refine call_meets F.slot_tuple_mul ⟨_,e,rfl⟩ F.entry_tuple_mul (F.args_tuple_mul_2 _ _) (zK a MJ.toArray n dd sl k t c0 c1 c2) ⟨e,fin _ ?_⟩
   rw[show k.toNat=0 by omega]
   rfl
  ·have c2:¬ (decide (k<=0)||MJ.toArray.isEmpty)=true:=by rw[decide_eq_false hk0,hie];simp
   have em:((MJ.toArray.size:Nat):Int)*k=((xs.length*k.toNat:Nat):Int):=by
    rw[List.size_toArray,← hl,Int.natCast_mul,Int.toNat_of_nonneg (by omega)]
   have hs:(sizeLine:Int)<=(2^63-1)/8:=by decide
   refine call_meets F.slot_tuple_mul ⟨_,e,rfl⟩ F.entry_tuple_mul (F.args_tuple_mul_2 _ _) (yv a MJ.toArray n dd sl k t c0 c1 c2 ?_ ?_ ?_) ⟨e,fin _ N7⟩
   ·rw[em];omega
   ·rw[em]
    unfold Builtin.Tuple.tupleTooMany
    simp only[decide_eq_true_eq]
    omega
   ·rw[N7,List.size_toArray,len_rep,Nat.mul_comm,← hl]
    exact hz
end
end L2
namespace L2
open PySem PySem.Spec PyProof.Rows
structure aY (K:PySem.W.Frag) (x qual:Str) (st:Stmt) (dv:Value) (f:Addr) (fd:FuncData):Prop where
 ex:∃ (oc:Value) (od:Option Addr) (kV doc pm:Value) (an:Option Addr) (M5 ct:Value) (OV:Array (Option Value)),
  fd=PySem.W.fnOf x qual (iF st) (fq st) (bc st) dv kV doc pm an M5 ct/\K.lookup f=some ⟨oc,od,.func fd,OV⟩/\PySem.W.codeIn K M5 qual=true
 kp:PySem.W.keepIn K (.ref f)=true
section
variable{P:Program}{w:World}{K:PySem.W.Frag}{mg:Str->Option Value}{base:Heap}
theorem aY.binds{x qual:Str}{st:Stmt}{T:Addr}{o:Obj}{items:Array Value}{n:Nat}{f:Addr}{fd:FuncData}{ps:List Str}{ds:List Value}(F:aY K x qual st (.ref T) f fd)(ho:K.lookup T=some o)(hs:o.data=.seq items n)
  (h:∀ (kV doc pm:Value) (an:Option Addr) (M5 ct:Value) (us:List Value),(us++ds).length=ps.length->∃ k,bindArgs (PySem.W.fnOf x qual (iF st) (fq st) (bc st) (.ref T) kV doc pm an M5 ct) ⟨us,[]⟩=seqItems? (.ref T) >>= k/\k (some items)=pure (ps.zip (us++ds))):Binds K fd ps ds:=by
 obtain⟨oc,od,kV,doc,pm,an,M5,ct,OV,rfl,lk,N2⟩:=F.ex
 intro s us X hl
 obtain⟨k,h1,h2⟩:=h kV doc pm an M5 ct us hl
 exact BindsTo.of_defaults rfl (X _ _ ho) hs h1 h2
end
theorem ID{X:Cx}{x:Str}{v:V}{pos:Pos}(hg:Gl X x)(hm:∃ u,X.mg x=some u/\RelV v u)(hd:autoParam ((x==("__debug__" : Str))=false) aD._auto_1):PE X (.Name x pos) (tC v):=by
 obtain⟨u,h1,h2⟩:=hm
 exact EA hg h1 h2 hd
theorem Hg:bootBuiltins "max" = some (.builtin "max"):=by decide +kernel
end L2
namespace L2
open PySem PySem.Spec PyProof.Rows
theorem CU{X:Cx}{tg elt iter:Expr}{scope:Scope}{cl:List (Str×Addr)}{pos Pn py:Pos}{i:Nat}{y:Str}{wi:TI}{g:TG}{te:TE}{ts fs:List Str}{js:List Nat}(hN:X.N.Nodup)(hiy:X.N[i]?=some y)(hy:Loc X.env.scope y)(MS:X.calm=true)
  (Nd:closureFor scope X.env=pure cl) (hk:scope.kind=.function) (nc:gu scope.names=true) (lo:iB scope.names=true) (fh:iG cl scope.names=true) (ag:e8 X cl) (fr:i6 X scope cl fs js)
  (hi:PI X tg iter wi) (hg:∀ C s₀ H₀ ex MG,PG (qy X scope cl (ts++fs) C s₀ H₀ ex MG) tg g) (he:∀ C s₀ H₀ ex MG,PE (qy X scope cl (ts++fs) C s₀ H₀ ex MG) elt te)
  (hs:autoParam (∀ x,foldedSetIterable iter X.env x=pure x) aI._auto_1) (Qs:autoParam (swapsWith (.ListComp elt [⟨tg,iter,[],0⟩] scope pos) (some (.Name y py)) Pn.line X.env=pure true) aR._auto_1)
  (hf:autoParam (X.fn y=true\/X.env.scope.names.lookup y=some .local) aF._auto_1) :
  PS X (.Assign [.Name y py] (.ListComp elt [⟨tg,iter,[],0⟩] scope pos) Pn) (F4 (wq wi g te ts js) (aH i)):=by
 intro MG s σ H D I h
 rw[exec_Assign_Name_used _ _ _ _ Qs]
 refine wpAny_bind (wpAny_standAt (wpAny_bind ?_))
 show wpAny _ X.A (do let _ ← comprehension (.ListComp elt [⟨tg,iter,[],0⟩] scope pos) scope X.env _ (newList []) false (eval iter X.env) (some (assign (.Name y py) X.env))) _ _ s
 refine wpAny_bind (wpAny_mono (u5 (tt:=none) MS Nd hk nc lo fh ag fr hi hg (λ_ _ _ _ _=>trivial) he hs I (show Bx wi g none te ts js σ H (λx H1=>D.nx (σ.set i (some x)) H1) from h) (some (assign (.Name y py) X.env)) (λ_ s'=>SP X MG D .next s') λDd H' s' C Io q hm f=>?_) (λ_ s' hq=>wpAny_pure (wpAny_pure hq)) λ_ _ e=>e)
 show wpAny _ X.A (assign (.Name y py) X.env (.ref Dd)) _ _ s'
 refine wpAny_assign_Name (rE Io hN hiy hy (v:=.ref Dd) rfl (λs'' I'' ⟨a,sb,ha⟩=>?_) hf)
 obtain⟨m,hn⟩:=hm
 obtain⟨f0,f1,f2,f3,f4,f5⟩:=f
 have naC:a≠C:=by
  rcases ha with z | z
  ·rw[z];exact λw=>f1 w.symm
  ·exact f4 y a z
 refine⟨m,hn.sameBut sb (Ne.symm naC),λh' P9=>?_⟩
 exact⟨_,H',I''.other ⟨f0,f1,f2,f3,f4,f5⟩ P9,q⟩
end L2
namespace L2
open PySem PySem.Spec PyProof.Rows
end L2
namespace L2
open PySem PySem.Spec PyProof.Rows
theorem pU(a b c:Value):checkTypeCall "zip" ⟨[a,b,c],[]⟩=pure ():=by kernel_rfl
theorem qP(a b c:Value):checkBuiltinCall "zip.__new__" ⟨[.type "zip", a,b,c],[]⟩=pure ():=by kernel_rfl
abbrev bN(h:Heap)(T:Addr)(a b c:Value):Prop:=h.get? T=some { cls:=.type "tuple", data:=.seq #[a,b,c] }
structure Z3 (z TI TO i1 i2 i3:Addr):Prop where
 TIz:TI≠z
 TOz:TO≠z
 i1z:i1≠z
 i2z:i2≠z
 Ir:i3≠z
 TITO:TI≠TO
 TIi1:TI≠i1
 TIi2:TI≠i2
 KQ:TI≠i3
 TOi1:TO≠i1
 TOi2:TO≠i2
 DF:TO≠i3
 i12:i1≠i2
 KC:i1≠i3
 Le:i2≠i3
structure L3 (z TO i1 i2 i3 l:Addr):Prop where
 z:l≠z
 o:l≠TO
 i1:l≠i1
 i2:l≠i2
 i3:l≠i3
section
variable{prog:Program}{w:World}{A:Around}{E:Value->Shared->Prop}{s:Shared}
theorem dy{T:Addr}{a b c x:Value}{k:Nat}{Q:Unit->Shared->Prop}(hT:bN s.heap T a b c)
  (h:∀ h',h'.get? T=some { cls:=.type "tuple", data:=.seq ((#[a,b,c]:Array Value).setIfInBounds k x) }->Heap.SameBut T s.heap h'->Q () { s with heap:=h' }) :
  wpAny (model prog w) A (updateSeq T (·.setIfInBounds k x)) Q E s:=by
 refine wpAny_updateSeq hT rfl (h _ ?_ (Heap.SameBut.update ..))
 rw[Heap.get?_update_self _ hT rfl]
 simp[Obj.mapSeq]
variable{b1 b2 b3:Bool}{z TI TO i1 i2 i3 l1 l2 l3:Addr}{k1 k2 k3:Nat}{xs ys zs:Array Value}{x y v a b c:Value}
theorem y4{Q:Value->Shared->Prop}(D:Z3 z TI TO i1 i2 i3)(D1:L3 z TO i1 i2 i3 l1)(D2:L3 z TO i1 i2 i3 l2)(D3:L3 z TO i1 i2 i3 l3)
  (hz:IsZip s.heap z TI TO .none) (Nr:bN s.heap TI (.ref i1) (.ref i2) (.ref i3)) (Nv:bN s.heap TO a b c)
  (h1:eR s.heap b1 i1 l1 k1) (h2:eR s.heap b2 i2 l2 k2) (h3:eR s.heap b3 i3 l3 k3) (N5:gk s.heap b1 l1 xs) (N6:gk s.heap b2 l2 ys) (O9:gk s.heap b3 l3 zs) (hx:xs[k1]?=some x) (hy:ys[k2]?=some y) (hv:zs[k3]?=some v)
  (hQ:∀ h',IsZip h' z TI TO (rawInt s.heap.objs.size)->bN h' TO x y v->eR h' b1 i1 l1 (k1+1)->eR h' b2 i2 l2 (k2+1)->eR h' b3 i3 l3 (k3+1)->bN h' s.heap.objs.size x y v->h'.objs.size=s.heap.objs.size+1 ->
   (∀ c o,c≠z->c≠TO->c≠i1->c≠i2->c≠i3->s.heap.get? c=some o->h'.get? c=some o)->Q (.ref s.heap.objs.size) { s with heap:=h' }) :
  wpAny (model prog w) A (Builtin.«zip.__next__» ⟨[.ref z],[]⟩) (λfin s'=>∃ v,fin=.done (.ret v)/\Q v s') E s:=by
 show wpAny _ _ (field (.ref z) 2 >>= _) _ _ _
 refine wpAny_bind (wpAny_field hz rfl (x:=.bool false) rfl ?_)
 show wpAny _ _ (field (.ref z) 3 >>= _) _ _ _
 refine wpAny_bind (wpAny_field hz rfl (x:=.ref TI) rfl ?_)
 refine wpAny_bind (wpAny_seqItems Nr rfl ?_)
 show wpAny _ _ (Builtin.SmallTypes.ownedTupleIsFree (.ref z) >>= _) _ _ _
 refine wpAny_bind ?_
 unfold Builtin.SmallTypes.ownedTupleIsFree
 refine wpAny_bind (wpAny_field hz rfl (x:=.none) rfl (wpAny_pure ?_))
 simp only[if_true]
 refine wpAny_bind (wpAny_rule ?_)
 refine wpAny_bind (wpAny_field hz rfl (x:=.ref TO) rfl ?_)
 refine wpAny_bind (wpAny_setField_rec hz (by simp) λh₁ hz1 hs1=>?_)
 replace hz1:IsZip h₁ z TI TO .ellipsis:=hz1
 refine wpAny_bind ?_
 simp only[List.zipIdx_cons,List.zipIdx_nil,List.forIn_cons,List.forIn_nil]
 refine wpAny_bind (wpAny_bind (wpAny_onRaise ?_))
 show wpAny _ _ (Builtin.SmallTypes.nextOf (.ref i1) >>= _) _ _ _
 refine wpAny_bind (cZ (h1.at λo e=>hs1.extBut _ _ D.i1z e) (N5.at λo e=>hs1.extBut _ _ D1.z e) hx λh₂ h1₂ hs2=>wpAny_pure ?_)
 have hTO2:bN h₂ TO a b c:=hs2.extBut _ _ D.TOi1 (hs1.extBut _ _ D.TOz Nv)
 refine wpAny_bind (wpAny_seqItems hTO2 rfl ?_)
 refine wpAny_bind (dy hTO2 λh₃ hTO3 hs3=>?_)
 replace hTO3:bN h₃ TO x b c:=hTO3
 refine wpAny_bind (wpAny_letGo (wpAny_pure ?_))
 have Pp:∀ q o,q≠z->q≠TO->q≠i1->s.heap.get? q=some o->h₃.get? q=some o:=λq o c1 c2 c3 e=>hs3.extBut _ _ c2 (hs2.extBut _ _ c3 (hs1.extBut _ _ c1 e))
 refine wpAny_bind (wpAny_bind (wpAny_onRaise ?_))
 show wpAny _ _ (Builtin.SmallTypes.nextOf (.ref i2) >>= _) _ _ _
 refine wpAny_bind (cZ (h2.at λo e=>Pp _ o D.i2z D.TOi2.symm D.i12.symm e) (N6.at λo e=>Pp _ o D2.z D2.o D2.i1 e) hy λh₄ h2₄ hs4=>wpAny_pure ?_)
 have hTO4:bN h₄ TO x b c:=hs4.extBut _ _ D.TOi2 hTO3
 refine wpAny_bind (wpAny_seqItems hTO4 rfl ?_)
 refine wpAny_bind (dy hTO4 λh₅ hTO5 hs5=>?_)
 replace hTO5:bN h₅ TO x y c:=hTO5
 refine wpAny_bind (wpAny_letGo (wpAny_pure ?_))
 have k5:∀ q o,q≠z->q≠TO->q≠i1->q≠i2->s.heap.get? q=some o->h₅.get? q=some o:=λq o c1 c2 c3 c4 e=>hs5.extBut _ _ c2 (hs4.extBut _ _ c4 (Pp q o c1 c2 c3 e))
 refine wpAny_bind (wpAny_bind (wpAny_onRaise ?_))
 show wpAny _ _ (Builtin.SmallTypes.nextOf (.ref i3) >>= _) _ _ _
 refine wpAny_bind (cZ (h3.at λo e=>k5 _ o D.Ir D.DF.symm D.KC.symm D.Le.symm e) (O9.at λo e=>k5 _ o D3.z D3.o D3.i1 D3.i2 e) hv λh₆ h3₆ hs6=>wpAny_pure ?_)
 have hTO6:bN h₆ TO x y c:=hs6.extBut _ _ D.DF hTO5
 refine wpAny_bind (wpAny_seqItems hTO6 rfl ?_)
 refine wpAny_bind (dy hTO6 λh₇ hTO7 hs7=>?_)
 replace hTO7:bN h₇ TO x y v:=hTO7
 refine wpAny_bind (wpAny_letGo (wpAny_pure (wpAny_pure ?_)))
 refine wpAny_bind (wpAny_seqItems hTO7 rfl ?_)
 refine wpAny_bind (wpAny_newTuple ?_)
 have Oe:h₇.objs.size=s.heap.objs.size:=by rw[hs7.1,hs6.1,hs5.1,hs4.1,hs3.1,hs2.1,hs1.1]
 have hz₃:IsZip h₃ z TI TO .ellipsis:=hs3.extBut _ _ D.TOz.symm (hs2.extBut _ _ D.i1z.symm hz1)
 have hz5:IsZip h₅ z TI TO .ellipsis:=hs5.extBut _ _ D.TOz.symm (hs4.extBut _ _ D.i2z.symm hz₃)
 have hz7:IsZip h₇ z TI TO .ellipsis:=hs7.extBut _ _ D.TOz.symm (hs6.extBut _ _ D.Ir.symm hz5)
 have k7:∀ q o,q≠z->q≠TO->q≠i1->q≠i2->q≠i3->s.heap.get? q=some o->h₇.get? q=some o:=λq o c1 c2 c3 c4 c5 e=>hs7.extBut _ _ c2 (hs6.extBut _ _ c5 (k5 q o c1 c2 c3 c4 e))
 have h1₇:eR h₇ b1 i1 l1 (k1+1):=h1₂.at λo e=>hs7.extBut _ _ D.TOi1.symm (hs6.extBut _ _ D.KC (hs5.extBut _ _ D.TOi1.symm (hs4.extBut _ _ D.i12 (hs3.extBut _ _ D.TOi1.symm e))))
 have h2₇:eR h₇ b2 i2 l2 (k2+1):=h2₄.at λo e=>hs7.extBut _ _ D.TOi2.symm (hs6.extBut _ _ D.Le (hs5.extBut _ _ D.TOi2.symm e))
 have h3₇:eR h₇ b3 i3 l3 (k3+1):=h3₆.at λo e=>hs7.extBut _ _ D.DF.symm e
 have Pc:z<h₇.objs.size:=Heap.lt_size hz7
 show wpAny _ _ (Builtin.SmallTypes.ownedTupleHandOut (.ref z) (.ref h₇.objs.size) >>= _) _ _ _
 refine wpAny_bind ?_
 unfold Builtin.SmallTypes.ownedTupleHandOut
 have hz₈:IsZip (h₇.push { cls:=.type "tuple", data:=.seq #[x,y,v] }) z TI TO .ellipsis:=Heap.get?_push_of_some _ hz7
 refine wpAny_bind (wpAny_setField_rec hz₈ (by simp) λh₉ hz9 hs9=>?_)
 replace hz9:IsZip h₉ z TI TO (rawInt h₇.objs.size):=hz9
 refine wpAny_setField_rec hz9 (by simp) λhA hzA hsA=>?_
 replace hzA:IsZip hA z TI TO (rawInt h₇.objs.size):=hzA
 have up:∀ c o,c≠z->h₇.get? c=some o->hA.get? c=some o:=λc o c1 e=>hsA.extBut _ _ c1 (hs9.extBut _ _ c1 (Heap.get?_push_of_some _ e))
 have hTA:bN hA h₇.objs.size x y v:=hsA.extBut _ _ (Nat.ne_of_gt Pc) (hs9.extBut _ _ (Nat.ne_of_gt Pc) (Heap.get?_push_size _ rfl))
 have Qx:hA.objs.size=h₇.objs.size+1:=by rw[hsA.1,hs9.1,Heap.size_push]
 rw[Oe] at hzA hTA Qx
 refine wpAny_pure ⟨_,rfl,?_⟩
 show Q (.ref h₇.objs.size) _
 rw[Oe]
 exact hQ hA hzA (up _ _ D.TOz hTO7) (h1₇.at λo e=>up _ o D.i1z e) (h2₇.at λo e=>up _ o D.i2z e) (h3₇.at λo e=>up _ o D.Ir e) hTA Qx λc o c1 c2 c3 c4 c5 e=>up c o c1 (k7 c o c1 c2 c3 c4 c5 e)
theorem BY{Q:Fin->Shared->Prop}(hh:A.handled=none)(D:Z3 z TI TO i1 i2 i3)(D1:L3 z TO i1 i2 i3 l1)(D2:L3 z TO i1 i2 i3 l2)(D3:L3 z TO i1 i2 i3 l3)
  (hz:IsZip s.heap z TI TO .none) (Nr:bN s.heap TI (.ref i1) (.ref i2) (.ref i3)) (Nv:bN s.heap TO a b c)
  (h1:eR s.heap b1 i1 l1 k1) (h2:eR s.heap b2 i2 l2 k2) (h3:eR s.heap b3 i3 l3 k3) (N5:gk s.heap b1 l1 xs) (N6:gk s.heap b2 l2 ys) (O9:gk s.heap b3 l3 zs) (Oc:xs[k1]?=none\/ys[k2]?=none\/zs[k3]?=none)
  (hE:∀ h' e,(∀ c o,c≠z->c≠TO->c≠i1->c≠i2->c≠i3->s.heap.get? c=some o->h'.get? c=some o)->(∃ o,h'.get? e=some o/\o.cls=.type "StopIteration")->E (.ref e) { s with heap:=h' }) :
  wpAny (model prog w) A (Builtin.«zip.__next__» ⟨[.ref z],[]⟩) Q E s:=by
 show wpAny _ _ (field (.ref z) 2 >>= _) _ _ _
 refine wpAny_bind (wpAny_field hz rfl (x:=.bool false) rfl ?_)
 show wpAny _ _ (field (.ref z) 3 >>= _) _ _ _
 refine wpAny_bind (wpAny_field hz rfl (x:=.ref TI) rfl ?_)
 refine wpAny_bind (wpAny_seqItems Nr rfl ?_)
 show wpAny _ _ (Builtin.SmallTypes.ownedTupleIsFree (.ref z) >>= _) _ _ _
 refine wpAny_bind ?_
 unfold Builtin.SmallTypes.ownedTupleIsFree
 refine wpAny_bind (wpAny_field hz rfl (x:=.none) rfl (wpAny_pure ?_))
 simp only[if_true]
 refine wpAny_bind (wpAny_rule ?_)
 refine wpAny_bind (wpAny_field hz rfl (x:=.ref TO) rfl ?_)
 refine wpAny_bind (wpAny_setField_rec hz (by simp) λh₁ hz1 hs1=>?_)
 replace hz1:IsZip h₁ z TI TO .ellipsis:=hz1
 refine wpAny_bind ?_
 simp only[List.zipIdx_cons,List.zipIdx_nil,List.forIn_cons,List.forIn_nil]
 refine wpAny_bind (wpAny_bind (wpAny_onRaise ?_))
 show wpAny _ _ (Builtin.SmallTypes.nextOf (.ref i1) >>= _) _ _ _
 cases hx:xs[k1]? with
 | none =>
  refine wpAny_bind (hV hh (h1.at λo e=>hs1.extBut _ _ D.i1z e) (N5.at λo e=>hs1.extBut _ _ D1.z e) hx λh₂ e hs2 he=>?_)
  obtain⟨oe,Oo,OM⟩:=he
  have hz2:IsZip h₂ z TI TO .ellipsis:=hs2 _ _ D.i1z.symm hz1
  have Pw:e≠z:=λx=>by subst x;rw[hz2] at Oo;cases Oo;simp at OM
  refine wpAny_setField_rec hz2 (by simp) λh₃ _ hs3=>hE h₃ e (λc o c1 _ c3 _ _ x=>hs3.extBut _ _ c1 (hs2 _ _ c3 (hs1.extBut _ _ c1 x))) ⟨oe,hs3.extBut _ _ Pw Oo,OM⟩
 | some x =>
  refine wpAny_bind (cZ (h1.at λo e=>hs1.extBut _ _ D.i1z e) (N5.at λo e=>hs1.extBut _ _ D1.z e) hx λh₂ h1₂ hs2=>wpAny_pure ?_)
  have hTO2:bN h₂ TO a b c:=hs2.extBut _ _ D.TOi1 (hs1.extBut _ _ D.TOz Nv)
  refine wpAny_bind (wpAny_seqItems hTO2 rfl ?_)
  refine wpAny_bind (dy hTO2 λh₃ hTO3 hs3=>?_)
  replace hTO3:bN h₃ TO x b c:=hTO3
  refine wpAny_bind (wpAny_letGo (wpAny_pure ?_))
  have Pp:∀ q o,q≠z->q≠TO->q≠i1->s.heap.get? q=some o->h₃.get? q=some o:=λq o c1 c2 c3 e=>hs3.extBut _ _ c2 (hs2.extBut _ _ c3 (hs1.extBut _ _ c1 e))
  have hz₃:IsZip h₃ z TI TO .ellipsis:=hs3.extBut _ _ D.TOz.symm (hs2.extBut _ _ D.i1z.symm hz1)
  refine wpAny_bind (wpAny_bind (wpAny_onRaise ?_))
  show wpAny _ _ (Builtin.SmallTypes.nextOf (.ref i2) >>= _) _ _ _
  cases hy:ys[k2]? with
  | none =>
   refine wpAny_bind (hV hh (h2.at λo e=>Pp _ o D.i2z D.TOi2.symm D.i12.symm e) (N6.at λo e=>Pp _ o D2.z D2.o D2.i1 e) hy λh₄ e hs4 he=>?_)
   obtain⟨oe,Oo,OM⟩:=he
   have hz4:IsZip h₄ z TI TO .ellipsis:=hs4 _ _ D.i2z.symm hz₃
   have Pw:e≠z:=λx=>by subst x;rw[hz4] at Oo;cases Oo;simp at OM
   refine wpAny_setField_rec hz4 (by simp) λh₅ _ hs5=>hE h₅ e (λc o c1 c2 c3 c4 _ x=>hs5.extBut _ _ c1 (hs4 _ _ c4 (Pp c o c1 c2 c3 x))) ⟨oe,hs5.extBut _ _ Pw Oo,OM⟩
  | some y =>
   have hv:zs[k3]?=none:=by
    rcases Oc with h | h | h
    ·rw[hx] at h;cases h
    ·rw[hy] at h;cases h
    ·exact h
   refine wpAny_bind (cZ (h2.at λo e=>Pp _ o D.i2z D.TOi2.symm D.i12.symm e) (N6.at λo e=>Pp _ o D2.z D2.o D2.i1 e) hy λh₄ h2₄ hs4=>wpAny_pure ?_)
   have hTO4:bN h₄ TO x b c:=hs4.extBut _ _ D.TOi2 hTO3
   refine wpAny_bind (wpAny_seqItems hTO4 rfl ?_)
   refine wpAny_bind (dy hTO4 λh₅ hTO5 hs5=>?_)
   refine wpAny_bind (wpAny_letGo (wpAny_pure ?_))
   have k5:∀ q o,q≠z->q≠TO->q≠i1->q≠i2->s.heap.get? q=some o->h₅.get? q=some o:=λq o c1 c2 c3 c4 e=>hs5.extBut _ _ c2 (hs4.extBut _ _ c4 (Pp q o c1 c2 c3 e))
   have hz5:IsZip h₅ z TI TO .ellipsis:=hs5.extBut _ _ D.TOz.symm (hs4.extBut _ _ D.i2z.symm hz₃)
   refine wpAny_bind (wpAny_bind (wpAny_onRaise ?_))
   show wpAny _ _ (Builtin.SmallTypes.nextOf (.ref i3) >>= _) _ _ _
   refine wpAny_bind (hV hh (h3.at λo e=>k5 _ o D.Ir D.DF.symm D.KC.symm D.Le.symm e) (O9.at λo e=>k5 _ o D3.z D3.o D3.i1 D3.i2 e) hv λh₆ e hs6 he=>?_)
   obtain⟨oe,Oo,OM⟩:=he
   have hz6:IsZip h₆ z TI TO .ellipsis:=hs6 _ _ D.Ir.symm hz5
   have Pw:e≠z:=λx=>by subst x;rw[hz6] at Oo;cases Oo;simp at OM
   refine wpAny_setField_rec hz6 (by simp) λh₇ _ hs7=>hE h₇ e (λc o c1 c2 c3 c4 c5 x=>hs7.extBut _ _ c1 (hs6 _ _ c5 (k5 c o c1 c2 c3 c4 x))) ⟨oe,hs7.extBut _ _ Pw Oo,OM⟩
end
end L2
namespace L2
open PySem PySem.Spec PyProof.Rows
section
variable{prog:Program}{w:World}{A:Around}{E:Value->Shared->Prop}{s:Shared}
variable{b1 b2 b3:Bool}{z TI TO i1 i2 i3 l1 l2 l3:Addr}{k1 k2 k3:Nat}{xs ys zs:Array Value}{x y v a b c:Value}
theorem mn{Q:Option Value->Shared->Prop}(D:Z3 z TI TO i1 i2 i3)(D1:L3 z TO i1 i2 i3 l1)(D2:L3 z TO i1 i2 i3 l2)(D3:L3 z TO i1 i2 i3 l3)
  (hz:IsZip s.heap z TI TO .none) (Nr:bN s.heap TI (.ref i1) (.ref i2) (.ref i3)) (Nv:bN s.heap TO a b c)
  (h1:eR s.heap b1 i1 l1 k1) (h2:eR s.heap b2 i2 l2 k2) (h3:eR s.heap b3 i3 l3 k3) (N5:gk s.heap b1 l1 xs) (N6:gk s.heap b2 l2 ys) (O9:gk s.heap b3 l3 zs) (hx:xs[k1]?=some x) (hy:ys[k2]?=some y) (hv:zs[k3]?=some v)
  (hQ:∀ h',IsZip h' z TI TO (rawInt s.heap.objs.size)->bN h' TO x y v->eR h' b1 i1 l1 (k1+1)->eR h' b2 i2 l2 (k2+1)->eR h' b3 i3 l3 (k3+1)->bN h' s.heap.objs.size x y v->h'.objs.size=s.heap.objs.size+1 ->
   (∀ c o,c≠z->c≠TO->c≠i1->c≠i2->c≠i3->s.heap.get? c=some o->h'.get? c=some o)->Q (some (.ref s.heap.objs.size)) { s with heap:=h' }) :
  wpAny (model prog w) A (pyNext (.ref z)) Q E s:=by
 have hT:s.TypeIs (.ref z) "zip" := ⟨_,hz,rfl⟩
 unfold pyNext
 exact wpAny_bind (wpAny_attempt (wpAny_callSpecial?_slot (name:=Str.ofString "__next__") hT F.slot_zip_next
  (wpAny_call_entry F.slot_zip_next hT F.entry_zip_next
   (y4 D D1 D2 D3 hz Nr Nv h1 h2 h3 N5 N6 O9 hx hy hv λh' a1 a2 a3 a4 a5 a6 a7 a8=>wpAny_pure (hQ h' a1 a2 a3 a4 a5 a6 a7 a8)) (F.args_zip_next_1 _))))
theorem nV{Q:Option Value->Shared->Prop}(hh:A.handled=none)(D:Z3 z TI TO i1 i2 i3)(D1:L3 z TO i1 i2 i3 l1)(D2:L3 z TO i1 i2 i3 l2)(D3:L3 z TO i1 i2 i3 l3)
  (hz:IsZip s.heap z TI TO .none) (Nr:bN s.heap TI (.ref i1) (.ref i2) (.ref i3)) (Nv:bN s.heap TO a b c)
  (h1:eR s.heap b1 i1 l1 k1) (h2:eR s.heap b2 i2 l2 k2) (h3:eR s.heap b3 i3 l3 k3) (N5:gk s.heap b1 l1 xs) (N6:gk s.heap b2 l2 ys) (O9:gk s.heap b3 l3 zs) (Oc:xs[k1]?=none\/ys[k2]?=none\/zs[k3]?=none)
  (hQ:∀ h',(∀ c o,c≠z->c≠TO->c≠i1->c≠i2->c≠i3->s.heap.get? c=some o->h'.get? c=some o)->Q none { s with heap:=h' }):wpAny (model prog w) A (pyNext (.ref z)) Q E s:=by
 have hT:s.TypeIs (.ref z) "zip" := ⟨_,hz,rfl⟩
 unfold pyNext
 refine wpAny_bind (wpAny_attempt (wpAny_callSpecial?_slot (name:=Str.ofString "__next__") hT F.slot_zip_next
  (wpAny_call_entry F.slot_zip_next hT F.entry_zip_next (BY hh D D1 D2 D3 hz Nr Nv h1 h2 h3 N5 N6 O9 Oc λh' e hk he=>?_) (F.args_zip_next_1 _))))
 obtain⟨o,ho,hc⟩:=he
 refine wpAny_bind (wpAny_isInstance (T := "StopIteration") (b:=true) ⟨o,ho,hc⟩ isSubtype_stop ?_)
 exact wpAny_pure (hQ _ hk)
end
abbrev Kl(h:Heap)(b1 b2 b3:Bool)(l1 l2 l3:Addr):Heap:=(Fm h b1 b2 l1 l2).push (Ep b3 l3)
abbrev Kc(h:Heap)(b1 b2 b3:Bool)(l1 l2 l3:Addr):Heap:=(Kl h b1 b2 b3 l1 l2 l3).push { cls:=.type "tuple", data:=.seq #[.ref h.objs.size,.ref (Hq h b1 l1).objs.size,.ref (Fm h b1 b2 l1 l2).objs.size] }
abbrev Kb(h:Heap)(b1 b2 b3:Bool)(l1 l2 l3:Addr):Heap:=(Kc h b1 b2 b3 l1 l2 l3).push { cls:=.type "tuple", data:=.seq #[.none,.none,.none] }
abbrev Gn(h:Heap)(b1 b2 b3:Bool)(l1 l2 l3:Addr):Heap:=(Kb h b1 b2 b3 l1 l2 l3).push { cls:=.type "zip", data:=.fields #[.none,.bool false,.bool false,.ref (Kl h b1 b2 b3 l1 l2 l3).objs.size,.ref (Kc h b1 b2 b3 l1 l2 l3).objs.size] }
theorem qp(b1 b2 b3:Bool)(l1 l2 l3:Addr)(xs ys zs:Array Value) :
  Meets (Builtin.«zip.__new__» ⟨[.type "zip", .ref l1,.ref l2,.ref l3],[]⟩) (λ_ R s=>gk s.heap b1 l1 xs/\gk s.heap b2 l2 ys/\gk s.heap b3 l3 zs ∧
   R (.ok (.ret (.ref (Kb s.heap b1 b2 b3 l1 l2 l3).objs.size))) { s with heap:=Gn s.heap b1 b2 b3 l1 l2 l3 }) :=
 .of_wp λprog w A R s h=>by
  obtain⟨hp,g,d,tk,os⟩:=s;obtain⟨N5,N6,O9,h⟩:=h
  have Qr:=sub_zip
  have hL1:gk (Shared.heap ⟨hp,g,d,tk,os⟩) b1 l1 xs:=N5
  have hL2:gk (Shared.heap ⟨hp.push (Ep b1 l1),g,d,tk,os⟩) b2 l2 ys:=gk.push N6 _
  have hL3:gk (Shared.heap ⟨(hp.push (Ep b1 l1)).push (Ep b2 l2),g,d,tk,os⟩) b3 l3 zs:=gk.push (gk.push O9 _) _
  wp_walk using gb hL1,gb hL2,gb hL3
  exact⟨_,rfl,h⟩
section
variable{prog:Program}{w:World}{A:Around}{E:Value->Shared->Prop}{s:Shared}
theorem yD{b1 b2 b3:Bool}{l1 l2 l3:Addr}{xs ys zs:Array Value}{Q:Value->Shared->Prop}(N5:gk s.heap b1 l1 xs)(N6:gk s.heap b2 l2 ys)(O9:gk s.heap b3 l3 zs)
  (h:∀ h',IsZip h' (s.heap.objs.size+5) (s.heap.objs.size+3) (s.heap.objs.size+4) .none->bN h' (s.heap.objs.size+3) (.ref s.heap.objs.size) (.ref (s.heap.objs.size+1)) (.ref (s.heap.objs.size+2)) ->
   bN h' (s.heap.objs.size+4) .none .none .none->eR h' b1 s.heap.objs.size l1 0->eR h' b2 (s.heap.objs.size+1) l2 0->eR h' b3 (s.heap.objs.size+2) l3 0 ->
   (∀ c o,s.heap.get? c=some o->h'.get? c=some o)->Q (.ref (s.heap.objs.size+5)) { s with heap:=h' }) :
  wpAny (model prog w) A (call (.type "zip") [.ref l1,.ref l2,.ref l3]) Q E s:=by
 refine callType_new F.called_zip (by decide) (pU _ _ _) (qP _ _ _) (λobj=>F.initArgs_range_3 obj _ _ _) F.entry_zip_new
  (qp b1 b2 b3 l1 l2 l3 xs ys zs) ⟨N5,N6,O9,?_⟩
 have z1:(Hq s.heap b1 l1).objs.size=s.heap.objs.size+1:=Heap.size_push ..
 have z2:(Fm s.heap b1 b2 l1 l2).objs.size=s.heap.objs.size+2:=by rw[Heap.size_push,z1]
 have z3:(Kl s.heap b1 b2 b3 l1 l2 l3).objs.size=s.heap.objs.size+3:=by rw[Heap.size_push,z2]
 have z4:(Kc s.heap b1 b2 b3 l1 l2 l3).objs.size=s.heap.objs.size+4:=by rw[Heap.size_push,z3]
 have z5:(Kb s.heap b1 b2 b3 l1 l2 l3).objs.size=s.heap.objs.size+5:=by rw[Heap.size_push,z4]
 have g6:(Gn s.heap b1 b2 b3 l1 l2 l3).get? (Kb s.heap b1 b2 b3 l1 l2 l3).objs.size=some _:=Heap.get?_push_size _ rfl
 have g5:(Gn s.heap b1 b2 b3 l1 l2 l3).get? (Kc s.heap b1 b2 b3 l1 l2 l3).objs.size=some _:=Heap.get?_push_of_some _ (Heap.get?_push_size _ rfl)
 have g4:(Gn s.heap b1 b2 b3 l1 l2 l3).get? (Kl s.heap b1 b2 b3 l1 l2 l3).objs.size=some _:=Heap.get?_push_of_some _ (Heap.get?_push_of_some _ (Heap.get?_push_size _ rfl))
 have g3:(Gn s.heap b1 b2 b3 l1 l2 l3).get? (Fm s.heap b1 b2 l1 l2).objs.size=some _:=Heap.get?_push_of_some _ (Heap.get?_push_of_some _ (Heap.get?_push_of_some _ (Heap.get?_push_size _ rfl)))
 have g2:(Gn s.heap b1 b2 b3 l1 l2 l3).get? (Hq s.heap b1 l1).objs.size=some _:=Heap.get?_push_of_some _ (Heap.get?_push_of_some _ (Heap.get?_push_of_some _ (Heap.get?_push_of_some _ (Heap.get?_push_size _ rfl))))
 have g1:(Gn s.heap b1 b2 b3 l1 l2 l3).get? s.heap.objs.size=some _:=Heap.get?_push_of_some _ (Heap.get?_push_of_some _ (Heap.get?_push_of_some _ (Heap.get?_push_of_some _ (Heap.get?_push_of_some _ (Heap.get?_push_size _ rfl)))))
 show _/\_
 rw[z3,z4,z5] at g6
 rw[z1,z2,z3] at g4
 rw[z4] at g5
 rw[z2] at g3
 rw[z1] at g2
 rw[z5]
 exact⟨⟨_,g6,rfl⟩,h _ g6 g4 g5 (eR.new _ b1 _ _ g1) (eR.new _ b2 _ _ g2) (eR.new _ b3 _ _ g3) λc o x =>
  Heap.get?_push_of_some _ (Heap.get?_push_of_some _ (Heap.get?_push_of_some _ (Heap.get?_push_of_some _ (Heap.get?_push_of_some _ (Heap.get?_push_of_some _ x)))))⟩
end
def Ln (K : PySem.W.Frag) (b1 b2 b3 : Bool) (a1 a2 a3 : Addr) : It :=
  ⟨λi H => ∃ xs ys zs x y v, kI K H b1 a1 xs /\ kI K H b2 a2 ys /\ kI K H b3 a3 zs /\ xs[i]? = some x /\ ys[i]? = some y /\ zs[i]? = some v,
   λi H r H' => ∃ p x y v, H p = none /\ r = .ref p /\ H' = upd H p (.tup [x, y, v]) /\ (∀ xs, kI K H b1 a1 xs -> xs[i]? = some x) /\ (∀ ys, kI K H b2 a2 ys -> ys[i]? = some y) /\ (∀ zs, kI K H b3 a3 zs -> zs[i]? = some v),
   λi H => ∃ xs ys zs, kI K H b1 a1 xs /\ kI K H b2 a2 ys /\ kI K H b3 a3 zs /\ (xs.length <= i \/ ys.length <= i \/ zs.length <= i)⟩
theorem rF{X:Cx}{MG:List (Addr×Obj)}{σ:St}{H:Hp}{s:Shared}{b:Bool}{z TI TO i1 i2 i3 a:Addr}{xs:List V}(I:Inv X MG σ H s)(h:kI X.K H b a xs)(hf:∀ b∈[z,TO,i1,i2,i3,TI],lF X MG H b):L3 z TO i1 i2 i3 a :=
 ⟨cN I h (hf z (by simp)),cN I h (hf TO (by simp)),cN I h (hf i1 (by simp)),cN I h (hf i2 (by simp)),cN I h (hf i3 (by simp))⟩
theorem zz{P:Program}{w:World}{K:PySem.W.Frag}{elts:List Expr}{x1:Nat}{tp:Pos}(b1 b2 b3:Bool)(a1 a2 a3 z TI TO i1 i2 i3:Addr)(D:Z3 z TI TO i1 i2 i3) :
  Turn P w K (.Tuple elts x1 tp) (Ln K b1 b2 b3 a1 a2 a3) [z,TO,i1,i2,i3,TI] z (λi h=>IsZip h z TI TO .none/\bN h TI (.ref i1) (.ref i2) (.ref i3)/\(∃ a b c,bN h TO a b c)/\eR h b1 i1 a1 i/\eR h b2 i2 a2 i/\eR h b3 i3 a3 i) where
 mem:=by simp
 obj:=λi h st b hb=>by
  obtain⟨hz,Nr,⟨a,c,d,Nv⟩,h1,h2,h3⟩:=st
  simp only[List.mem_cons,List.mem_nil_iff,or_false] at hb
  rcases hb with q | q | q | q | q | q <;> subst q
  ·exact⟨_,hz,λv z=>by cases z⟩
  ·exact⟨_,Nv,λv z=>by cases z⟩
  ·obtain⟨o,vs,e,d⟩:=h1.obj
   exact⟨o,e,λv z=>by rw[d] at z;cases z⟩
  ·obtain⟨o,vs,e,d⟩:=h2.obj
   exact⟨o,e,λv z=>by rw[d] at z;cases z⟩
  ·obtain⟨o,vs,e,d⟩:=h3.obj
   exact⟨o,e,λv z=>by rw[d] at z;cases z⟩
  ·exact⟨_,Nr,λv z=>by cases z⟩
 keep:=λi h h' st k=>by
  obtain⟨hz,Nr,⟨a,c,d,Nv⟩,h1,h2,h3⟩:=st
  exact⟨k z (by simp) _ hz,k TI (by simp) _ Nr,⟨a,c,d,k TO (by simp) _ Nv⟩,h1.at λo e=>k i1 (by simp) o e,h2.at λo e=>k i2 (by simp) o e,h3.at λo e=>k i3 (by simp) o e⟩
 item:=by
  intro X hP hw hK hc i MG s σ H E I hf st hg
  subst hP hw hK
  obtain⟨xs,ys,zs,x,y,v,Nt,Nk,OI,hx,hy,hv⟩:=hg
  obtain⟨Pd,Pz,p1,Qu⟩:=I.row Nt
  obtain⟨Oq,PB,p2,Qw⟩:=I.row Nk
  obtain⟨Qz,rv3,p3,hz3'⟩:=I.row OI
  obtain⟨u1,hu1,ru1⟩:=Pz.get hx
  obtain⟨u2,hu2,ru2⟩:=PB.get hy
  obtain⟨u3,hu3,ru3⟩:=rv3.get hv
  obtain⟨hz,Nr,⟨a,c,d,Nv⟩,h1,h2,h3⟩:=st
  obtain⟨oi1,vs1,Qe,di1⟩:=h1.obj
  obtain⟨oi2,vs2,Qf,di2⟩:=h2.obj
  obtain⟨oi3,vs3,ei3,di3⟩:=h3.obj
  refine mn D (rF I Nt hf) (rF I Nk hf) (rF I OI hf) hz Nr Nv h1 h2 h3 p1 p2 p3 (x:=u1) (y:=u2) (v:=u3) (by simpa using hu1) (by simpa using hu2) (by simpa using hu3) λh' g1 g2 g3 g4 g4' g5 g6 g7=>⟨_,rfl,?_⟩
  refine wpAny_letOwnedTupleGo_zip (s:={ s with heap:=h' }) g1 λhN hz3 OP=>?_
  have N7:H s.heap.objs.size=none:=I.bM.fresh (Nat.le_refl _)
  have lt:∀ {c:Addr} {o:Obj},s.heap.get? c=some o->c≠s.heap.objs.size:=λe=>Nat.ne_of_lt (Heap.lt_size e)
  have Pf:∀ b o,b ∉ [z,TO,i1,i2,i3,TI]->s.heap.get? b=some o->hN.get? b=some o:=λb o hb q=>by
   simp only[List.mem_cons,List.mem_nil_iff,or_false,not_or] at hb
   exact(OP.2 b hb.1).trans (g7 b o hb.1 hb.2.1 hb.2.2.1 hb.2.2.2.1 hb.2.2.2.2.1 q)
  have hT3:hN.get? s.heap.objs.size=some { cls:=.type "tuple", data:=.seq #[u1,u2,u3] }:=(OP.2 _ (lt hz).symm).trans g5
  have I3:Inv X MG σ (upd H s.heap.objs.size (.tup [x,y,v])) { s with heap:=hN,toks:=s.toks } :=
   I.kf (ch:=[z,TO,i1,i2,i3,TI]) Pf hf (Nat.le_refl _) (λb hb=>by
    simp only[List.mem_cons,List.mem_nil_iff,or_false] at hb
    rcases hb with q | q | q | q | q | q <;> subst q
    ·exact⟨_,hz⟩
    ·exact⟨_,Nv⟩
    ·exact⟨_,Qe⟩
    ·exact⟨_,Qf⟩
    ·exact⟨_,ei3⟩
    ·exact⟨_,Nr⟩)
    ⟨by show 3<=sizeLine;decide,[u1,u2,u3],.cons ru1 (.cons ru2 (.cons ru3 .nil)),⟨_,hT3,rfl,_,rfl⟩⟩
  refine⟨.ref s.heap.objs.size,_,I3,rfl,⟨_,x,y,v,N7,rfl,rfl,λzs' Py=>by rw[I.lO Py Nt];exact hx,λzs' Py=>by rw[I.lO Py Nk];exact hy,λzs' Py=>by rw[I.lO Py OI];exact hv⟩,
   ⟨hz3,(OP.2 TI D.TIz).trans (g7 TI _ D.TIz D.TITO D.TIi1 D.TIi2 D.KQ Nr),⟨_,_,_,(OP.2 TO D.TOz).trans g2⟩,g3.at λo e=>(OP.2 i1 D.i1z).trans e,g4.at λo e=>(OP.2 i2 D.i2z).trans e,g4'.at λo e=>(OP.2 i3 D.Ir).trans e⟩,λb hb=>?_⟩
  have nb:b≠s.heap.objs.size:=by
   simp only[List.mem_cons,List.mem_nil_iff,or_false] at hb
   rcases hb with q | q | q | q | q | q <;> subst q
   ·exact lt hz
   ·exact lt Nv
   ·exact lt Qe
   ·exact lt Qf
   ·exact lt ei3
   ·exact lt Nr
  rw[aw nb]
  exact(hf b hb).1
 done:=by
  intro X hP hw hK hc i MG s σ H E I hf st hg
  subst hP hw hK
  obtain⟨xs,ys,zs,Nt,Nk,OI,Oc⟩:=hg
  obtain⟨Pd,Pz,p1,Qu⟩:=I.row Nt
  obtain⟨Oq,PB,p2,Qw⟩:=I.row Nk
  obtain⟨Qz,rv3,p3,hz3'⟩:=I.row OI
  obtain⟨hz,Nr,⟨a,c,d,Nv⟩,h1,h2,h3⟩:=st
  have l1:=Pz.length
  have l2:=PB.length
  have l3:=rv3.length
  refine nV (I.ok.hd hc) D (rF I Nt hf) (rF I Nk hf) (rF I OI hf) hz Nr Nv h1 h2 h3 p1 p2 p3 ?_ λh' k=>⟨rfl,?_⟩
  ·rcases Oc with q | q | q
   ·exact .inl (by simp;omega)
   ·exact .inr (.inl (by simp;omega))
   ·exact .inr (.inr (by simp;omega))
  ·exact I.xr (t':=s.toks) (ch:=[z,TO,i1,i2,i3,TI]) (λb u hb e=>by
    simp only[List.mem_cons,List.mem_nil_iff,or_false,not_or] at hb
    exact k b u hb.1 hb.2.1 hb.2.2.1 hb.2.2.2.1 hb.2.2.2.2.1 e) hf
 self:=λ_ _ _ _ _ st h=>by
  obtain⟨hz,_⟩:=st
  exact wpAny_pyIter_zip hz h
theorem Eo(n:Nat):Z3 (n+5) (n+3) (n+4) n (n+1) (n+2):=by
 refine⟨?_,?_,?_,?_,?_,?_,?_,?_,?_,?_,?_,?_,?_,?_,?_⟩ <;> (show @Ne Nat _ _;omega)
section
variable{X:Cx}
def EJ(K:PySem.W.Frag)(tl:TA):TI:=fun σ H R=>tl σ H λvs H1=>∃ b1 b2 b3 a1 a2 a3,vs=[.ref a1,.ref a2,.ref a3]/\(∃ xs,kI K H1 b1 a1 xs)/\(∃ ys,kI K H1 b2 a2 ys)/\(∃ zs,kI K H1 b3 a3 zs)/\R (Ln K b1 b2 b3 a1 a2 a3) H1
theorem xU{elts:List Expr}{x1:Nat}{tp:Pos}{l1 l2 l3:Expr}{tl:TA}{p pos:Pos}(hg:Gl X "zip")(hm:X.mg "zip" = none)(hl:PA X [l1,l2,l3] tl)(hs:autoParam (starEach [l1,l2,l3] X.env=[(false,eval l1 X.env),(false,eval l2 X.env),(false,eval l3 X.env)]) aR._auto_1)(N8:autoParam (starEach [l2,l3] X.env=[(false,eval l2 X.env),(false,eval l3 X.env)]) aR._auto_1) :
  PI X (.Tuple elts x1 tp) (.Call (.Name "zip" p) [l1,l2,l3] [] pos) (EJ X.K tl):=by
 intro MG s σ H R I h
 refine Call_ (jH I hg hm PyProof.Rows.boot_zip (PyProof.Rows.callWith_type1 (c6 (hl pos MG s σ H _ I h) λus s1 ⟨vs,H1,I1,r1,q1⟩=>?_) (by rw[hs,N8]) (by rw[N8];rfl)))
 obtain⟨b1,b2,b3,a1,a2,a3,e,⟨xs,Nt⟩,⟨ys,Nk⟩,⟨zs,OI⟩,q⟩:=q1
 subst e
 cases r1 with
 | cons r rr =>
  cases rr with
  | cons r' rr =>
   cases rr with
   | cons QC rr =>
    cases rr
    cases (show _=Value.ref a1 from r)
    cases (show _=Value.ref a2 from r')
    cases (show _=Value.ref a3 from QC)
    obtain⟨Pd,Pz,p1,Qu⟩:=I1.row Nt
    obtain⟨Oq,PB,p2,Qw⟩:=I1.row Nk
    obtain⟨Qz,rv3,p3,hz3⟩:=I1.row OI
    refine yD p1 p2 p3 λh' g1 g2 g3 g4 g5 g6 g7=>?_
    have I2:Inv X MG σ H1 { s1 with heap:=h' }:=I1.kept (t':=s1.toks) g7
    refine wpAny_pyIter_zip (s:={ s1 with heap:=h' }) g1 ?_
    refine⟨s1.heap.objs.size+5,[s1.heap.objs.size+5,s1.heap.objs.size+4,s1.heap.objs.size,s1.heap.objs.size+1,s1.heap.objs.size+2,s1.heap.objs.size+3],_,_,H1,rfl,I2,
     zz b1 b2 b3 a1 a2 a3 _ _ _ _ _ _ (Eo s1.heap.objs.size),⟨g1,g2,⟨_,_,_,g3⟩,g4,g5,g6⟩,λb hb=>?_,q⟩
    have hle:s1.heap.objs.size<=b:=by
     simp only[List.mem_cons,List.mem_nil_iff,or_false] at hb
     rcases hb with q | q | q | q | q | q
     ·rw[q];exact Nat.le_add_right _ 5
     ·rw[q];exact Nat.le_add_right _ 4
     ·rw[q];exact Nat.le_refl _
     ·rw[q];exact Nat.le_add_right _ 1
     ·rw[q];exact Nat.le_add_right _ 2
     ·rw[q];exact Nat.le_add_right _ 3
    exact I1.t6 hle (I1.bM.fresh hle)
end
end L2
namespace L2
open PySem PySem.Spec PyProof.Rows
section
variable{M:Model}{A:Around}{E:Value->Shared->Prop}{s:Shared}
theorem rA{base:Heap}{env:Env}{outer:List Env}{L e:Addr}{oe:Obj}{vs:Array Value}{head:Value}{Pr:Bool}{Q:Unit->Shared->Prop}
  (O8:A.frames=some (env::outer)) (hl:s.heap.FunFrames base (env::outer)) (hf:env.frame=some L)
  (he:s.heap.get? e=some oe) (hd:oe.data=.fields vs) (Oe:1<vs.size)
  (h:∀ h' T oT ts,h'.get? e=some (Obj.mapFields (·.setIfInBounds 1 (.ref T)) oe)->s.heap.objs.size<=T->T≠e->h'.get? T=some oT->oT.data=.fields ts->ts[3]?=some (rawInt L) ->
   (∀ b o,b≠e->b ∉ vX (env::outer)->s.heap.get? b=some o->h'.get? b=some o)->(∀ b o,b≠e->s.heap.get? b=some o->∃ sl,h'.get? b=some { o with slots:=sl })->Q () { s with heap:=h' }) :
  wpAny M A (do let a ← frameOf env;let pl ← entryPlaceOf L Pr;let b ← EntryCells.newEntry head a .none (rawInt L) .none pl;setField (.ref e) 1 b) Q E s:=by
 have hene:e ∉ (env::outer).filterMap (·.frame):=λhm=>by
  obtain⟨_,o,ho,Qo⟩:=hl.mem hm
  rw[he] at ho;injection ho with ho;subst ho;exact Qo vs hd
 refine wpAny_bind (wpAny_frameOf_fun O8 hl hf λh₁ hs1=>?_)
 refine wpAny_bind (wpAny_entryPlaceOf λpl Nh=>?_)
 unfold EntryCells.newEntry newFields
 refine wpAny_bind (wpAny_newObj_type ?_ (Nh.sizeOk5 _ _ _ _ _))
 have he1:h₁.get? e=some oe:=(hs1.2.1 e hene).trans he
 have he₂:=Heap.get?_push_of_some (h:=h₁) { cls:=.type "traceback", dict:=none,data:=.fields ([head,.ref L,.none,rawInt L,.none]++(if pl.isEmpty then List.replicate 6 Value.none else pl)).toArray } he1
 have hTe:h₁.objs.size≠e:=Nat.ne_of_gt (Heap.lt_size he1)
 have hd3:=Obj.data_mapFields hd (·.setIfInBounds 1 (Value.ref h₁.objs.size))
 have he3:=Heap.get?_update_self (Obj.mapFields (·.setIfInBounds 1 (Value.ref h₁.objs.size))) he₂ (Obj.isFreed_of_fields hd3)
 have hT₃:=(Heap.get?_update_other (h₁.push { cls:=.type "traceback", dict:=none,data:=.fields ([head,.ref L,.none,rawInt L,.none]++(if pl.isEmpty then List.replicate 6 Value.none else pl)).toArray })
  (Obj.mapFields (·.setIfInBounds 1 (Value.ref h₁.objs.size))) (Ne.symm hTe)).trans (Heap.get?_push_size h₁ rfl)
 have keep:∀ b o,b≠e->h₁.get? b=some o ->
   ((h₁.push { cls:=.type "traceback", dict:=none,data:=.fields ([head,.ref L,.none,rawInt L,.none]++(if pl.isEmpty then List.replicate 6 Value.none else pl)).toArray }).update e (Obj.mapFields (·.setIfInBounds 1 (Value.ref h₁.objs.size)))).get? b=some o:=λb o OW hb=>by
  rw[Heap.get?_update_other _ _ (Ne.symm OW)]
  exact Heap.get?_push_of_some _ hb
 refine wpAny_setField he₂ hd Oe (h _ h₁.objs.size _ _ he3 ?_ hTe hT₃ rfl (by first | (simp;done) | (rcases Nh with rfl | ⟨_,_,_,_,_,_,_,rfl⟩ <;> simp)) ?_ ?_)
 ·exact Nat.le_of_eq hs1.1.symm
 ·intro b o OW hbf hb
  exact keep b o OW ((hs1.2.1 b hbf).trans hb)
 ·intro b o OW hb
  obtain⟨sl,hs⟩:=hs1.2.2 b o hb
  exact⟨sl,keep b _ OW hs⟩
def Lies(h:Heap)(e:Addr)(vs:Array Value)(to:Option Addr):Prop:=match to with
 | none=>vs[1]?=some .none
 | some T=>vs[1]?=some (.ref T)/\T≠e/\∃ oT ts,h.get? T=some oT/\oT.data=.fields ts/\ts[3]?=some .none
theorem zM{base:Heap}{env:Env}{outer:List Env}{L e:Addr}{oe:Obj}{vs:Array Value}{to:Option Addr}{Q:Unit->Shared->Prop}
  (O8:A.frames=some (env::outer)) (hl:s.heap.FunFrames base (env::outer)) (hf:env.frame=some L)
  (he:s.heap.get? e=some oe) (hd:oe.data=.fields vs) (hto:Lies s.heap e vs to)
  (h:∀ h' T oT ts,h'.get? e=some (Obj.mapFields (·.setIfInBounds 1 (.ref T)) oe)->s.heap.objs.size<=T->T≠e->h'.get? T=some oT->oT.data=.fields ts->ts[3]?=some (rawInt L) ->
   (∀ b o,b≠e->(∀ T,to=some T->b≠T)->b ∉ vX (env::outer)->s.heap.get? b=some o->h'.get? b=some o) ->
   (∀ b o,b≠e->(∀ T,to=some T->b≠T)->s.heap.get? b=some o->∃ sl,h'.get? b=some { o with slots:=sl })->(∀ b o,s.heap.get? b=some o->∃ o',h'.get? b=some o')->Q () { s with heap:=h' }) :
  wpAny M A (noteFrame (.ref e) env) Q E s:=by
 unfold noteFrame
 simp only[hf]
 cases to with
 | none =>
  have h1:vs[1]?=some .none:=hto
  refine wpAny_bind (wpAny_field he hd h1 ?_)
  rw[if_neg (by decide)]
  refine rA O8 hl hf he hd (Array.getElem?_eq_some_iff.mp h1).1 λh' T oT ts a1 a2 a3 a4 a5 a6 a7 a8=>?_
  refine h h' T oT ts a1 a2 a3 a4 a5 a6 (λb o n1 _ n2 q=>a7 b o n1 n2 q) (λb o n1 _ q=>a8 b o n1 q) λb o q=>?_
  by_cases z:b=e
  ·subst z;exact⟨_,a1⟩
  ·obtain⟨sl,r⟩:=a8 b o z q;exact⟨_,r⟩
 | some T0 =>
  obtain⟨h1,hTe,oT,ts,hT,hdT,h3⟩:=hto
  refine wpAny_bind (wpAny_field he hd h1 ?_)
  rw[if_pos (show (Value.ref T0 != Value.none)=true from by simp)]
  refine wpAny_bind (wpAny_field hT hdT h3 ?_)
  rw[if_neg (show ¬ ((Value.none==rawInt L)=true) from by simp[rawInt])]
  refine wpAny_bind (wpAny_setField hT hdT (Array.getElem?_eq_some_iff.mp h3).1 ?_)
  have other:∀ b,b≠T0->(s.heap.update T0 (Obj.mapFields (·.setIfInBounds 3 Value.none))).get? b=s.heap.get? b:=λb hb=>Heap.get?_update_other _ _ (Ne.symm hb)
  have Pj:∀ b o,s.heap.get? b=some o->(∀ vs,o.data≠.fields vs)->b≠T0:=λb o hb Qo q=>by
   rw[q,hT] at hb;injection hb with hb;subst hb;exact Qo ts hdT
  have Pq:=Heap.get?_update_self (Obj.mapFields (·.setIfInBounds 3 Value.none)) hT (Obj.isFreed_of_fields (Obj.data_mapFields hdT _))
  refine rA O8 (hl.of_keeps λb o hb Qo=>⟨o,(other b (Pj b o hb Qo)).trans hb,rfl⟩) hf ((other e (Ne.symm hTe)).trans he) hd (Array.getElem?_eq_some_iff.mp h1).1 λh' T oT' ts' a1 a2 a3 a4 a5 a6 a7 a8=>?_
  refine h h' T oT' ts' a1 (by simpa [Heap.update] using a2) a3 a4 a5 a6 (λb o n1 n2 n3 q=>a7 b o n1 n3 ((other b (n2 T0 rfl)).trans q)) (λb o n1 n2 q=>a8 b o n1 ((other b (n2 T0 rfl)).trans q)) λb o q=>?_
  by_cases z:b=e
  ·subst z;exact⟨_,a1⟩
  ·by_cases z2:b=T0
   ·subst z2
    obtain⟨sl,r⟩:=a8 b _ z Pq;exact⟨_,r⟩
   ·obtain⟨sl,r⟩:=a8 b o z ((other b z2).trans q);exact⟨_,r⟩
end
end L2
namespace L2
open PySem PySem.Spec PyProof.Rows
def kG(C:Addr)(dd:Option Addr)(e:Addr):HO:=.ext λh=>∃ t,h.get? e=some ⟨.ref C,dd,.fields #[.ref t,.none,.none,.none,.bool false,.none],#[]⟩
def IH(C:Addr)(dd:Option Addr)(e T:Addr):HO:=.ext λh=>∃ vs,h.get? e=some ⟨.ref C,dd,.fields vs,#[]⟩/\vs[1]?=some (.ref T)
def L6(fl:Value)(T:Addr):HO:=.ext λh=>∃ oT ts,h.get? T=some oT/\oT.data=.fields ts/\ts[3]?=some fl
def oR(Hc:Hp)(e T C:Addr)(dd:Option Addr)(fl:Value):Hp:=upd (upd Hc T (L6 fl T)) e (IH C dd e T)
theorem uM{Hc:Hp}{e T C:Addr}{dd:Option Addr}{fl:Value}:oR Hc e T C dd fl e=some (IH C dd e T):=aB
theorem si{Hc:Hp}{e T C:Addr}{dd:Option Addr}{fl:Value}(n:T≠e):oR Hc e T C dd fl T=some (L6 fl T):=by unfold oR;rw[aw n,aB]
theorem l9{Hc:Hp}{e T C b:Addr}{dd:Option Addr}{fl:Value}(n:b≠e)(n2:b≠T):oR Hc e T C dd fl b=Hc b:=by unfold oR;rw[aw n,aw n2]
section
variable{X:Cx}{MG:List (Addr×Obj)}{σ:St}{H:Hp}{s:Shared}
theorem Inv.note{Hc:Hp}{e C:Addr}{dd:Option Addr}{to:Option Addr}{vs:Array Value}{φ:Heap->Prop}{Q:Unit->Shared->Prop}{E:Value->Shared->Prop}(I:Inv X MG σ H s)(Nc:X.stack=X.env::X.outer)(hf:X.env.frame=some X.env.locals)
  (he:H e=some (.ext φ)) (hx:s.heap.get? e=some ⟨.ref C,dd,.fields vs,#[]⟩) (lies:Lies s.heap e vs to) (hT:∀ T,to=some T->(∃ ψ,H T=some (.ext ψ))/\Hc T=none) (hc:∀ b,b≠e->(∀ T,to=some T->b≠T)->Hc b=H b)
  (h:∀ h' T,Hc T=none->T≠e->Inv X MG σ (oR Hc e T C dd (rawInt X.env.locals)) { s with heap:=h' }->Q () { s with heap:=h' }) :
  wpAny (model X.prog X.w) X.A (noteFrame (.ref e) X.env) Q E s:=by
 have hl:=I.stack
 have O8:=I.ok.frames
 have sf:=I.tJ
 rw[Nc] at hl O8 sf
 refine zM (base:=X.base) O8 hl hf hx rfl lies λh' T oT ts a1 a2 a3 a4 a5 a6 a7 a8 a9=>?_
 have hTn:H T=none:=I.bM.fresh a2
 have nT:∀ b u,H b=some u->b≠T:=λb u q z=>by rw[z,hTn] at q;cases q
 have O2:∀ b u,H b=some u->(∀ ψ,u≠.ext ψ)->b≠e/\∀ T0,to=some T0->b≠T0:=by
  intro b u q hu
  refine⟨λz=>?_,λT0 z w=>?_⟩
  ·rw[z,he] at q;exact hu _ (Option.some.inj q).symm
  ·obtain⟨⟨ψ,q2⟩,_⟩:=hT T0 z
   rw[w,q2] at q;exact hu _ (Option.some.inj q).symm
 have old:∀ b u,H b=some u->(∀ ψ,u≠.ext ψ)->oR Hc e T C dd (rawInt X.env.locals) b=some u:=λb u q hu=>by
  obtain⟨n1,n2⟩:=O2 b u q hu
  rw[l9 n1 (nT b u q),hc b n1 n2];exact q
 have hcT:Hc T=none:=by
  by_cases z:∃ T0,to=some T0/\T=T0
  ·obtain⟨T0,z1,z2⟩:=z;rw[z2];exact(hT T0 z1).2
  ·rw[hc T a3 λT0 z1 z2=>z ⟨T0,z1,z2⟩];exact hTn
 have un:∀ b o,s.heap.get? b=some o->H b=none->b≠e/\(∀ T0,to=some T0->b≠T0)/\b≠T:=by
  intro b o q n
  refine⟨λz=>?_,λT0 z w=>?_,Nat.ne_of_lt (Nat.lt_of_lt_of_le (Heap.lt_size q) a2)⟩
  ·rw[z,he] at n;cases n
  ·obtain⟨⟨ψ,q2⟩,_⟩:=hT T0 z
   rw[w,q2] at n;cases n
 refine h h' T hcT a3 ?_
 have U:Un (vX X.stack) [] H (oR Hc e T C dd (rawInt X.env.locals)) s.heap h':=by
  rw[Nc]
  refine⟨λb o q n nf _=>?_,λb o q n _ _=>?_,λb o q n _=>?_,λb o q _=>a9 b o q,λb xs q=>old b _ q (λ_ z=>nomatch z),λb ob u q=>old b _ q (λ_ z=>nomatch z),λb ps q=>⟨#[],?_⟩⟩
  ·obtain⟨n1,n2,_⟩:=un b o q n;exact a7 b o n1 n2 nf q
  ·obtain⟨n1,n2,_⟩:=un b o q n;exact a8 b o n1 n2 q
  ·obtain⟨n1,n2,n3⟩:=un b o q n
   rw[l9 n1 n3,hc b n1 n2];exact n
  ·rw[old b _ q (λ_ z=>nomatch z)];simp
 have ok:mU X.prog X.w (oR Hc e T C dd (rawInt X.env.locals)) h':=λb u q=>by
  by_cases z:b=e
  ·subst z
   rw[uM] at q;cases q
   refine⟨⟨_,a1,?_⟩,⟨_,a1⟩,λh1 h2 ⟨ws,q1,q2⟩ k=>⟨ws,k _ q1,q2⟩⟩
   have Oe:1<vs.size:=by
    cases to with
    | none=>exact(Array.getElem?_eq_some_iff.mp (show vs[1]?=some .none from lies)).1
    | some T0=>exact(Array.getElem?_eq_some_iff.mp lies.1).1
   simp[Oe]
  ·by_cases z2:b=T
   ·subst z2
    rw[si a3] at q;cases q
    exact⟨⟨oT,ts,a4,a5,a6⟩,⟨_,a4⟩,λh1 h2 ⟨o1,t1,q1,q2,q3⟩ k=>⟨o1,t1,k _ q1,q2,q3⟩⟩
   ·rw[l9 z z2] at q
    have z3:∀ T0,to=some T0->b≠T0:=λT0 w w2=>by rw[w2,(hT T0 w).2] at q;cases q
    rw[hc b z z3] at q
    have nf:∀ c u',H c=some u'->c ∉ vX (X.env::X.outer):=λc u' q' hm=>by have:=sf c hm;rw[q'] at this;cases this
    refine(I.bM b u q).nO (λc v Pt q'=>?_) (λc q'=>old c _ q' (λ_ z=>nomatch z)) λc xs q'=>old c _ q' (λ_ z=>nomatch z)
    rcases Pt with rfl | Pt
    ·exact a7 c v z z3 (nf c u q) q'
    ·obtain⟨n1,n2⟩:=O2 c _ Pt (λ_ z=>nomatch z)
     exact a7 c v n1 n2 (nf c _ Pt) q'
 exact I.call (ch:=[]) U ok I.bare (λb z=>absurd z (by simp))
theorem Inv.GI{Hc:Hp}{e T C:Addr}{dd:Option Addr}{fl:Value}(I:Inv X MG σ (oR Hc e T C dd fl) s)(n:T≠e):∃ vs oT ts,s.heap.get? e=some ⟨.ref C,dd,.fields vs,#[]⟩/\vs[1]?=some (.ref T)/\s.heap.get? T=some oT/\oT.data=.fields ts/\ts[3]?=some fl:=by
 obtain⟨vs,h1,h2⟩:=(I.bM e _ uM).1
 obtain⟨oT,ts,q⟩:=(I.bM T _ (si n)).1
 exact⟨vs,oT,ts,h1,h2,q⟩
theorem Inv.IG{Hc:Hp}{e T C:Addr}{dd:Option Addr}{fl:Value}{Q:Unit->Shared->Prop}{E:Value->Shared->Prop}(I:Inv X MG σ (oR Hc e T C dd fl) s)(hfl:fl=.none\/fl=rawInt X.env.locals)(n:T≠e)(hcT:Hc T=none)(Nc:X.stack=X.env::X.outer)(hf:X.env.frame=some X.env.locals)
  (h:∀ h' T,Hc T=none->T≠e->Inv X MG σ (oR Hc e T C dd (rawInt X.env.locals)) { s with heap:=h' }->Q () { s with heap:=h' }) :
  wpAny (model X.prog X.w) X.A (noteFrame (.ref e) X.env) Q E s:=by
 obtain⟨vs,oT,ts,hx,h1,hT,hd,h3⟩:=I.GI n
 rcases hfl with rfl | rfl
 ·refine I.note (Hc:=Hc) (to:=some T) Nc hf uM hx ⟨h1,n,oT,ts,hT,hd,h3⟩ (λT0 z=>?_) (λb n1 n2=>(l9 n1 (n2 T rfl)).symm) h
  cases z
  exact⟨⟨_,si n⟩,hcT⟩
 ·unfold noteFrame
  simp only[hf]
  refine wpAny_bind (wpAny_field hx rfl h1 ?_)
  rw[if_pos (show (Value.ref T != Value.none)=true from by simp)]
  refine wpAny_bind (wpAny_field hT hd h3 ?_)
  rw[if_pos (show (rawInt X.env.locals==rawInt X.env.locals)=true from by simp)]
  exact wpAny_pure (h s.heap T hcT n I)
theorem Inv.J3{e C:Addr}{dd:Option Addr}{Q:Unit->Shared->Prop}{E:Value->Shared->Prop}(I:Inv X MG σ H s)(he:H e=some (kG C dd e))(Nc:X.stack=X.env::X.outer)(hf:X.env.frame=some X.env.locals)
  (h:∀ h' T,upd H e (ju C dd e) T=none->T≠e->Inv X MG σ (oR (upd H e (ju C dd e)) e T C dd (rawInt X.env.locals)) { s with heap:=h' }->Q () { s with heap:=h' }) :
  wpAny (model X.prog X.w) X.A (noteFrame (.ref e) X.env) Q E s:=by
 obtain⟨t,hx⟩:=(I.bM e _ he).1
 exact I.note (Hc:=upd H e (ju C dd e)) (to:=none) Nc hf he hx rfl (λ_ z=>by cases z) (λb n1 _=>aw n1) h
theorem Inv.Bc{Hc:Hp}{e T C:Addr}{dd:Option Addr}{fl:Value}{fr:Option Addr}{Q:Unit->Shared->Prop}{E:Value->Shared->Prop}(I:Inv X MG σ (oR Hc e T C dd fl) s)(n:T≠e)
  (h:∀ h',Inv X MG σ (oR Hc e T C dd (fr.elim .none λf=>rawInt f)) { s with heap:=h' }->Q () { s with heap:=h' }) :
  wpAny (model X.prog X.w) X.A (setFlight (.ref e) fr) Q E s:=by
 obtain⟨vs,oT,ts,hx,h1,hT,hd,h3⟩:=I.GI n
 unfold setFlight
 refine wpAny_bind (wpAny_field hx rfl h1 ?_)
 rw[if_pos (show (Value.ref T != Value.none)=true from by simp)]
 have Oe:3<ts.size:=(Array.getElem?_eq_some_iff.mp h3).1
 refine wpAny_setField hT hd Oe (h _ ?_)
 have other:∀ b,b≠T->(s.heap.update T (Obj.mapFields (·.setIfInBounds 3 (fr.elim Value.none λf=>rawInt f)))).get? b=s.heap.get? b:=λb hb=>Heap.get?_update_other _ _ (Ne.symm hb)
 have Pq:=Heap.get?_update_self (Obj.mapFields (·.setIfInBounds 3 (fr.elim Value.none λf=>rawInt f))) hT (Obj.isFreed_of_fields (Obj.data_mapFields hd _))
 have nT:∀ b,oR Hc e T C dd fl b=none->b≠T:=λb q z=>by rw[z,si n] at q;cases q
 have same:∀ b,b≠T->oR Hc e T C dd (fr.elim .none λf=>rawInt f) b=oR Hc e T C dd fl b:=λb z=>by
  by_cases w:b=e
  ·subst w;rw[uM,uM]
  ·rw[l9 w z,l9 w z]
 have ne:∀ b u,oR Hc e T C dd fl b=some u->(∀ ψ,u≠.ext ψ)->b≠T:=λb u q hu z=>by rw[z,si n] at q;exact hu _ (Option.some.inj q).symm
 refine I.un (t':=s.toks) ⟨λb o q z _ _=>(other b (nT b z)).trans q,λb o q z _ _=>⟨o.slots,(other b (nT b z)).trans q⟩,λb o q z _=>by rw[same b (nT b z)];exact z,λb o q _=>?_,λb xs q=>?_,λb ob u q=>?_,λb ps q=>⟨#[],?_⟩⟩ λb u q=>?_
 ·by_cases z:b=T
  ·subst z;exact⟨_,Pq⟩
  ·exact⟨o,(other b z).trans q⟩
 ·rw[same b (ne b _ q λ_ z=>nomatch z)];exact q
 ·rw[same b (ne b _ q λ_ z=>nomatch z)];exact q
 ·rw[same b (ne b _ q λ_ z=>nomatch z),q];simp
 ·by_cases z:b=T
  ·subst z
   rw[si n] at q;cases q
   refine⟨⟨_,_,Pq,Obj.data_mapFields hd _,?_⟩,⟨_,Pq⟩,λh1 h2 ⟨o1,t1,q1,q2,q3⟩ k=>⟨o1,t1,k _ q1,q2,q3⟩⟩
   simp[Oe]
  ·rw[same b z] at q
   refine(I.bM b u q).nO (λc v hc q'=>(other c ?_).trans q') (λc q'=>?_) λc xs q'=>?_
   ·rcases hc with rfl | hc
    ·exact z
    ·exact ne c _ hc λ_ z=>nomatch z
   ·rw[same c (ne c _ q' λ_ z=>nomatch z)];exact q'
   ·rw[same c (ne c _ q' λ_ z=>nomatch z)];exact q'
end
def bF(P:Program)(w:World):D9:=λouter H s E e s'=>∃ (ea T C:Addr) (dd:Option Addr) (Hc:Hp),e=.ref ea/\s'.os=s.os/\AllBare s'.gens/\Un (vX outer) [] H (oR Hc ea T C dd .none) s.heap s'.heap/\mU P w (oR Hc ea T C dd .none) s'.heap ∧
 Hc ea=some (ju C dd ea)/\Hc T=none/\T≠ea/\E (.ref ea) none Hc
def Zx (X : Cx) (E : St -> XK) (e : Value) (s : Shared) : Prop := ∃ (ea C : Addr) (dd : Option Addr) (MG : List (Addr × Obj)) (σ : St), e = .ref ea ∧
  ((∃ H, Inv X MG σ H s /\ H ea = some (kG C dd ea) /\ E σ (.ref ea) none (upd H ea (ju C dd ea))) ∨
   (∃ Hc T fl, Inv X MG σ (oR Hc ea T C dd fl) s /\ (fl = .none \/ fl = rawInt X.env.locals) /\ Hc ea = some (ju C dd ea) /\ Hc T = none /\ T ≠ ea /\ E σ (.ref ea) none Hc))
theorem Zx.note{X:Cx}{E:St->XK}{e:Value}{s:Shared}{Q:Unit->Shared->Prop}{F:Value->Shared->Prop}(z:Zx X E e s)(Nc:X.stack=X.env::X.outer)(hf:X.env.frame=some X.env.locals)
  (h:∀ s' ea C dd MG σ Hc T,e=.ref ea->Inv X MG σ (oR Hc ea T C dd (rawInt X.env.locals)) s'->Hc ea=some (ju C dd ea)->Hc T=none->T≠ea->E σ (.ref ea) none Hc->Q () s') :
  wpAny (model X.prog X.w) X.A (noteFrame e X.env) Q F s:=by
 obtain⟨ea,C,dd,MG,σ,rfl,⟨H,I,h1,h2⟩ | ⟨Hc,T,fl,I,h1,h2,h3,h4,h5⟩⟩:=z
 ·exact I.J3 h1 Nc hf λh' T q1 q2 I2=>h _ ea C dd MG σ _ T rfl I2 aB q1 q2 h2
 ·exact I.IG h1 h4 h3 Nc hf λh' T q1 q2 I2=>h _ ea C dd MG σ _ T rfl I2 h2 q1 q2 h5
theorem Zx.GJ{X:Cx}{E:XK}{e:Value}{s:Shared}{F:Value->Shared->Prop}(z:Zx X (λ_=>E) e s)(Nc:X.stack=X.env::X.outer)(hf:X.env.frame=some X.env.locals)(hex:X.ex=[]) :
  wpAny (model X.prog X.w) X.A (leaving X.env e) (λ_ s'=>bF X.prog X.w X.outer X.H₀ X.s₀ E e s') F s:=by
 unfold leaving
 refine wpAny_bind (z.note Nc hf λs' ea C dd MG σ Hc T he I h1 h2 h3 h4=>?_)
 subst he
 refine I.Bc h3 λh' I2=>⟨ea,T,C,dd,Hc,rfl,I2.os,I2.bare,?_,I2.bM,h1,h2,h3,h4⟩
 have:=I2.base
 rw[hex] at this
 exact this
theorem Zx.own{X:Cx}{E:St->XK}(Nc:X.stack=X.env::X.outer)(hf:X.env.frame=some X.env.locals):PassesOwn (model X.prog X.w) X.A X.env (Zx X E):=by
 intro e s z
 refine z.note Nc hf λs' ea C dd MG σ Hc T he I h1 h2 h3 h4=>?_
 subst he
 obtain⟨vs,oT,ts,hx,q1,_⟩:=I.GI h3
 show wpAny _ _ _ _ _ _
 refine wpAny_bind (wpAny_field hx rfl q1 ?_)
 rw[if_neg (show ¬ ((Value.ref T==Value.none)=true) from by simp)]
 rw[hf]
 refine I.Bc h3 λh' I2=>⟨ea,C,dd,MG,σ,rfl,.inr ⟨Hc,T,_,I2,.inr rfl,h1,h2,h3,h4⟩⟩
structure fv (X:Cx) (E:St->XK):Prop where
 pass:∀ (MG:List (Addr×Obj)) (σ:St) (H:Hp) (s:Shared) (e:Value) (s':Shared),Inv X MG σ H s->bF X.prog X.w X.stack H s (E σ) e s'->X.xe e s'
 new:∀ (MG:List (Addr×Obj)) (σ:St) (H:Hp) (s:Shared) (e C:Addr) (dd:Option Addr),Inv X MG σ H s->H e=some (kG C dd e)->E σ (.ref e) none (upd H e (ju C dd e))->X.xe (.ref e) s
 own:PassesOwn (model X.prog X.w) X.A X.env X.xe
abbrev Cx.out(X:Cx)(E:St->XK):Cx:=X.qK (Zx X E)
theorem E4{X:Cx}{E:St->XK}(Nc:X.stack=X.env::X.outer)(hf:X.env.frame=some X.env.locals):fv (X.out E) E where
 pass:=by
  intro MG σ H s e s' I h
  obtain⟨ea,T,C,dd,Hc,rfl,os,bare,un,bM,h1,h2,h3,hE⟩:=h
  have I':=I.iN.A_ (ch:=[]) os un bM bare (λb z=>absurd z (by simp))
  exact⟨ea,C,dd,MG,σ,rfl,.inr ⟨Hc,T,.none,I',.inl rfl,h1,h2,h3,hE⟩⟩
 new:=λMG σ H s e C dd I he hE=>⟨e,C,dd,MG,σ,rfl,.inl ⟨H,I.iN,he,hE⟩⟩
 own:=Zx.own Nc hf
theorem w_{P:Program}{w:World}{K:PySem.W.Frag}{mg:Str->Option Value}{base:Heap}{k:Nat}{f:Addr}{name qual:Str}{params:Arguments}{body:List Stmt}{scope:Scope}{dV kV doc pm M5 ct oc:Value}{an od:Option Addr}
  {OV:Array (Option Value)} {N ps:List Str} {sp:Sp} (lk:K.lookup f=some ⟨oc,od,.func (PySem.W.fnOf name qual params body scope dV kV doc pm an M5 ct),OV⟩) (N2:PySem.W.codeIn K M5 qual=true) (S:cv N ps scope)
  (len:∀ vs H Q E,sp vs H Q E->vs.length=ps.length)
  (O3:∀ (A:Around) (outer:List Env) (s:Shared) (H:Hp) (vs:List V) (Q:VK) (E:XK),cx k (A.deeper (envOfC qual scope s.heap.objs.size f M5))->sp vs H Q E ->
   ∃ t,lZ ((lq (bF P w) P w K mg base N qual scope f M5 A outer s H E).out λ_=>E) body t/\t { nx:=λ_ H'=>Q .cR H',rt:=Q } (start N vs) H) :
  aJ P w K mg base (bF P w) (k+1) f (PySem.W.fnOf name qual params body scope dV kV doc pm an M5 ct) ps sp:=by
 refine Jj lk N2 S len λA outer s H vs Q E hr hs=>?_
 obtain⟨t,h1,h2⟩:=O3 A outer s H vs Q E hr hs
 refine⟨t,λMG s1 σ H1 D I q=>?_,h2⟩
 refine wpAny_mono (h1 MG s1 σ H1 D (I.qK _) q) (λf s' z=>z.iN) λe s' z=>?_
 exact z.GJ rfl rfl rfl
end L2
namespace L2
open PySem PySem.Spec PyProof.Rows
open PySem.Builtin.ObjectAttr (storeInOwnDict storeTaker? setByDescriptor)
theorem sW{P:Program}{w:World}{H:Hp}{h:Heap}{C e t:Addr}{dd:Option Addr}(he:h.get? e=some ⟨.ref C,dd,.fields #[.ref t,.none,.none,.none,.bool false,.none],#[]⟩):cw P w H h e (kG C dd e) :=
 ⟨⟨t,he⟩,⟨_,he⟩,λ_ _ ⟨t,q⟩ k=>⟨t,k _ q⟩⟩
section
variable{X:Cx}{C f:Addr}{fd:FuncData}{ps:List Str}{sp:Sp}{x:Str}{p pos:Pos}{e:Expr}{es:List Expr}{t:TA}{k:Nat}
def I_(C:Addr)(t:TA):TE:=fun σ H Q=>t σ H λvs H1=>vs.length<=sizeLine/\∀ a,H1 a=none->Q (.ref a) (upd H1 a (kG C none a))
theorem C6(hc:PySem.W.excIn X.K C fy "ValueError.__new__" = true)(kp:PySem.W.keepIn X.K (.ref C)=true)(hg:Gl X x)(hm:X.mg x=some (.ref C))
  (ha:PA X (e::es) t) (NN:autoParam ((x==("__debug__" : Str))=false) aD._auto_1) (he:autoParam (starEach (e::es) X.env=(false,eval e X.env)::starEach es X.env) aR._auto_1) (Nh:autoParam ((backTo pos (starEach es X.env)).any (·.1)=false) aR._auto_1) :
  PE X (.Call (.Name x p) (e::es) [] pos) (I_ C t):=by
 intro MG s σ H Q I h
 refine wpAny_Call_Name_kw (lu I hg hm ?_ NN)
 refine PySem.W.callWith_K (h₀:=X.base) I.ok.mod.E5 kp (c6 (ha pos MG s σ H _ I h) λus s1 ⟨vs,H1,I1,r,hl,q⟩=>⟨I1.jR,?_⟩) he Nh
 obtain⟨bm,N,nm,qn,bs,OF,sn,sub,ab,col,dd,k0,k1,k2,k3,k5,mN,hC,hN,OY,T⟩:=Es I1.jR hc
 obtain⟨hp,g,d,tk,os⟩:=s1
 refine wpAny_call_exc_subT PySem.F.excBase_ValueError T hC hN OY (λh' a M=>?_) (by show us.length<=sizeLine;rw[← r.length];exact hl)
 obtain⟨t',e1,_,_⟩:=M.there
 have I2:Inv X MG σ (upd H1 a (kG C none a)) ⟨h',g,d,tk,os⟩:=I1.ES (t':=tk) M.keeps M.new (sW e1)
 have hn:H1 a=none:=I1.sF M.new
 exact⟨.ref a,_,I2,rfl,q a hn⟩
def Hk(C:Addr)(sp:Sp)(t:TA):TE:=fun σ H Q=>t σ H λvs H1=>vs.length<=sizeLine/\∀ a,H1 a=none->sp (.ref a::vs) (upd H1 a (kG C none a)) (λv H2=>v=.cR/\Q (.ref a) H2) E0
theorem A5(hc:o6 X.K C "ValueError.__new__" f=true)(hf:PySem.W.isFn X.K (.ref f)=true)(kp:PySem.W.keepIn X.K (.ref C)=true)(F:aJ X.prog X.w X.K X.mg X.base (bF X.prog X.w) k f fd ps sp)(hr:cx (k+1) X.A)(hb:Binds X.K fd ps [])(hg:Gl X x)(hm:X.mg x=some (.ref C))
  (ha:PA X (e::es) t) (NN:autoParam ((x==("__debug__" : Str))=false) aD._auto_1) (he:autoParam (starEach (e::es) X.env=(false,eval e X.env)::starEach es X.env) aR._auto_1) (Nh:autoParam ((backTo pos (starEach es X.env)).any (·.1)=false) aR._auto_1) :
  PE X (.Call (.Name x p) (e::es) [] pos) (Hk C sp t):=by
 intro MG s σ H Q I h
 refine wpAny_Call_Name_kw (lu I hg hm ?_ NN)
 refine PySem.W.callWith_K (h₀:=X.base) I.ok.mod.E5 kp (c6 (ha pos MG s σ H _ I h) λus s1 ⟨vs,H1,I1,r,hl,q⟩=>⟨I1.jR,?_⟩) he Nh
 have X1:=I1.jR
 obtain⟨bm,N,nm,qn,bs,OF,sn,sub,ab,col,dd,k0,k1,k2,k3,k5,mN,hC,hN,OY,T⟩:=Ct X1 hc
 obtain⟨hp,g,d,tk,os⟩:=s1
 have f1:=tc_lookup
 have f2:=tc_bind (.ref C)
 have hT:(⟨hp,g,d,tk,os⟩:Shared).TypeIs (.ref C) "type" := ⟨_,hC,rfl⟩
 refine wpAny_call (codeAny_of_tree ?_)
 show wpAny _ _ (callAny (.ref C) _) _ _ _
 repeat (any_goals (first | assumption | with_reducible refine wpAny_loadPart_at hC ?_ | wp_step))
 refine⟨rfl,?_⟩
 refine codeAny_call_builtin_at (Code.quiet_builtin _ (by decide +kernel)) entry_typeCall (wpAny_check_type_call_sub hC (pz PySem.F.excBase_ValueError T hC hN OY
  (λh' kk self=>PySem.W.bind_fn (λb o z=>kk b o (X1 b o z)) self (beq_iff_eq.mp hf)) (λh' kk ht hx hz=>?_) (by show us.length<=sizeLine;rw[← r.length];exact hl)))
 have I2:Inv X MG σ (upd H1 (hp.objs.size+1) (kG C none (hp.objs.size+1))) ⟨h',g,d,tk,os⟩:=I1.ES (t':=tk) kk (Heap.get?_none_of_le (Nat.le_succ _)) (sW hx)
 have hq:=q (hp.objs.size+1) (I1.sF (Heap.get?_none_of_le (Nat.le_succ _)))
 have r2:Vals (V.ref (hp.objs.size+1)::vs) (Value.ref (hp.objs.size+1)::us):=.cons rfl r
 have hlen:(Value.ref (hp.objs.size+1)::us++[]).length=ps.length:=by
  rw[List.append_nil,← r2.length]
  exact F.len _ _ _ _ hq
 refine wpAny_call (codeAny_mono (F.run _ X.stack _ _ ⟨Value.ref (hp.objs.size+1)::us,[]⟩ (Value.ref (hp.objs.size+1)::us) _ _ E0 (hr.make C us []) (I2.k9.make C us []) (by have:=hb _ (Value.ref (hp.objs.size+1)::us) I2.jR hlen;rwa [List.append_nil] at this) r2 hq) λr s' OH=>?_)
 cases r with
 | error e =>
  obtain⟨_,_,_,_,_,_,_,_,_,_,_,_,_,z⟩:=OH
  exact z.elim
 | ok fl =>
  cases fl with
  | ret u =>
   obtain⟨v,H',I3,rv,ev,q3⟩:=I2.after OH
   subst ev
   exact⟨rv,⟨V.ref (hp.objs.size+1),H',I3,rfl,q3⟩⟩
  | next=>exact False.elim OH
  | brk=>exact False.elim OH
  | cont=>exact False.elim OH
def GN(K:PySem.W.Frag)(ta tv:TE)(f:Str):TS:=λD σ H=>tv σ H λy H1=>ta σ H1 λx H2=>∃ a C,x=.ref a/\H2 a=some (kG C none a)/\jI K C/\((PySem.W.clsIn K C).any λcd=>gB cd.mro)=true/\bH K C f ∧
 ∀ d,H2 d=none->d≠a->D.nx σ (upd (upd H2 d (.xd [(f,y)])) a (kG C (some d) a))
theorem Aa{o value:Expr}{ta tv:TE}{n:Str}{pos':Pos}(ha:PE X o ta)(hv:PE X value tv)(hs:swapsWith value (some (.Attribute o n pos')) pos.line X.env=pure false):PS X (.Assign [.Attribute o n pos'] value pos) (GN X.K ta tv n):=by
 intro MG s σ H D I h
 refine plainObj_wpAny_Assign_Attribute (c6 (hv MG s σ H _ I h) λu s1 ⟨y,H1,I1,ry,q⟩=>c6 (ha MG s1 σ H1 _ I1 q) λov s2 ⟨x,H2,I2,rx,a,C,ex,ea,c,po,na,q2⟩=>?_) hs
 subst ex
 obtain rfl:ov=Value.ref a:=rx
 obtain⟨tt,hx⟩:=(I2.bM a _ ea).1
 refine Cq po c I2.jR hx na.Fe λh' tk d e1 e2 e3 e4=>?_
 have hd:H2 d=none:=I2.sF e2
 have nda:d≠a:=λz=>by rw[z,ea] at hd;cases hd
 refine⟨σ,_,?_,q2 d hd nda⟩
 have up:∀ b,b≠a->b≠d->upd (upd H2 d (.xd [(n,y)])) a (kG C (some d) a) b=H2 b:=λb h1 h2=>by rw[aw h1,aw h2]
 have nd:∀ b u,s2.heap.get? b=some u->b≠d:=λb u e z=>by rw[z,e2] at e;cases e
 have nH:∀ b u,H2 b=some u->b≠d:=λb u e z=>by rw[z,hd] at e;cases e
 have nE:∀ b u,H2 b=some u->(∀ C dd,u≠kG C dd a)->b≠a:=λb u e hu z=>by
  rw[z,ea] at e
  exact hu C none (Option.some.inj e).symm
 refine I2.un (t':=tk) ⟨λb u e z _ _=>e4 b u (λw=>by rw[w,ea] at z;cases z) e,λb u e z _ _=>⟨u.slots,e4 b u (λw=>by rw[w,ea] at z;cases z) e⟩,λb u e z _=>?_,λb u e _=>?_,λb xs e=>?_,λb ob u e=>?_,λb ps e=>?_⟩ λb u e=>?_
 ·rw[up b (λw=>by rw[w,ea] at z;cases z) (nd b u e)];exact z
 ·by_cases w:b=a
  ·rw[w];exact⟨_,e1⟩
  ·exact⟨u,e4 b u w e⟩
 ·rw[up b (nE b _ e λ_ _ z=>by cases z) (nH b _ e)];exact e
 ·rw[up b (nE b _ e λ_ _ z=>by cases z) (nH b _ e)];exact e
 ·exact⟨#[],by rw[up b (nE b _ e λ_ _ z=>by cases z) (nH b _ e),e];simp⟩
 ·by_cases w:b=a
  ·subst w
   rw[aB] at e
   cases e
   exact sW e1
  ·rw[aw w] at e
   by_cases w2:b=d
   ·subst w2
    rw[aB] at e
    cases e
    refine⟨_,e3,λg=>?_⟩
    show mv (List.lookup g [(n,y)]) (if g=n then some _ else none)
    rw[List.lookup_cons]
    by_cases z:g=n
    ·rw[if_pos z,show (g==n)=true from by simp[z]];exact ry
    ·rw[if_neg z,show (g==n)=false from by simp[z]];exact True.intro
   ·rw[aw w2] at e
    refine(I2.bM b u e).nO (λc v hc z=>e4 c v ?_ z) (λc z=>?_) λc ys z=>?_
    ·rcases hc with z' | z'
     ·rw[z'];exact w
     ·exact nE c _ z' λ_ _ z=>by cases z
    ·rw[up c (nE c _ z λ_ _ z=>by cases z) (nH c _ z)];exact z
    ·rw[up c (nE c _ z λ_ _ z=>by cases z) (nH c _ z)];exact z
end
end L2
namespace L2
open PySem PySem.Spec PyProof.Rows
section
variable{M:Model}{A:Around}{E:Value->Shared->Prop}{s:Shared}
theorem E9{e:Addr}{o:Obj}{Q:Value->Shared->Prop}(hx:s.heap.get? e=some o)(h:Q o.cls s):wpAny M A (typeOf (.ref e)) Q E s:=by
 unfold typeOf
 exact wpAny_bind (wpAny_loadPart hx (wpAny_pure h))
theorem xP{e:Addr}{o:Obj}{vs:Array Value}{Q:Bool->Shared->Prop}(hx:s.heap.get? e=some o)(hd:o.data=.fields vs)(h:Q false s):wpAny M A (isType (.ref e)) Q E s:=by
 unfold isType loadHead
 refine wpAny_bind (wpAny_loadPart hx (wpAny_pure ?_))
 rw[hd];exact h
end
section
variable{X:Cx}{MG:List (Addr×Obj)}{σ:St}{H:Hp}{s:Shared}
def Fu(K:PySem.W.Frag)(E:St->XK)(te:TE):TS:=λD σ H=>te σ H λv H1=>∃ e C dd,v=.ref e/\H1 e=some (kG C dd e)/\jI K C/\PySem.W.typeIn K (.ref C)=some (.type "type")/\E σ (.ref e) none (upd H1 e (ju C dd e))
theorem ve{exc:Expr}{te:TE}{pos:Pos}{E:St->XK}(O:fv X E)(MS:X.calm=true)(he:PE X exc te):PS X (.Raise (some exc) none pos) (Fu X.K E te):=by
 intro MG s σ H D I h
 rw[arm_exec_Raise]
 refine wpAny_bind (wpAny_standAt ?_)
 unfold raiseStmt
 dsimp only [evalOpt,Option.map]
 refine wpAny_bind (wpAny_bind (c6 (he MG s σ H _ I h) λu s1 hq=>wpAny_bind (wpAny_standAt (wpAny_pure ?_))))
 obtain⟨v,H1,I1,rv,e,C,dd,ev,hN,c,ht,hE⟩:=hq
 subst ev
 obtain rfl:u=Value.ref e:=rv
 obtain⟨t,hx⟩:=(I1.bM e _ hN).1
 have X1:=I1.jR
 refine wpAny_bind (wpAny_pure ?_)
 refine wpAny_bind (wpAny_holding ?_)
 unfold excFromValue isExcClass
 refine wpAny_bind (wpAny_bind (xP hx rfl ?_))
 refine wpAny_pure ?_
 refine wpAny_bind ?_
 unfold isInstance
 refine wpAny_bind (E9 hx ((PySem.W.looks_mroIn X1 c.mb).here ?_))
 refine wpAny_pure ?_
 dsimp only
 refine wpAny_bind (xP hx rfl ?_)
 unfold raisedInstance
 refine wpAny_bind (wpAny_bind (E9 hx (wpAny_bind ((PySem.W.looks_typeIn X1 ht).here ?_))))
 refine wpAny_pure ?_
 unfold setFlight
 refine wpAny_bind (wpAny_bind (wpAny_field hx rfl (x:=.none) rfl ?_))
 refine wpAny_pure ?_
 exact wpAny_raiseNew_none (I1.ok.hd MS) (O.new MG σ H1 s1 e C dd I1 hN hE)
end
end L2
namespace L2
open PySem PySem.Spec PyProof.Rows
inductive PV where
 | cR | bl (b:Bool) | int (i:Int) | str (x:Str)
 | tup (xs:List PV) | lst (xs:List PV)
 | jO (xs:List PV)
 | obj (C:Addr) (fs:List (Str×PV))
 | exc (C:Addr) (fo:Option (List (Str×PV)))
 | emp
 deriving Inhabited
mutual
inductive Rep (H:Hp):PV->V->Prop where
 | cR:Rep H .cR .cR
 | bl (b:Bool):Rep H (.bl b) (.bl b)
 | int (i:Int):Rep H (.int i) (.int i)
 | str (x:Str):Rep H (.str x) (.str x)
 | tup {a:Addr} {xs:List PV} {vs:List V}:H a=some (.tup vs)->aV H xs vs->Rep H (.tup xs) (.ref a)
 | lst {a:Addr} {xs:List PV} {vs:List V}:H a=some (.lst vs)->aV H xs vs->Rep H (.lst xs) (.ref a)
 | jO {a:Addr} {o:Obj} {xs:List PV} {vs:List V}:H a=some (.qB o (.lst vs))->aV H xs vs->Rep H (.jO xs) (.ref a)
 | obj {a C dx:Addr} {fs:List (Str×PV)} {vs:List (Str×V)}:H a=some (.ins C dx vs)->iZ H fs vs->Rep H (.obj C fs) (.ref a)
 | zF {a C:Addr}:H a=some (ju C none a)->Rep H (.exc C none) (.ref a)
 | yY {a C d:Addr} {fs:List (Str×PV)} {vs:List (Str×V)}:H a=some (ju C (some d) a)->H d=some (.xd vs)->iZ H fs vs->Rep H (.exc C (some fs)) (.ref a)
 | emp {a:Addr}:H a=some (.dK [])->Rep H .emp (.ref a)
inductive aV (H:Hp):List PV->List V->Prop where
 | nil:aV H [] []
 | cons {p:PV} {v:V} {ps:List PV} {vs:List V}:Rep H p v->aV H ps vs->aV H (p::ps) (v::vs)
inductive iZ (H:Hp):List (Str×PV)->List (Str×V)->Prop where
 | nil:iZ H [] []
 | cons {n:Str} {p:PV} {v:V} {ps:List (Str×PV)} {vs:List (Str×V)}:Rep H p v->iZ H ps vs->iZ H ((n,p)::ps) ((n,v)::vs)
end
mutual
theorem Rep.mono{H H':Hp}(s:bu H H'):∀ {p:PV} {v:V},Rep H p v->Rep H' p v
 | _,_,.cR=>.cR
 | _,_,.bl b=>.bl b
 | _,_,.int i=>.int i
 | _,_,.str x=>.str x
 | _,_,.tup h r=>.tup (s _ _ h) (r.mono s)
 | _,_,.lst h r=>.lst (s _ _ h) (r.mono s)
 | _,_,.jO h r=>.jO (s _ _ h) (r.mono s)
 | _,_,.obj h r=>.obj (s _ _ h) (r.mono s)
 | _,_,.zF h=>.zF (s _ _ h)
 | _,_,.yY h h2 r=>.yY (s _ _ h) (s _ _ h2) (r.mono s)
 | _,_,.emp h=>.emp (s _ _ h)
theorem aV.mono{H H':Hp}(s:bu H H'):∀ {p:List PV} {v:List V},aV H p v->aV H' p v
 | _,_,.nil=>.nil
 | _,_,.cons h r=>.cons (h.mono s) (r.mono s)
theorem iZ.mono{H H':Hp}(s:bu H H'):∀ {p:List (Str×PV)} {v:List (Str×V)},iZ H p v->iZ H' p v
 | _,_,.nil=>.nil
 | _,_,.cons h r=>.cons (h.mono s) (r.mono s)
end
theorem aV.length{H:Hp}:∀ {p:List PV} {v:List V},aV H p v->p.length=v.length
 | _,_,.nil=>rfl
 | _,_,.cons _ r=>by simp[r.length]
theorem aV.get{H:Hp}:∀ {p:List PV} {v:List V} {i:Nat} {x:PV},aV H p v->p[i]?=some x->∃ u,v[i]?=some u/\Rep H x u
 | _,_,_,_,.nil,e=>by simp at e
 | _,_,0,_,.cons h _,e=>by simp at e;subst e;exact⟨_,rfl,h⟩
 | _,_,i+1,x,.cons _ r,e=>by
  obtain⟨u,h1,h2⟩:=aV.get (i:=i) (x:=x) r (by simpa using e)
  exact⟨u,by simpa using h1,h2⟩
theorem aV.append{H:Hp}:∀ {p q:List PV} {v u:List V},aV H p v->aV H q u->aV H (p++q) (v++u)
 | _,_,_,_,.nil,s=>s
 | _,_,_,_,.cons h r,s=>.cons h (r.append s)
theorem aV.take{H:Hp}:∀ {p:List PV} {v:List V} (n:Nat),aV H p v->aV H (p.take n) (v.take n)
 | _,_,0,_=>.nil
 | _,_,_+1,.nil=>.nil
 | _,_,n+1,.cons h r=>.cons h (r.take n)
theorem aV.drop{H:Hp}:∀ {p:List PV} {v:List V} (n:Nat),aV H p v->aV H (p.drop n) (v.drop n)
 | _,_,0,r=>r
 | _,_,_+1,.nil=>.nil
 | _,_,n+1,.cons _ r=>r.drop n
theorem aV.set{H:Hp}{x:PV}{u:V}(h:Rep H x u):∀ {p:List PV} {v:List V} (i:Nat),aV H p v->aV H (p.set i x) (v.set i u)
 | _,_,_,.nil=>.nil
 | _,_,0,.cons _ r=>.cons h r
 | _,_,i+1,.cons q r=>.cons q (r.set h i)
theorem aV.snoc{H:Hp}{p:List PV}{v:List V}{x:PV}{u:V}(r:aV H p v)(h:Rep H x u):aV H (p++[x]) (v++[u]):=r.append (.cons h .nil)
theorem iZ.look{H:Hp}{f:Str}:∀ {p:List (Str×PV)} {v:List (Str×V)} {x:PV},iZ H p v->p.lookup f=some x->∃ u,v.lookup f=some u/\Rep H x u
 | _,_,_,.nil,e=>by simp at e
 | (n,_)::_,_,x,.cons h r,e=>by
  rw[List.lookup_cons] at e ⊢
  cases q:f==n with
  | true=>rw[q] at e;cases e;exact⟨_,rfl,h⟩
  | false=>rw[q] at e;exact r.look e
theorem iZ.none{H:Hp}{f:Str}:∀ {p:List (Str×PV)} {v:List (Str×V)},iZ H p v->p.lookup f=none->v.lookup f=none
 | _,_,.nil,_=>rfl
 | (n,_)::_,_,.cons h r,e=>by
  rw[List.lookup_cons] at e ⊢
  cases q:f==n with
  | true=>rw[q] at e;cases e
  | false=>rw[q] at e;exact r.none e
theorem aV.ints{H:Hp}:∀ {ns:List Int} {v:List V},aV H (ns.map PV.int) v->v=ns.map V.int
 | [],_,.nil=>rfl
 | _::_,_,.cons (.int i) r=>by rw[r.ints];rfl
theorem aV.IC{H:Hp}:∀ {ns:List Bool} {v:List V},aV H (ns.map PV.bl) v->v=ns.map V.bl
 | [],_,.nil=>rfl
 | _::_,_,.cons (.bl i) r=>by rw[r.IC];rfl
structure bS (Hs H ML H':Hp):Prop where
 st:bu Hs ML
 al:bu H H'
 sub:bu ML H'
 nw:∀ a o,Hs a=none->H a=some o->ML a=none
theorem bS.refl{Hs H:Hp}(s:bu Hs H):bS Hs H Hs H:=⟨λ_ _ e=>e,λ_ _ e=>e,s,λ_ _ e _=>e⟩
theorem bS.trans{Hs H MQ H1 MT H2:Hp}(a:bS Hs H MQ H1)(b:bS MQ H1 MT H2):bS Hs H MT H2 :=
 ⟨λc o e=>b.st c o (a.st c o e),λc o e=>b.al c o (a.al c o e),b.sub,λc o e q=>b.nw c o (a.nw c o e q) (a.al c o q)⟩
theorem bS.new{Hs H:Hp}{p:Addr}{o:HO}(s:bu Hs H)(n:H p=none):bS Hs H (upd Hs p o) (upd H p o):=by
 have ne:∀ c u,H c=some u->c≠p:=λc u e z=>by rw[z,n] at e;cases e
 refine⟨λc u e=>?_,λc u e=>?_,λc u e=>?_,λc u e q=>?_⟩
 ·rw[aw (ne c u (s c u e))];exact e
 ·rw[aw (ne c u e)];exact e
 ·by_cases z:c=p
  ·subst z;rw[aB] at e ⊢;exact e
  ·rw[aw z] at e ⊢;exact s c u e
 ·rw[aw (ne c u q)];exact e
inductive SV where
 | sh (p:PV)
 | ow (xs:List PV)
 | bd (a C:Addr) (fs:List (Str×PV))
abbrev af:=List (Option SV)
structure SR (B H₀ Hs H:Hp) (σ:St) (env:af):Prop where
 gr:bS B H₀ Hs H
 len:σ.length=env.length
 sh:∀ (i:Nat) (p:PV),env[i]?=some (some (.sh p))->∃ v,σ[i]?=some (some v)/\Rep Hs p v
 ow:∀ (i:Nat) (xs:List PV),env[i]?=some (some (.ow xs))->∃ a vs,σ[i]?=some (some (.ref a))/\H a=some (.lst vs)/\Hs a=none/\H₀ a=none/\aV Hs xs vs
 sep:∀ (i j:Nat) (xs ys:List PV) (a:Addr),i≠j->env[i]?=some (some (.ow xs))->env[j]?=some (some (.ow ys))->σ[i]?=some (some (.ref a))->σ[j]?≠some (some (.ref a))
 bd:∀ (i:Nat) (a C:Addr) (fs:List (Str×PV)),env[i]?=some (some (.bd a C fs))->∃ dx vs,σ[i]?=some (some (.ref a))/\H a=some (.ins C dx vs)/\Hs a=none/\H₀ a=none/\iZ Hs fs vs
 one:∀ (i j:Nat) (a b C D:Addr) (fs gs:List (Str×PV)),env[i]?=some (some (.bd a C fs))->env[j]?=some (some (.bd b D gs))->i=j
theorem SR.grow{B H₀ Hs H ML H':Hp}{σ:St}{env:af}(r:SR B H₀ Hs H σ env)(g:bS Hs H ML H'):SR B H₀ ML H' σ env where
 gr:=r.gr.trans g
 len:=r.len
 sh:=λi p e=>let ⟨v,h1,h2⟩:=r.sh i p e;⟨v,h1,h2.mono g.st⟩
 ow:=λi xs e=>let ⟨a,vs,h1,h2,h3,h4,h5⟩:=r.ow i xs e;⟨a,vs,h1,g.al _ _ h2,g.nw _ _ h3 h2,h4,h5.mono g.st⟩
 sep:=r.sep
 bd:=λi a C fs e=>let ⟨dx,vs,h1,h2,h3,h4,h5⟩:=r.bd i a C fs e;⟨dx,vs,h1,g.al _ _ h2,g.nw _ _ h3 h2,h4,h5.mono g.st⟩
 one:=r.one
abbrev EX:=Addr×Option (List (Str×PV))
abbrev M(α:Type):=Option (Except EX α)
def M.ok{α:Type}(a:α):M α:=some (.ok a)
noncomputable def M.bind{α β:Type}(x:M α)(f:α->M β):M β:=match x with
 | some (.ok a)=>f a
 | some (.error e)=>some (.error e)
 | none=>none
instance:Monad M where
 pure:=M.ok
 bind:=M.bind
def az{α:Type}(r:M α)(Q:α->Prop)(E:EX->Prop):Prop:=match r with
 | some (.ok a)=>Q a
 | some (.error e)=>E e
 | none=>False
theorem az.imp{α:Type}{r:M α}{Q Q':α->Prop}{E E':EX->Prop}(h:az r Q E)(hq:∀ a,Q a->Q' a)(he:∀ e,E e->E' e):az r Q' E':=by
 cases r with
 | none=>exact h
 | some x=>cases x with
  | ok a=>exact hq a h
  | error e=>exact he e h
theorem az.bind{α β:Type}{x:M α}{f:α->M β}{Q:β->Prop}{E:EX->Prop}(h:az (x.bind f) Q E):az x (λa=>az (f a) Q E) E:=by
 cases x with
 | none=>exact h
 | some x=>cases x with
  | ok a=>exact h
  | error e=>exact h
def XW(E:XK)(Hs H:Hp)(x:EX):Prop:=∀ ea ML H',bS Hs H ML H'->Rep ML (.exc x.1 x.2) (.ref ea)->E (.ref ea) none H'
theorem XW.grow{E:XK}{Hs H ML H':Hp}{x:EX}(h:XW E Hs H x)(g:bS Hs H ML H'):XW E ML H' x:=λea MT H2 g2 r=>h ea MT H2 (g.trans g2) r
def tE(E:St->XK)(f:af->M PV):TE:=fun σ H Q=>∃ B H₀ Hs env,SR B H₀ Hs H σ env/\az (f env) (λp=>∀ v ML H',bS Hs H ML H'->Rep ML p v->Q v H') (XW (E σ) Hs H)
theorem PE.imp{X:Cx}{e:Expr}{t t':TE}(h:PE X e t)(i:∀ σ H Q,t' σ H Q->t σ H Q):PE X e t':=λMG s σ H Q I q=>h MG s σ H Q I (i σ H Q q)
theorem t7{E:St->XK}{f:af->M PV}{g:af->PV->M PV}{σ:St}{H:Hp}{Q R:VK}(h:tE E (λenv=>(f env).bind (g env)) σ H Q)
  (k:∀ B H₀ Hs H1 env p v,SR B H₀ Hs H1 σ env->Rep Hs p v->az (g env p) (λq=>∀ u ML H',bS Hs H1 ML H'->Rep ML q u->Q u H') (XW (E σ) Hs H1)->R v H1):tE E f σ H R:=by
 obtain⟨B,H₀,Hs,env,sr,h⟩:=h
 refine⟨B,H₀,Hs,env,sr,(az.bind h).imp (λp hp v ML H' g r=>?_) λe he=>he⟩
 exact k B H₀ ML H' env p v (sr.grow g) r (hp.imp (λq hq u MT H2 g2 r2=>hq u MT H2 (g.trans g2) r2) λe he=>he.grow g)
theorem xu{E:St->XK}{f g:af->M PV}{op:PV->PV->M PV}{r:R2}{σ:St}{H:Hp}{Q:VK}(h:tE E (λenv=>(f env).bind λp=>(g env).bind λq=>op p q) σ H Q)
  (k:∀ Hs H1 p q v u,bu Hs H1->Rep Hs p v->Rep Hs q u->az (op p q) (λz=>∀ w ML H',bS Hs H1 ML H'->Rep ML z w->Q w H') (XW (E σ) Hs H1)->r v u H1 Q):J1 r (tE E f) (tE E g) σ H Q:=by
 refine t7 h λB H₀ Hs H1 env p v sr rp hp=>?_
 refine⟨B,H₀,Hs,env,sr,(az.bind hp).imp (λq hq u ML H' g ru=>?_) λe he=>he⟩
 exact k ML H' p q v u (sr.grow g).gr.sub (rp.mono g.st) ru (hq.imp (λz hz w MT H2 g2 r2=>hz w MT H2 (g.trans g2) r2) λe he=>he.grow g)
theorem JH{E:St->XK}{f:af->M PV}{op:PV->M PV}{r:V->Hp->VK->Prop}{σ:St}{H:Hp}{Q:VK}(h:tE E (λenv=>(f env).bind op) σ H Q)
  (k:∀ Hs H1 p v,bu Hs H1->Rep Hs p v->az (op p) (λz=>∀ w ML H',bS Hs H1 ML H'->Rep ML z w->Q w H') (XW (E σ) Hs H1)->r v H1 Q):L5 r (tE E f) σ H Q :=
 t7 h λB H₀ Hs H1 env p v sr rp hp=>k Hs H1 p v sr.gr.sub rp hp
end L2
namespace L2
open PySem PySem.Spec PyProof.Rows
def HG(sp:Sp)(Nu:List V)(E:St->XK)(t:TA):TE:=fun σ H Q=>t σ H λvs H1=>sp (vs++Nu) H1 Q (E σ)
def AS(C:Addr)(m:Str)(sp:Sp)(Nu:List V)(E:St->XK)(ta:TE)(t:TA):TE:=fun σ H Q=>ta σ H λx H1=>∃ a dx fs,x=.ref a/\H1 a=some (.ins C dx fs)/\fs.lookup m=none ∧
 t σ H1 λvs H2=>sp (x::(vs++Nu)) H2 Q (E σ)
def GG(C:Addr)(sp:Sp)(Nu:List V)(E:St->XK)(t:TA):TE:=fun σ H Q=>t σ H λvs H1=>∀ x dx,H1 x=none->H1 dx=none->dx≠x ->
 sp (.ref x::(vs++Nu)) (upd (upd H1 dx (.own x)) x (.ins C dx [])) (λv H2=>v=.cR/\Q (.ref x) H2) (E σ)
section
variable{X:Cx}{k:Nat}{f C:Addr}{fd:FuncData}{ps:List Str}{sp:Sp}{Nu:List V}{ds:List Value}{E:St->XK}{x m:Str}{p pos apos:Pos}{e o:Expr}{es:List Expr}{ta:TE}{t:TA}
theorem oC{MG:List (Addr×Obj)}{σ:St}{H:Hp}{s:Shared}{Q:VK}{us:List Value}{vs:List V}(F:aJ X.prog X.w X.K X.mg X.base (bF X.prog X.w) k f fd ps sp)(hr:cx k X.A)(hb:Binds X.K fd ps ds)(hd:Vals Nu ds)(hx:fv X E)
  (I:Inv X MG σ H s) (r:Vals vs us) (h:sp (vs++Nu) H Q (E σ)):wpAny (model X.prog X.w) X.A (call (.ref f) us) (EP X MG σ Q) X.xe s:=by
 have r2:Vals (vs++Nu) (us++ds):=r.append hd
 have hl:(us++ds).length=ps.length:=by rw[← r2.length];exact F.len _ _ _ _ h
 refine wpAny_call (codeAny_mono (F.run X.A X.stack s H ⟨us,[]⟩ (us++ds) (vs++Nu) Q (E σ) hr I.k9 (hb s us I.jR hl) r2 h) λr s' hq=>?_)
 cases r with
 | error e=>exact hx.pass MG σ H s e s' I hq
 | ok fl =>
  cases fl with
  | ret u=>exact I.after hq
  | next=>exact False.elim hq
  | brk=>exact False.elim hq
  | cont=>exact False.elim hq
theorem BP(F:aJ X.prog X.w X.K X.mg X.base (bF X.prog X.w) k f fd ps sp)(hr:cx k X.A)(hg:Gl X x)(hm:X.mg x=some (.ref f))(hk:PySem.W.keepIn X.K (.ref f)=true)(hb:Binds X.K fd ps ds)(hd:Vals Nu ds)(hx:fv X E)
  (ha:PA X (e::es) t) (NN:autoParam ((x==("__debug__" : Str))=false) aD._auto_1) (he:autoParam (starEach (e::es) X.env=(false,eval e X.env)::starEach es X.env) aR._auto_1) (Nh:autoParam ((backTo pos (starEach es X.env)).any (·.1)=false) aR._auto_1) :
  PE X (.Call (.Name x p) (e::es) [] pos) (HG sp Nu E t):=by
 intro MG s σ H Q I h
 refine wpAny_Call_Name_kw (lu I hg hm ?_ NN)
 refine PySem.W.callWith_K (h₀:=X.base) I.ok.mod.E5 hk (c6 (ha pos MG s σ H _ I h) λus s1 ⟨vs,H1,I1,r,q⟩=>⟨I1.jR,?_⟩) he Nh
 exact oC F hr hb hd hx I1 r q
theorem Bb{pl:Sem Bool}(he:PE X o ta)(c:jT X.K C)(hm:Meth X.K C m f)(F:aJ X.prog X.w X.K X.mg X.base (bF X.prog X.w) k f fd ps sp)(hr:cx k X.A)(hb:Binds X.K fd ps ds)(hd:Vals Nu ds)(hx:fv X E)(ha:PA X (e::es) t)
  (Nc:autoParam (starEach (e::es) X.env=(false,eval e X.env)::starEach es X.env) aR._auto_1) (Nh:autoParam ((backTo pos (starEach es X.env)).any (·.1)=false) aR._auto_1)
  (ht:autoParam (eval (.Call (.Attribute o m apos) (e::es) [] pos) X.env=(do
   let ov ← eval o X.env
   standAt apos.atName
   let (f,first) ← holding [ov] (getMethod ov m pl)
   callWith pos f first (backTo pos (starEach (e::es) X.env)) (backToKw pos (keywordEach [] X.env)))) aR._auto_1) :
  PE X (.Call (.Attribute o m apos) (e::es) [] pos) (AS C m sp Nu E ta t):=by
 intro MG s σ H Q I h
 refine PySem.W.methodCall_KW (pl:=pl) (c6 (he MG s σ H _ I h) λu s1 ⟨x,H1,I1,rx,a,dx,fs,ex,ea,l,q⟩=>?_) ht
 subst ex
 obtain rfl:u=Value.ref a:=rx
 refine kS I1 ea c hm l ?_
 refine PySem.W.callWith_K (first:=[.ref a]) (h₀:=X.base) I.ok.mod.E5 hm.kp (c6 (ha pos MG s1 σ H1 _ I1 q) λus s2 ⟨vs,H2,I2,r,q2⟩=>⟨I2.jR,?_⟩) Nc Nh
 exact oC (us:=.ref a::us) (vs:=.ref a::vs) F hr hb hd hx I2 (.cons rfl r) q2
theorem zp{pl:Sem Bool}(he:PE X o ta)(c:jT X.K C)(hm:Meth X.K C m f)(F:aJ X.prog X.w X.K X.mg X.base (bF X.prog X.w) k f fd ps sp)(hr:cx k X.A)(hb:Binds X.K fd ps ds)(hd:Vals Nu ds)(hx:fv X E)
  (ht:autoParam (eval (.Call (.Attribute o m apos) [] [] pos) X.env=(do
   let ov ← eval o X.env
   standAt apos.atName
   let (f,first) ← holding [ov] (getMethod ov m pl)
   callWith pos f first (backTo pos (starEach [] X.env)) (backToKw pos (keywordEach [] X.env)))) aR._auto_1) :
  PE X (.Call (.Attribute o m apos) [] [] pos) (AS C m sp Nu E ta IS):=by
 intro MG s σ H Q I h
 refine PySem.W.methodCall_KW (pl:=pl) (c6 (he MG s σ H _ I h) λu s1 ⟨x,H1,I1,rx,a,dx,fs,ex,ea,l,q⟩=>?_) ht
 subst ex
 obtain rfl:u=Value.ref a:=rx
 refine kS I1 ea c hm l ?_
 exact PySem.W.callWith_K0 (first:=[.ref a]) I1.jR hm.kp (oC (us:=[.ref a]) (vs:=[.ref a]) F hr hb hd hx I1 (.cons rfl .nil) q)
theorem yF{MG:List (Addr×Obj)}{σ:St}{H:Hp}{s:Shared}{Q:VK}{us:List Value}{vs:List V}(M:Mk X.K C f)(F:aJ X.prog X.w X.K X.mg X.base (bF X.prog X.w) k f fd ps sp)(hr:cx (k+1) X.A)(hb:Binds X.K fd ps ds)(hd:Vals Nu ds)
  (hx:fv X E) (I:Inv X MG σ H s) (r:Vals vs us)
  (h:∀ x dx,H x=none->H dx=none->dx≠x->sp (.ref x::(vs++Nu)) (upd (upd H dx (.own x)) x (.ins C dx [])) (λv H2=>v=.cR/\Q (.ref x) H2) (E σ)) :
  wpAny (model X.prog X.w) X.A (call (.ref C) us) (EP X MG σ Q) X.xe s:=by
 have hq:=h (s.heap.objs.size+1) s.heap.objs.size (I.bM.fresh (Nat.le_succ _)) (I.bM.fresh (Nat.le_refl _)) (Nat.ne_of_lt (Nat.lt_succ_self _))
 have I2:=Inv.made (C:=C) I
 have r2:Vals (V.ref (s.heap.objs.size+1)::(vs++Nu)) (Value.ref (s.heap.objs.size+1)::(us++ds)):=.cons rfl (r.append hd)
 have hl:(Value.ref (s.heap.objs.size+1)::us++ds).length=ps.length:=by
  have e:=r2.length
  rw[F.len _ _ _ _ hq] at e
  exact e.symm
 refine wpAny_call (z_ (f:=f) I.jR M.makes M.init (beq_iff_eq.mp M.fn) (codeAny_mono (F.run _ X.stack _ _ ⟨Value.ref (s.heap.objs.size+1)::us,[]⟩ (Value.ref (s.heap.objs.size+1)::(us++ds)) _ _ (E σ) (hr.make C us [])
  (I2.k9.make C us []) (hb _ (Value.ref (s.heap.objs.size+1)::us) I2.jR hl) r2 hq) λr s' OH=>?_))
 cases r with
 | error e=>exact hx.pass MG σ _ _ e s' I2 OH
 | ok fl =>
  cases fl with
  | ret u =>
   obtain⟨v,H',I3,rv,ev,q3⟩:=I2.after OH
   subst ev
   exact⟨rv,⟨V.ref (s.heap.objs.size+1),H',I3,rfl,q3⟩⟩
  | next=>exact False.elim OH
  | brk=>exact False.elim OH
  | cont=>exact False.elim OH
theorem AV(M:Mk X.K C f)(F:aJ X.prog X.w X.K X.mg X.base (bF X.prog X.w) k f fd ps sp)(hr:cx (k+1) X.A)(hg:Gl X x)(hm:X.mg x=some (.ref C))(hb:Binds X.K fd ps ds)(hd:Vals Nu ds)(hx:fv X E)
  (ha:PA X (e::es) t) (NN:autoParam ((x==("__debug__" : Str))=false) aD._auto_1) (he:autoParam (starEach (e::es) X.env=(false,eval e X.env)::starEach es X.env) aR._auto_1) (Nh:autoParam ((backTo pos (starEach es X.env)).any (·.1)=false) aR._auto_1) :
  PE X (.Call (.Name x p) (e::es) [] pos) (GG C sp Nu E t):=by
 intro MG s σ H Q I h
 refine wpAny_Call_Name_kw (lu I hg hm ?_ NN)
 refine PySem.W.callWith_K (h₀:=X.base) I.ok.mod.E5 M.kp (c6 (ha pos MG s σ H _ I h) λus s1 ⟨vs,H1,I1,r,q⟩=>⟨I1.jR,?_⟩) he Nh
 exact yF M F hr hb hd hx I1 r q
end
end L2
namespace L2
open PySem PySem.Spec PyProof.Rows
abbrev eM(Hs H:Hp)(Q:VK):PV->Prop:=λz=>∀ w ML H',bS Hs H ML H'->Rep ML z w->Q w H'
theorem eM.flat{Hs H:Hp}{Q:VK}{p:PV}{v:V}(h:eM Hs H Q p)(s:bu Hs H)(r:Rep Hs p v):Q v H:=h v Hs H (.refl s) r
theorem eM.tup{Hs H:Hp}{Q:VK}{xs:List PV}{vs:List V}(h:eM Hs H Q (.tup xs))(s:bu Hs H)(r:aV Hs xs vs):∀ p,H p=none->Q (.ref p) (upd H p (.tup vs)) :=
 λp n=>h _ (upd Hs p (.tup vs)) _ (bS.new s n) (.tup aB (r.mono (bS.new s n).st))
theorem eM.lst{Hs H:Hp}{Q:VK}{xs:List PV}{vs:List V}(h:eM Hs H Q (.lst xs))(s:bu Hs H)(r:aV Hs xs vs):∀ p,H p=none->Q (.ref p) (upd H p (.lst vs)) :=
 λp n=>h _ (upd Hs p (.lst vs)) _ (bS.new s n) (.lst aB (r.mono (bS.new s n).st))
namespace HT
theorem BC{prog:Program}{w:World}{A:Around}{E:Value->Shared->Prop}{s:Shared}{t b:Addr}{ws:List Value}{Q:Value->Shared->Prop}(ht:IsTup s.heap t #[])(hb:IsTup s.heap b ws.toArray)
  (h1:Q (.ref b) s):wpAny (model prog w) A (binaryOp .Add (.ref t) (.ref b)) Q E s:=by
 obtain⟨⟨cls,dd,data,sl⟩,ho,hc,n,hd⟩:=id ht
 obtain⟨⟨cls2,Qc,data2,sl2⟩,OZ,Pu,n2,hd2⟩:=id hb
 simp only at hc hd Pu hd2
 subst hc hd Pu hd2
 exact concat_meets ⟨_,ho,rfl⟩ ⟨_,OZ,rfl⟩ noFill_tuple_add seq_tuple_add PySem.F.slot_tuple_add PySem.F.entry_tuple_add (PySem.F.args_tuple_add_2 _ _)
   (tuple_addW0 t b #[] ws.toArray n n2 dd Qc sl sl2 rfl) ⟨ho,OZ,h1⟩
end HT
def Cp(K:PySem.W.Frag):R2:=λx y H Q=>∃ a b ys,x=.ref a/\y=.ref b/\h_ K H a []/\h_ K H b ys/\Q (.ref b) H
theorem Am{X:Cx}:iu X (binaryOp .Add) (Cp X.K):=by
 intro MG s σ H x y v u Q I rx ry h
 obtain⟨a,b,ys,rfl,rfl,ha,hb,q1⟩:=h
 cases rx
 cases ry
 obtain⟨MJ,r1,p1,_⟩:=I.tuple ha
 obtain⟨Oq,r2,p2,_⟩:=I.tuple hb
 have e:MJ=[]:=r1.lx.mpr rfl
 subst e
 exact HT.BC p1 p2 ⟨.ref b,H,I,rfl,q1⟩
def cD{α:Type}(c:Prop)[Decidable c](x:M α):M α:=if c then x else none
theorem az.cD{α:Type}{c:Prop}[Decidable c]{x:M α}{Q:α->Prop}{E:EX->Prop}(h:az (L2.cD c x) Q E):c/\az x Q E:=by
 unfold L2.cD at h
 by_cases hc:c
 ·rw[if_pos hc] at h;exact⟨hc,h⟩
 ·rw[if_neg hc] at h;exact h.elim
def fe(o:Option PV):M PV:=match o with
 | some x=>M.ok x
 | none=>none
theorem az.opt{o:Option PV}{Q:PV->Prop}{E:EX->Prop}(h:az (fe o) Q E):∃ x,o=some x/\Q x:=by
 cases o with
 | none=>exact h.elim
 | some x=>exact⟨x,rfl,h⟩
section
variable{X:Cx}{E:St->XK}{a b c e:Expr}{pos:Pos}{f g h:af->M PV}
def ae(i:Nat)(env:af):M PV:=match env[i]? with
 | some (some (.sh p))=>M.ok p
 | _=>none
theorem Hw{i:Nat}{x:Str}(hN:X.N[i]?=some x)(hv:CS X.env.scope x)(hd:autoParam ((x==("__debug__" : Str))=false) aD._auto_1)(N2:autoParam ((x==("__classdict__" : Str))=false) aD._auto_1):PE X (.Name x pos) (tE E (ae i)):=by
 refine(mw hN hv hd N2).imp fun σ H Q q=>?_
 obtain⟨B,H₀,Hs,env,sr,q⟩:=q
 unfold ae at q
 split at q
 ·rename_i p e
  obtain⟨v,h1,h2⟩:=sr.sh i p e
  exact⟨v,h1,eM.flat q sr.gr.sub h2⟩
 ·exact q.elim
theorem la{p:PV}{v:V}(he:PE X e (tC v))(r:∀ H,Rep H p v):PE X e (tE E λ_=>M.ok p):=by
 refine he.imp fun σ H Q q=>?_
 obtain⟨B,H₀,Hs,env,sr,q⟩:=q
 exact eM.flat q sr.gr.sub (r Hs)
theorem BM{i:Int}{j:Nat}:PE X (.Constant (.int i) j pos) (tE E λ_=>M.ok (.int i)):=la Fy λ_=>.int i
theorem J0{i:Bool}{j:Nat}:PE X (.Constant (.bool i) j pos) (tE E λ_=>M.ok (.bl i)):=la Jb λ_=>.bl i
theorem FK{j:Nat}:PE X (.Constant .none j pos) (tE E λ_=>M.ok .cR):=la Hu λ_=>.cR
theorem Ia{i:Str}{j:Nat}:PE X (.Constant (.str i) j pos) (tE E λ_=>M.ok (.str i)):=la GQ λ_=>.str i
def aj(op:PV->PV->M PV)(f g:af->M PV):af->M PV:=λenv=>(f env).bind λp=>(g env).bind λq=>op p q
def l4(E:St->XK)(r:R2)(op:PV->PV->M PV):Prop:=∀ (σ:St) (Hs H:Hp) (p q:PV) (v u:V) (Q:VK),bu Hs H->Rep Hs p v->Rep Hs q u->az (op p q) (eM Hs H Q) (XW (E σ) Hs H)->r v u H Q
theorem mG{op:Operator}{r:R2}{o:PV->PV->M PV}(ho:iu X (binaryOp op) r)(hv:l4 E r o)(ha:PE X a (tE E f))(hb:PE X b (tE E g)):PE X (.BinOp a op b pos) (tE E (aj o f g)) :=
 (EK ho ha hb).imp fun σ H Q q=>xu q λHs H1 p q v u s rp rq h=>hv σ Hs H1 p q v u Q s rp rq h
theorem j5{op:CmpOp}{r:R2}{o:PV->PV->M PV}(ho:iu X (compareOp op) r)(hv:l4 E r o)(ha:PE X a (tE E f))(hb:PE X b (tE E g))(hm:behindInMarks op b=false):PE X (.Compare a [op] [b] pos) (tE E (aj o f g)) :=
 (Ef ho ha hb hm).imp fun σ H Q q=>xu q λHs H1 p q v u s rp rq h=>hv σ Hs H1 p q v u Q s rp rq h
def fE:PV->PV->M PV
 | .int i,.int j=>M.ok (.int (i+j))
 | .str x,.str y=>cD (x.length+y.length<=sizeLine) (M.ok (.str (x++y)))
 | .tup xs,.tup ys=>cD (xs.length+ys.length<=sizeLine) (M.ok (.tup (xs++ys)))
 | .lst xs,.lst ys=>cD (xs.length+ys.length<=sizeLine) (M.ok (.lst (xs++ys)))
 | _,_=>none
def Ff(K:PySem.W.Frag):R2:=λx y H Q=>(∃ i j,x=.int i/\y=.int j/\Q (.int (i+j)) H)\/(∃ i j,x=.str i/\y=.str j/\i.length+j.length<=sizeLine/\Q (.str (i++j)) H)\/E3 K x y H Q\/Jn x y H Q\/Cp K x y H Q
theorem C4:iu X (binaryOp .Add) (Ff X.K):=iu.or FU (iu.or xg (iu.or Du (iu.or Ft Am)))
theorem FA{K:PySem.W.Frag}:l4 E (Ff K) fE:=by
 intro σ Hs H p q v u Q s rp rq h
 cases rp with
 | int i=>cases rq with
  | int j=>exact .inl ⟨i,j,rfl,rfl,eM.flat h s (.int _)⟩
  | _=>exact h.elim
 | str i=>cases rq with
  | str j =>
   obtain⟨hz,h⟩:=az.cD h
   exact .inr (.inl ⟨i,j,rfl,rfl,hz,eM.flat h s (.str _)⟩)
  | _=>exact h.elim
 | @tup a xs vs ha hx=>cases rq with
  | @tup b ys us hb hy =>
   obtain⟨hz,h⟩:=az.cD h
   cases hx with
   | nil=>exact .inr (.inr (.inr (.inr ⟨a,b,us,rfl,rfl,h_.of (s _ _ ha),h_.of (s _ _ hb),eM.flat h s (.tup hb hy)⟩)))
   | cons Qa Qt =>
    have hx:=aV.cons Qa Qt
    refine .inr (.inr (.inl ⟨a,b,_,us,rfl,rfl,h_.of (s _ _ ha),h_.of (s _ _ hb),(λz=>nomatch z),by rw[← hx.length,← hy.length];exact hz,λz=>?_,λz=>eM.tup h s (hx.append hy)⟩))
    have e:ys=[]:=by cases hy with | nil=>rfl | cons _ _=>cases z
    subst e
    rw[List.append_nil] at h
    exact eM.flat h s (.tup ha hx)
  | _=>exact h.elim
 | @lst a xs vs ha hx=>cases rq with
  | @lst b ys us hb hy =>
   obtain⟨hz,h⟩:=az.cD h
   exact .inr (.inr (.inr (.inl ⟨a,b,vs,us,rfl,rfl,s _ _ ha,s _ _ hb,by rw[← hx.length,← hy.length];exact hz,eM.lst h s (hx.append hy)⟩)))
  | _=>exact h.elim
 | _=>exact h.elim
def xj(c:Int->Int->Bool)(o:Int->Int->Int):PV->PV->M PV
 | .int i,.int j=>cD (c i j=true) (M.ok (.int (o i j)))
 | _,_=>none
theorem xh{C:Int->Int->Prop}{c:Int->Int->Bool}{o:Int->Int->Int}(hc:∀ i j,c i j=true->C i j):l4 E (rI C λi j=>.int (o i j)) (xj c o):=by
 intro σ Hs H p q v u Q s rp rq h
 cases rp with
 | int i=>cases rq with
  | int j =>
   obtain⟨hz,h⟩:=az.cD h
   exact⟨i,j,rfl,rfl,hc i j hz,eM.flat h s (.int _)⟩
  | _=>exact h.elim
 | _=>exact h.elim
def iQ:PV->PV->M PV
 | .int i,.int j=>M.ok (.int (i-j))
 | _,_=>none
theorem G6:l4 E (xv λi j=>.int (i-j)) iQ:=by
 intro σ Hs H p q v u Q s rp rq h
 cases rp with
 | int i=>cases rq with
  | int j=>exact⟨i,j,rfl,rfl,eM.flat h s (.int _)⟩
  | _=>exact h.elim
 | _=>exact h.elim
def BE(o:Int->Int->Bool):PV->PV->M PV
 | .int i,.int j=>M.ok (.bl (o i j))
 | _,_=>none
theorem sS{o:Int->Int->Bool}:l4 E (xv λi j=>.bl (o i j)) (BE o):=by
 intro σ Hs H p q v u Q s rp rq h
 cases rp with
 | int i=>cases rq with
  | int j=>exact⟨i,j,rfl,rfl,eM.flat h s (.bl _)⟩
  | _=>exact h.elim
 | _=>exact h.elim
def aT:PV->PV->M PV
 | .tup xs,.int i=>fe (ur xs i)
 | .lst xs,.int i=>fe (ur xs i)
 | .jO xs,.int i=>fe (ur xs i)
 | .str z,.int i=>cD (z.length<=sizeLine) (fe ((ur z.cps.toList i).map λc=>.str ⟨#[c]⟩))
 | _,_=>none
theorem aV.ur{H:Hp}{xs:List PV}{vs:List V}{i:Int}{x:PV}(r:aV H xs vs)(e:L2.ur xs i=some x):∃ v,L2.ur vs i=some v/\Rep H x v:=by
 unfold L2.ur at e ⊢
 rw[← r.length]
 obtain⟨j,h1,h2⟩:=Option.bind_eq_some_iff.mp e
 obtain⟨v,h3,h4⟩:=r.get h2
 exact⟨v,by rw[h1];exact h3,h4⟩
theorem Ih{K:PySem.W.Frag}:l4 E (L7 K) aT:=by
 intro σ Hs H p q v u Q s rp rq h
 cases rp with
 | @tup a xs vs ha hx=>cases rq with
  | int i =>
   obtain⟨x,ex,h⟩:=az.opt h
   obtain⟨v,h1,h2⟩:=hx.ur ex
   exact .inr (.inl ⟨a,vs,i,v,rfl,rfl,h_.of (s _ _ ha),h1,eM.flat h s h2⟩)
  | _=>exact h.elim
 | @lst a xs vs ha hx=>cases rq with
  | int i =>
   obtain⟨x,ex,h⟩:=az.opt h
   obtain⟨v,h1,h2⟩:=hx.ur ex
   exact .inl ⟨a,vs,i,v,rfl,rfl,ir.of (s _ _ ha),h1,eM.flat h s h2⟩
  | _=>exact h.elim
 | @jO a o xs vs ha hx=>cases rq with
  | int i =>
   obtain⟨x,ex,h⟩:=az.opt h
   obtain⟨v,h1,h2⟩:=hx.ur ex
   exact .inl ⟨a,vs,i,v,rfl,rfl,.inl (.inr ⟨o,s _ _ ha⟩),h1,eM.flat h s h2⟩
  | _=>exact h.elim
 | str z=>cases rq with
  | int i =>
   obtain⟨hz,h⟩:=az.cD h
   obtain⟨x,ex,h⟩:=az.opt h
   obtain⟨c,ec,rfl⟩:=Option.map_eq_some_iff.mp ex
   exact .inr (.inr ⟨z,i,c,rfl,rfl,hz,ec,eM.flat h s (.str _)⟩)
  | _=>exact h.elim
 | _=>exact h.elim
theorem Fs(ha:PE X a (tE E f))(hb:PE X b (tE E g))(hs:t4 b):PE X (.Subscript a b pos) (tE E (aj aT f g)) :=
 (Jp Gb ha hb hs).imp fun σ H Q q=>xu q λHs H1 p q v u s rp rq h=>Ih σ Hs H1 p q v u Q s rp rq h
end
end L2
namespace L2
open PySem PySem.Spec PyProof.Rows
def tG{α:Type}(E:St->XK)(f:af->M α)(K:Hp->Hp->α->Prop):St->Hp->Prop:=fun σ H=>∃ B H₀ Hs env,SR B H₀ Hs H σ env/\az (f env) (K Hs H) (XW (E σ) Hs H)
def KG{α:Type}(K:Hp->Hp->α->Prop):Prop:=∀ Hs H ML H' b,K Hs H b->bS Hs H ML H'->K ML H' b
abbrev KB(Q:Bool->Hp->Prop):Hp->Hp->Bool->Prop:=λHs H k=>∀ ML H',bS Hs H ML H'->Q k H'
abbrev jZ(Q:VK):Hp->Hp->PV->Prop:=λHs H p=>eM Hs H Q p
abbrev KL(Q:List V->Hp->Prop):Hp->Hp->List PV->Prop:=λHs H ps=>∀ vs ML H',bS Hs H ML H'->aV ML ps vs->Q vs H'
theorem KB.g{Q:Bool->Hp->Prop}:KG (KB Q):=λHs H ML H' b k g MT H2 g2=>k MT H2 (g.trans g2)
theorem jZ.g{Q:VK}:KG (jZ Q):=λHs H ML H' b k g w MT H2 g2 r=>k w MT H2 (g.trans g2) r
theorem KL.g{Q:List V->Hp->Prop}:KG (KL Q):=λHs H ML H' b k g w MT H2 g2 r=>k w MT H2 (g.trans g2) r
def tT(E:St->XK)(f:af->M Bool):TT:=fun σ H Q=>tG E f (KB Q) σ H
def tL(E:St->XK)(f:af->M (List PV)):TA:=fun σ H Q=>tG E f (KL Q) σ H
theorem PT.imp{X:Cx}{e:Expr}{t t':TT}(h:PT X e t)(i:∀ σ H Q,t' σ H Q->t σ H Q):PT X e t':=λMG s σ H Q I q=>h MG s σ H Q I (i σ H Q q)
theorem PW.imp{X:Cx}{e:Expr}{t t':TT}(h:PW X e t)(i:∀ σ H Q,t' σ H Q->t σ H Q):PW X e t':=λw MG s σ H Q I q=>h w MG s σ H Q I (i σ H Q q)
theorem PA.imp{X:Cx}{e:List Expr}{t t':TA}(h:PA X e t)(i:∀ σ H Q,t' σ H Q->t σ H Q):PA X e t':=λw MG s σ H Q I q=>h w MG s σ H Q I (i σ H Q q)
section
variable{β:Type}{E:St->XK}{K:Hp->Hp->β->Prop}{σ:St}{H:Hp}
theorem cq{f:af->M PV}{g:af->PV->M β}{R:VK}(kg:KG K)(h:tG E (λenv=>(f env).bind (g env)) K σ H)
  (k:∀ B H₀ Hs H1 env p v,SR B H₀ Hs H1 σ env->Rep Hs p v->az (g env p) (K Hs H1) (XW (E σ) Hs H1)->R v H1):tE E f σ H R:=by
 obtain⟨B,H₀,Hs,env,sr,h⟩:=h
 refine⟨B,H₀,Hs,env,sr,(az.bind h).imp (λp hp v ML H' g r=>?_) λe he=>he⟩
 exact k B H₀ ML H' env p v (sr.grow g) r (hp.imp (λq hq=>kg _ _ _ _ q hq g) λe he=>he.grow g)
theorem pZ{f:af->M Bool}{g:af->Bool->M β}{R:Bool->Hp->Prop}(kg:KG K)(h:tG E (λenv=>(f env).bind (g env)) K σ H)
  (k:∀ B H₀ Hs H1 env p,SR B H₀ Hs H1 σ env->az (g env p) (K Hs H1) (XW (E σ) Hs H1)->R p H1):tT E f σ H R:=by
 obtain⟨B,H₀,Hs,env,sr,h⟩:=h
 refine⟨B,H₀,Hs,env,sr,(az.bind h).imp (λp hp ML H' g=>?_) λe he=>he⟩
 exact k B H₀ ML H' env p (sr.grow g) (hp.imp (λq hq=>kg _ _ _ _ q hq g) λe he=>he.grow g)
theorem dD{f:af->M (List PV)}{g:af->List PV->M β}{R:List V->Hp->Prop}(kg:KG K)(h:tG E (λenv=>(f env).bind (g env)) K σ H)
  (k:∀ B H₀ Hs H1 env p v,SR B H₀ Hs H1 σ env->aV Hs p v->az (g env p) (K Hs H1) (XW (E σ) Hs H1)->R v H1):tL E f σ H R:=by
 obtain⟨B,H₀,Hs,env,sr,h⟩:=h
 refine⟨B,H₀,Hs,env,sr,(az.bind h).imp (λp hp v ML H' g r=>?_) λe he=>he⟩
 exact k B H₀ ML H' env p v (sr.grow g) r (hp.imp (λq hq=>kg _ _ _ _ q hq g) λe he=>he.grow g)
end
def vZ:PV->M Bool
 | .bl b=>M.ok b
 | _=>none
def dH(f:af->M PV):af->M Bool:=λenv=>(f env).bind vZ
theorem az.Ke{p:PV}{Q:Bool->Prop}{E:EX->Prop}(h:az (vZ p) Q E):∃ b,p=.bl b/\Q b:=by
 cases p with
 | bl b=>exact⟨b,rfl,h⟩
 | _=>exact h.elim
section
variable{X:Cx}{E:St->XK}{a b c e:Expr}{pos:Pos}{f g h:af->M PV}{u v:af->M Bool}{rest:List Expr}
theorem uJ{σ:St}{H:Hp}{Q:Bool->Hp->Prop}(q:tT E (dH f) σ H Q):tB (tE E f) σ H Q:=by
 refine cq KB.g q λB H₀ Hs H1 env p v sr rp hp=>?_
 obtain⟨k,rfl,hp⟩:=az.Ke hp
 cases rp
 exact⟨k,rfl,hp Hs H1 (.refl sr.gr.sub)⟩
theorem qo(he:PE X e (tE E f))(hw:autoParam (∀ whole,isTrue e X.env whole=(do let v ← whole;standAt e.pos;holding [v] (truthy v))) aI._auto_1):PT X e (tT E (dH f)) :=
 (F5 he hw).imp fun σ H Q q=>uJ q
theorem jV{op:CmpOp}{r:R2}{o:PV->PV->M PV}(ho:iu X (compareOp op) r)(hv:l4 E r o)(ha:PE X a (tE E f))(hb:PE X b (tE E g))(hm:behindInMarks op b=false):PT X (.Compare a [op] [b] pos) (tT E (dH (aj o f g))):=by
 refine(Ew ho ha hb hm).imp fun σ H Q q=>?_
 have q':=uJ q
 exact xu q' λHs H1 p q v u s rp rq h=>hv σ Hs H1 p q v u _ s rp rq h
def kH(u:af->M Bool):af->M Bool:=λenv=>(u env).bind λb=>M.ok (!b)
def Lf(u v:af->M Bool):af->M Bool:=λenv=>(u env).bind λb=>if b=true then v env else M.ok false
def CQ(u v:af->M Bool):af->M Bool:=λenv=>(u env).bind λb=>if b=true then M.ok true else v env
theorem FH(ha:PT X a (tT E u)):PT X (.UnaryOp .Not a pos) (tT E (kH u)) :=
 (HZ ha).imp fun σ H Q q=>pZ KB.g q λB H₀ Hs H1 env p sr hp=>hp Hs H1 (.refl sr.gr.sub)
theorem kZ(ha:PT X a (tT E u)):PW X (.BoolOp .Or [a] pos) (tT E u):=pw_or1 ha
theorem mP(ha:PT X a (tT E u))(hb:PW X (.BoolOp .Or (b::rest) pos) (tT E v)):PW X (.BoolOp .Or (a::b::rest) pos) (tT E (CQ u v)):=by
 refine(pw_or ha hb).imp fun σ H Q q=>pZ KB.g q λB H₀ Hs H1 env p sr hp=>?_
 cases p with
 | true=>exact hp Hs H1 (.refl sr.gr.sub)
 | false=>exact⟨B,H₀,Hs,env,sr,hp⟩
def Hz(f:af->M PV):af->M PV:=λenv=>(f env).bind λp=>(vZ p).bind λb=>M.ok (.bl (!b))
def zc(f g:af->M PV):af->M PV:=λenv=>(f env).bind λp=>(vZ p).bind λb=>if b=true then g env else M.ok (.bl false)
def Ml(f g:af->M PV):af->M PV:=λenv=>(f env).bind λp=>(vZ p).bind λb=>if b=true then M.ok (.bl true) else g env
theorem Gv(ha:PE X a (tE E f)):PE X (.UnaryOp .Not a pos) (tE E (Hz f)):=by
 refine(Gy ha).imp fun σ H Q q=>cq (K:=jZ Q) jZ.g q λB H₀ Hs H1 env p v sr rp hp=>?_
 obtain⟨k,rfl,hp⟩:=az.Ke (az.bind hp)
 cases rp
 exact⟨k,rfl,eM.flat hp sr.gr.sub (.bl _)⟩
theorem s_(ha:PE X a (tE E f))(hb:PE X (.BoolOp .And (b::rest) pos) (tE E g)):PE X (.BoolOp .And (a::b::rest) pos) (tE E (zc f g)):=by
 refine(Gq ha hb).imp fun σ H Q q=>cq (K:=jZ Q) jZ.g q λB H₀ Hs H1 env p v sr rp hp=>?_
 obtain⟨k,rfl,hp⟩:=az.Ke (az.bind hp)
 cases rp
 refine⟨k,rfl,?_⟩
 cases k with
 | true=>exact⟨B,H₀,Hs,env,sr,hp⟩
 | false=>exact eM.flat hp sr.gr.sub (.bl _)
def zC(u:af->M Bool)(f g:af->M PV):af->M PV:=λenv=>(u env).bind λb=>if b=true then f env else g env
theorem FT(hc:PT X c (tT E u))(ha:PE X a (tE E f))(hb:PE X b (tE E g)):PE X (.IfExp c a b pos) (tE E (zC u f g)):=by
 refine(BG hc ha hb).imp fun σ H Q q=>pZ (K:=jZ Q) jZ.g q λB H₀ Hs H1 env p sr hp=>?_
 cases p with
 | true=>exact⟨B,H₀,Hs,env,sr,hp⟩
 | false=>exact⟨B,H₀,Hs,env,sr,hp⟩
def ao:af->M (List PV):=λ_=>M.ok []
def aa(f:af->M PV)(fs:af->M (List PV)):af->M (List PV):=λenv=>(f env).bind λp=>(fs env).bind λps=>M.ok (p::ps)
variable{fs:af->M (List PV)}{es:List Expr}
theorem Ax:PA X [] (tL E ao):=by
 refine mK.imp fun σ H Q q=>?_
 obtain⟨B,H₀,Hs,env,sr,q⟩:=q
 exact q [] Hs H (.refl sr.gr.sub) .nil
theorem xW(ha:PE X e (tE E f))(hr:PA X es (tL E fs))(hs:autoParam (starEach (e::es) X.env=(false,eval e X.env)::starEach es X.env) aR._auto_1):PA X (e::es) (tL E (aa f fs)):=by
 refine(gN ha hr hs).imp fun σ H Q q=>cq (K:=KL Q) KL.g q λB H₀ Hs H1 env p v sr rp hp=>?_
 refine⟨B,H₀,Hs,env,sr,(az.bind hp).imp (λps O0 vs ML H' g r=>?_) λe he=>he⟩
 exact O0 (v::vs) ML H' g (.cons (rp.mono g.st) r)
def jm(fs:af->M (List PV)):af->M PV:=λenv=>(fs env).bind λps=>cD (ps.length<=sizeLine) (M.ok (.tup ps))
def rh(fs:af->M (List PV)):af->M PV:=λenv=>(fs env).bind λps=>cD (ps.length<=sizeLine) (M.ok (.lst ps))
theorem G3{x1:Nat}(hr:PA X es (tL E fs)):PE X (.Tuple es x1 pos) (tE E (jm fs)):=by
 refine(BJ hr).imp fun σ H Q q=>dD (K:=jZ Q) jZ.g q λB H₀ Hs H1 env p v sr rp hp=>?_
 obtain⟨hz,hp⟩:=az.cD hp
 exact⟨by rw[← rp.length];exact hz,eM.tup hp sr.gr.sub rp⟩
theorem B0(hr:PA X es (tL E fs)):PE X (.List es pos) (tE E (rh fs)):=by
 refine(AJ hr).imp fun σ H Q q=>dD (K:=jZ Q) jZ.g q λB H₀ Hs H1 env p v sr rp hp=>?_
 obtain⟨hz,hp⟩:=az.cD hp
 exact⟨by rw[← rp.length];exact hz,eM.lst hp sr.gr.sub rp⟩
def ai(o:List PV->M PV)(fs:af->M (List PV)):af->M PV:=λenv=>(fs env).bind o
def kL(E:St->XK)(r:List V->Hp->VK->Prop)(o:List PV->M PV):Prop:=∀ (σ:St) (Hs H:Hp) (ps:List PV) (vs:List V) (Q:VK),bu Hs H->aV Hs ps vs->az (o ps) (eM Hs H Q) (XW (E σ) Hs H)->r vs H Q
theorem AH{r:List V->Hp->VK->Prop}{o:List PV->M PV}{σ:St}{H:Hp}{Q:VK}(hv:kL E r o)(q:tE E (ai o fs) σ H Q):LI r (tL E fs) σ H Q :=
 dD (K:=jZ Q) jZ.g q λB H₀ Hs H1 env p v sr rp hp=>hv σ Hs H1 p v Q sr.gr.sub rp hp
variable{x:Str}{p:Pos}{id T:String}
theorem lD{r:List V->Hp->VK->Prop}{o:List PV->M PV}(hc:dQ X (.builtin id) r)(hv:kL E r o)(hg:Gl X x)(hm:X.mg x=none)(hx:bootBuiltins x=some (.builtin id))(ha:PA X (e::es) (tL E fs))(hn:autoParam (x ≠ "__name__") aD._auto_1)(NN:autoParam ((x==("__debug__" : Str))=false) aD._auto_1)
  (he:autoParam (starEach (e::es) X.env=(false,eval e X.env)::starEach es X.env) aR._auto_1) (Nh:autoParam ((backTo pos (starEach es X.env)).any (·.1)=false) aR._auto_1):PE X (.Call (.Name x p) (e::es) [] pos) (tE E (ai o fs)) :=
 (qk hc hg hm hx ha hn NN he Nh).imp fun σ H Q q=>AH hv q
theorem l5{r:List V->Hp->VK->Prop}{o:List PV->M PV}(hc:dQ X (.type T) r)(hv:kL E r o)(hg:Gl X x)(hm:X.mg x=none)(hx:bootBuiltins x=some (.type T))(ha:PA X (e::es) (tL E fs))(hn:autoParam (x ≠ "__name__") aD._auto_1)(NN:autoParam ((x==("__debug__" : Str))=false) aD._auto_1)
  (he:autoParam (starEach (e::es) X.env=(false,eval e X.env)::starEach es X.env) aR._auto_1) (Nh:autoParam ((backTo pos (starEach es X.env)).any (·.1)=false) aR._auto_1):PE X (.Call (.Name x p) (e::es) [] pos) (tE E (ai o fs)) :=
 (yf hc hg hm hx ha hn NN he Nh).imp fun σ H Q q=>AH hv q
end
end L2
namespace L2
open PySem PySem.Spec PyProof.Rows
section
variable{E:St->XK}
def bL:PV->Option (List PV)
 | .tup xs=>some xs
 | .lst xs=>some xs
 | .jO xs=>some xs
 | _=>none
theorem BZ{K:PySem.W.Frag}{Hs H:Hp}{p:PV}{v:V}{xs:List PV}(s:bu Hs H)(r:Rep Hs p v)(e:bL p=some xs):∃ a vs,v=.ref a/\(ir K H a vs\/h_ K H a vs)/\aV Hs xs vs:=by
 cases r with
 | tup h r=>cases e;exact⟨_,_,rfl,.inr (h_.of (s _ _ h)),r⟩
 | lst h r=>cases e;exact⟨_,_,rfl,.inl (ir.of (s _ _ h)),r⟩
 | jO h r=>cases e;exact⟨_,_,rfl,.inl (.inl (.inr ⟨_,s _ _ h⟩)),r⟩
 | _=>cases e
def sU:PV->M PV
 | .str z=>cD (z.length<=sizeLine) (M.ok (.int z.length))
 | p=>fe ((bL p).map λxs=>.int xs.length)
def dP:List PV->M PV
 | [p]=>sU p
 | _=>none
theorem aV.one{H:Hp}{p:PV}{vs:List V}(r:aV H [p] vs):∃ v,vs=[v]/\Rep H p v:=by
 cases r with
 | cons h r=>cases r;exact⟨_,rfl,h⟩
theorem aV.two{H:Hp}{p q:PV}{vs:List V}(r:aV H [p,q] vs):∃ v u,vs=[v,u]/\Rep H p v/\Rep H q u:=by
 cases r with
 | cons h r=>obtain⟨u,rfl,h2⟩:=r.one;exact⟨_,_,rfl,h,h2⟩
def ER(K:PySem.W.Frag):List V->Hp->VK->Prop:=λxs H Q=>(∃ p ys,xs=[.ref p]/\(ir K H p ys\/h_ K H p ys)/\Q (.int ys.length) H)\/∃ z,xs=[.str z]/\z.length<=sizeLine/\Q (.int z.length) H
theorem zv{X:Cx}:dQ X (.builtin "len") (ER X.K):=dQ.or sI sN
theorem Ga{K:PySem.W.Frag}:kL E (ER K) dP:=by
 intro σ Hs H ps vs Q s r h
 match ps,r with
 | [],_=>exact h.elim
 | _::_::_,_=>exact h.elim
 | [p],r =>
  obtain⟨v,rfl,rp⟩:=r.one
  cases hp:bL p with
  | none =>
   cases p with
   | str z =>
    cases rp
    obtain⟨hz,h⟩:=az.cD h
    exact .inr ⟨z,rfl,hz,eM.flat h s (.int _)⟩
   | tup _=>cases hp
   | lst _=>cases hp
   | jO _=>cases hp
   | _=>exact h.elim
  | some xs =>
   obtain⟨a,us,rfl,hq,hx⟩:=BZ (K:=K) s rp hp
   have h':az (fe ((bL p).map λxs=>PV.int xs.length)) (eM Hs H Q) (XW (E σ) Hs H):=by
    cases p with
    | str z=>cases hp
    | _=>exact h
   rw[hp] at h'
   refine .inl ⟨a,us,rfl,hq,?_⟩
   rw[← hx.length]
   exact eM.flat h' s (.int _)
def xB:List PV->M PV
 | [p]=>fe ((bL p).map .lst)
 | _=>none
theorem En{K:PySem.W.Frag}:kL E (λxs H Q=>∃ p ys,xs=[.ref p]/\(ir K H p ys\/h_ K H p ys)/\∀ l,H l=none->Q (.ref l) (upd H l (.lst ys))) xB:=by
 intro σ Hs H ps vs Q s r h
 match ps,r with
 | [],_=>exact h.elim
 | _::_::_,_=>exact h.elim
 | [p],r =>
  obtain⟨v,rfl,rp⟩:=r.one
  obtain⟨x,ex,h⟩:=az.opt h
  obtain⟨xs,hp,rfl⟩:=Option.map_eq_some_iff.mp ex
  obtain⟨a,us,rfl,hq,hx⟩:=BZ (K:=K) s rp hp
  exact⟨a,us,rfl,hq,eM.lst h s hx⟩
def cO:List PV->M PV
 | [p]=>fe ((bL p).map .tup)
 | _=>none
theorem zX{K:PySem.W.Frag}:kL E (λxs H Q=>∃ p ys,xs=[.ref p]/\((ir K H p ys/\∀ l,H l=none->Q (.ref l) (upd H l (.tup ys)))\/(h_ K H p ys/\Q (.ref p) H))) cO:=by
 intro σ Hs H ps vs Q s r h
 match ps,r with
 | [],_=>exact h.elim
 | _::_::_,_=>exact h.elim
 | [p],r =>
  obtain⟨v,rfl,rp⟩:=r.one
  obtain⟨x,ex,h⟩:=az.opt h
  obtain⟨xs,hp,rfl⟩:=Option.map_eq_some_iff.mp ex
  cases rp with
  | tup ha hx=>cases hp;exact⟨_,_,rfl,.inr ⟨h_.of (s _ _ ha),eM.flat h s (.tup ha hx)⟩⟩
  | lst ha hx=>cases hp;exact⟨_,_,rfl,.inl ⟨ir.of (s _ _ ha),eM.tup h s hx⟩⟩
  | jO ha hx=>cases hp;exact⟨_,_,rfl,.inl ⟨.inl (.inr ⟨_,s _ _ ha⟩),eM.tup h s hx⟩⟩
  | _=>cases hp
def u6:List PV->Option (List Int)
 | []=>some []
 | .int i::r=>(u6 r).map (i::·)
 | _=>none
def wm:List PV->Option (List Bool)
 | []=>some []
 | .bl i::r=>(wm r).map (i::·)
 | _=>none
theorem xY:∀ {ps:List PV} {ns:List Int},u6 ps=some ns->ps=ns.map PV.int
 | [],_,e=>by cases e;rfl
 | .int i::r,_,e=>by
  obtain⟨ms,h1,rfl⟩:=Option.map_eq_some_iff.mp e
  rw[xY h1];rfl
theorem wF:∀ {ps:List PV} {ns:List Bool},wm ps=some ns->ps=ns.map PV.bl
 | [],_,e=>by cases e;rfl
 | .bl i::r,_,e=>by
  obtain⟨ms,h1,rfl⟩:=Option.map_eq_some_iff.mp e
  rw[wF h1];rfl
theorem rM:∀ (ns:List Int),u6 (ns.map PV.int)=some ns
 | []=>rfl
 | n::r=>by show (u6 (r.map PV.int)).map (n::·)=_;rw[rM r];rfl
theorem o5:∀ (ns:List Bool),wm (ns.map PV.bl)=some ns
 | []=>rfl
 | n::r=>by show (wm (r.map PV.bl)).map (n::·)=_;rw[o5 r];rfl
def IY:PV->M PV
 | .lst xs=>fe ((u6 xs).map λns=>.int ns.sum)
 | _=>none
def yq:List PV->M PV
 | [p]=>IY p
 | _=>none
theorem HW{K:PySem.W.Frag}:kL E (λxs H Q=>∃ (a:Addr) (ns:List Int),xs=[.ref a]/\ir K H a (ns.map V.int)/\Q (.int ns.sum) H) yq:=by
 intro σ Hs H ps vs Q s r h
 match ps,r with
 | [],_=>exact h.elim
 | _::_::_,_=>exact h.elim
 | [p],r =>
  obtain⟨v,rfl,rp⟩:=r.one
  cases rp with
  | lst ha hx =>
   obtain⟨x,ex,h⟩:=az.opt h
   obtain⟨ns,hn,rfl⟩:=Option.map_eq_some_iff.mp ex
   rw[xY hn] at hx
   exact⟨_,ns,rfl,hx.ints▸ir.of (s _ _ ha),eM.flat h s (.int _)⟩
  | _=>exact h.elim
def all1:PV->M PV
 | .lst xs=>fe ((wm xs).map λns=>.bl (ns.all id))
 | _=>none
def uZ:List PV->M PV
 | [p]=>all1 p
 | _=>none
theorem GB{K:PySem.W.Frag}:kL E (λxs H Q=>∃ (a:Addr) (bs:List Bool),xs=[.ref a]/\ir K H a (bs.map V.bl)/\Q (.bl (bs.all id)) H) uZ:=by
 intro σ Hs H ps vs Q s r h
 match ps,r with
 | [],_=>exact h.elim
 | _::_::_,_=>exact h.elim
 | [p],r =>
  obtain⟨v,rfl,rp⟩:=r.one
  cases rp with
  | lst ha hx =>
   obtain⟨x,ex,h⟩:=az.opt h
   obtain⟨ns,hn,rfl⟩:=Option.map_eq_some_iff.mp ex
   rw[wF hn] at hx
   exact⟨_,ns,rfl,hx.IC▸ir.of (s _ _ ha),eM.flat h s (.bl _)⟩
  | _=>exact h.elim
def K1(o:Int->Int->Int):PV->PV->M PV
 | .int i,.int j=>M.ok (.int (o i j))
 | _,_=>none
def E8(o:Int->Int->Int):List PV->M PV
 | [p,q]=>K1 o p q
 | _=>none
theorem Dc{o:Int->Int->Int}:kL E (λxs H Q=>∃ i j,xs=[.int i,.int j]/\Q (.int (o i j)) H) (E8 o):=by
 intro σ Hs H ps vs Q s r h
 match ps,r with
 | [],_=>exact h.elim
 | [_],_=>exact h.elim
 | _::_::_::_,_=>exact h.elim
 | [p,q],r =>
  obtain⟨v,u,rfl,rp,rq⟩:=r.two
  cases rp with
  | int i=>cases rq with
   | int j=>exact⟨i,j,rfl,eM.flat h s (.int _)⟩
   | _=>exact h.elim
  | _=>exact h.elim
end
def cQ(n:Nat)(sem:List PV->M PV):Sp:=λvs H Q E=>vs.length=n/\∃ Hs ps,bu Hs H/\aV Hs ps vs/\az (sem ps) (eM Hs H Q) (XW E Hs H)
section
variable{X:Cx}{E:St->XK}{k n:Nat}{f C:Addr}{fd:FuncData}{ps:List Str}{sem:List PV->M PV}{x m:Str}{p pos apos:Pos}{e o:Expr}{es:List Expr}{fs:af->M (List PV)}{g:af->M PV}
theorem DI{ds:List Value}{Nu:List V}{Ob:List PV}(F:aJ X.prog X.w X.K X.mg X.base (bF X.prog X.w) k f fd ps (cQ n sem))(hr:cx k X.A)(hg:Gl X x)(hm:X.mg x=some (.ref f))(hk:PySem.W.keepIn X.K (.ref f)=true)(hb:Binds X.K fd ps ds)(hd:Vals Nu ds)(hdp:∀ H,aV H Ob Nu)(O:fv X E)
  (hl:∀ ps,sem (ps++Ob)≠none->ps.length+Ob.length=n)
  (ha:PA X (e::es) (tL E fs)) (NN:autoParam ((x==("__debug__" : Str))=false) aD._auto_1) (he:autoParam (starEach (e::es) X.env=(false,eval e X.env)::starEach es X.env) aR._auto_1) (Nh:autoParam ((backTo pos (starEach es X.env)).any (·.1)=false) aR._auto_1) :
  PE X (.Call (.Name x p) (e::es) [] pos) (tE E (ai (λps=>sem (ps++Ob)) fs)):=by
 refine(BP F hr hg hm hk hb hd O ha NN he Nh).imp fun σ H Q q=>dD (K:=jZ Q) jZ.g q λB H₀ Hs H1 env N9 v sr rp hp=>?_
 have r2:aV Hs (N9++Ob) (v++Nu):=rp.append (hdp Hs)
 have hn:sem (N9++Ob)≠none:=λz=>by rw[z] at hp;exact hp
 refine⟨?_,Hs,N9++Ob,sr.gr.sub,r2,hp⟩
 rw[← r2.length,List.length_append]
 exact hl N9 hn
def dI(ok:Addr->Bool)(f:Str)(g:af->M PV):af->M PV:=λenv=>(g env).bind λp=>match p with
 | .obj C fs=>cD (ok C=true) (fe (fs.lookup f))
 | _=>none
theorem HR{ok:Addr->Bool}{fl:Str}(he:PE X e (tE E g))(bM:∀ C,ok C=true->jT X.K C/\bH X.K C fl)(hb:attributeBase e fl X.env (eval e X.env)=eval e X.env):PE X (.Attribute e fl pos) (tE E (dI ok fl g)):=by
 refine(HN he hb).imp fun σ H Q q=>cq (K:=jZ Q) jZ.g q λB H₀ Hs H1 env p v sr rp hp=>?_
 cases rp with
 | obj ha hx =>
  obtain⟨hc,hp⟩:=az.cD hp
  obtain⟨x,ex,hp⟩:=az.opt hp
  obtain⟨u,h1,h2⟩:=hx.look ex
  exact⟨_,_,_,_,u,rfl,sr.gr.sub _ _ ha,(bM _ hc).1,(bM _ hc).2,h1,eM.flat hp sr.gr.sub h2⟩
 | _=>exact hp.elim
def bo(C:Addr)(m:Str)(sem:List PV->M PV)(g:af->M PV)(fs:af->M (List PV)):af->M PV:=λenv=>(g env).bind λp=>match p with
 | .obj C' fl=>cD (C'=C/\fl.lookup m=none) ((fs env).bind λps=>sem (.obj C' fl::ps))
 | _=>none
theorem Df{pl:Sem Bool}(he:PE X o (tE E g))(c:jT X.K C)(hm:Meth X.K C m f)(F:aJ X.prog X.w X.K X.mg X.base (bF X.prog X.w) k f fd ps (cQ n sem))(hr:cx k X.A)(hb:Binds X.K fd ps [])(O:fv X E)(hl:∀ ps,sem ps≠none->ps.length=n)(ha:PA X (e::es) (tL E fs))
  (Nc:autoParam (starEach (e::es) X.env=(false,eval e X.env)::starEach es X.env) aR._auto_1) (Nh:autoParam ((backTo pos (starEach es X.env)).any (·.1)=false) aR._auto_1)
  (ht:autoParam (eval (.Call (.Attribute o m apos) (e::es) [] pos) X.env=(do
   let ov ← eval o X.env
   standAt apos.atName
   let (f,first) ← holding [ov] (getMethod ov m pl)
   callWith pos f first (backTo pos (starEach (e::es) X.env)) (backToKw pos (keywordEach [] X.env)))) aR._auto_1) :
  PE X (.Call (.Attribute o m apos) (e::es) [] pos) (tE E (bo C m sem g fs)):=by
 refine(Bb he c hm F hr hb .nil O ha Nc Nh ht).imp fun σ H Q q=>cq (K:=jZ Q) jZ.g q λB H₀ Hs H1 env p v sr rp hp=>?_
 cases rp with
 | @obj a C' dx fl fvs ho hx =>
  obtain⟨⟨e1,hn⟩,CI⟩:=az.cD hp
  subst e1
  refine⟨a,dx,fvs,rfl,sr.gr.sub _ _ ho,hx.none hn,B,H₀,Hs,env,sr,(az.bind CI).imp (λN9 O0 vs ML H' g' r=>?_) λe he=>he⟩
  have r2:aV ML (.obj C' fl::N9) (V.ref a::(vs++[])):=by rw[List.append_nil];exact .cons ((Rep.obj ho hx).mono g'.st) r
  have hn:sem (.obj C' fl::N9)≠none:=λz=>by rw[z] at O0;exact O0
  refine⟨by rw[← r2.length];exact hl _ hn,ML,_,g'.sub,r2,O0.imp (λz hz w MT H2 g2 r2=>hz w MT H2 (g'.trans g2) r2) λe he=>he.grow g'⟩
 | _=>exact hp.elim
theorem Aj{pl:Sem Bool}(he:PE X o (tE E g))(c:jT X.K C)(hm:Meth X.K C m f)(F:aJ X.prog X.w X.K X.mg X.base (bF X.prog X.w) k f fd ps (cQ n sem))(hr:cx k X.A)(hb:Binds X.K fd ps [])(O:fv X E)(hl:∀ ps,sem ps≠none->ps.length=n)
  (ht:autoParam (eval (.Call (.Attribute o m apos) [] [] pos) X.env=(do
   let ov ← eval o X.env
   standAt apos.atName
   let (f,first) ← holding [ov] (getMethod ov m pl)
   callWith pos f first (backTo pos (starEach [] X.env)) (backToKw pos (keywordEach [] X.env)))) aR._auto_1) :
  PE X (.Call (.Attribute o m apos) [] [] pos) (tE E (bo C m sem g ao)):=by
 refine(zp he c hm F hr hb .nil O ht).imp fun σ H Q q=>cq (K:=jZ Q) jZ.g q λB H₀ Hs H1 env p v sr rp hp=>?_
 cases rp with
 | @obj a C' dx fl fvs ho hx =>
  obtain⟨⟨e1,hn⟩,CI⟩:=az.cD hp
  subst e1
  have r2:aV Hs [.obj C' fl] [V.ref a]:=.cons (Rep.obj ho hx) .nil
  have hn':sem [.obj C' fl]≠none:=λz=>by
   have PK:az (sem [.obj C' fl]) (eM Hs H1 Q) (XW (E σ) Hs H1):=CI
   rw[z] at PK;exact PK
  exact⟨a,dx,fvs,rfl,sr.gr.sub _ _ ho,hx.none hn,by rw[show ([]:List V)++[]=[] from rfl];exact r2.length▸hl _ hn',Hs,_,sr.gr.sub,r2,CI⟩
 | _=>exact hp.elim
end
end L2
namespace L2
open PySem PySem.Spec PyProof.Rows
inductive Out where
 | nx (env:af) | rt (p:PV) | bk (env:af) | ct (env:af)
def KS(D:Ends)(B H₀:Hp):Out->Prop
 | .nx env=>∀ σ Hs H,SR B H₀ Hs H σ env->D.nx σ H
 | .rt p=>∀ v Hs H,bS B H₀ Hs H->Rep Hs p v->D.rt v H
 | .bk env=>∀ σ Hs H,SR B H₀ Hs H σ env->D.bk σ H
 | .ct env=>∀ σ Hs H,SR B H₀ Hs H σ env->D.ct σ H
def tS(E:XK)(f:af->M Out):TS:=λD σ H=>∃ B H₀ Hs env,SR B H₀ Hs H σ env/\az (f env) (KS D B H₀) (XW E B H₀)
theorem PS.imp{X:Cx}{st:Stmt}{t t':TS}(h:PS X st t)(i:∀ D σ H,t' D σ H->t D σ H):PS X st t':=λMG s σ H D I q=>h MG s σ H D I (i D σ H q)
theorem lZ.imp{X:Cx}{st:List Stmt}{t t':TS}(h:lZ X st t)(i:∀ D σ H,t' D σ H->t D σ H):lZ X st t':=λMG s σ H D I q=>h MG s σ H D I (i D σ H q)
def ar:af->M Out:=λenv=>M.ok (.nx env)
def Be(g:af->M Out):Out->M Out
 | .nx env=>g env
 | o=>M.ok o
noncomputable def aq(f g:af->M Out):af->M Out:=λenv=>(f env).bind (Be g)
theorem i9{E:XK}{f:af->M PV}{g:af->PV->M Out}{D:Ends}{σ:St}{H:Hp}{R:VK}(h:tS E (λenv=>(f env).bind (g env)) D σ H)
  (k:∀ B H₀ Hs H1 env p v,SR B H₀ Hs H1 σ env->Rep Hs p v->az (g env p) (KS D B H₀) (XW E B H₀)->R v H1):tE (λ_=>E) f σ H R:=by
 obtain⟨B,H₀,Hs,env,sr,h⟩:=h
 refine⟨B,H₀,Hs,env,sr,(az.bind h).imp (λp hp v ML H' g r=>?_) λe he=>he.grow sr.gr⟩
 exact k B H₀ ML H' env p v (sr.grow g) r hp
theorem Ar{E:XK}{f:af->M Bool}{g:af->Bool->M Out}{D:Ends}{σ:St}{H:Hp}{R:Bool->Hp->Prop}(h:tS E (λenv=>(f env).bind (g env)) D σ H)
  (k:∀ B H₀ Hs H1 env p,SR B H₀ Hs H1 σ env->az (g env p) (KS D B H₀) (XW E B H₀)->R p H1):tT (λ_=>E) f σ H R:=by
 obtain⟨B,H₀,Hs,env,sr,h⟩:=h
 refine⟨B,H₀,Hs,env,sr,(az.bind h).imp (λp hp ML H' g=>?_) λe he=>he.grow sr.gr⟩
 exact k B H₀ ML H' env p (sr.grow g) hp
theorem pY{E:XK}{f:af->M (List PV)}{g:af->List PV->M Out}{D:Ends}{σ:St}{H:Hp}{R:List V->Hp->Prop}(h:tS E (λenv=>(f env).bind (g env)) D σ H)
  (k:∀ B H₀ Hs H1 env p v,SR B H₀ Hs H1 σ env->aV Hs p v->az (g env p) (KS D B H₀) (XW E B H₀)->R v H1):tL (λ_=>E) f σ H R:=by
 obtain⟨B,H₀,Hs,env,sr,h⟩:=h
 refine⟨B,H₀,Hs,env,sr,(az.bind h).imp (λp hp v ML H' g r=>?_) λe he=>he.grow sr.gr⟩
 exact k B H₀ ML H' env p v (sr.grow g) r hp
theorem SR.set{B H₀ Hs H:Hp}{σ:St}{env:af}{p:PV}{v:V}{i:Nat}(r:SR B H₀ Hs H σ env)(h:Rep Hs p v):SR B H₀ Hs H (σ.set i (some v)) (env.set i (some (.sh p))) where
 gr:=r.gr
 len:=by rw[List.length_set,List.length_set];exact r.len
 sh:=λj q e=>by
  rw[List.getElem?_set] at e ⊢
  by_cases z:i=j
  ·subst z
   rw[if_pos rfl] at e ⊢
   split at e
   ·cases e
    rw[if_pos (by rw[r.len];assumption)]
    exact⟨v,rfl,h⟩
   ·cases e
  ·rw[if_neg z] at e ⊢
   exact r.sh j q e
 ow:=λj xs e=>by
  rw[List.getElem?_set] at e ⊢
  by_cases z:i=j
  ·subst z
   rw[if_pos rfl] at e
   split at e <;> cases e
  ·rw[if_neg z] at e ⊢
   exact r.ow j xs e
 sep:=λj k xs ys a n e1 e2 e3 e4=>by
  rw[List.getElem?_set] at e1 e2 e3 e4
  by_cases z:i=j
  ·subst z
   rw[if_pos rfl] at e1
   split at e1 <;> cases e1
  ·by_cases z2:i=k
   ·subst z2
    rw[if_pos rfl] at e2
    split at e2 <;> cases e2
   ·rw[if_neg z] at e1 e3
    rw[if_neg z2] at e2 e4
    exact r.sep j k xs ys a n e1 e2 e3 e4
 bd:=λj a C fs e=>by
  rw[List.getElem?_set] at e ⊢
  by_cases z:i=j
  ·subst z
   rw[if_pos rfl] at e
   split at e <;> cases e
  ·rw[if_neg z] at e ⊢
   exact r.bd j a C fs e
 one:=λj k a b C D fs gs e1 e2=>by
  rw[List.getElem?_set] at e1 e2
  by_cases z:i=j
  ·subst z
   rw[if_pos rfl] at e1
   split at e1 <;> cases e1
  ·by_cases z2:i=k
   ·subst z2
    rw[if_pos rfl] at e2
    split at e2 <;> cases e2
   ·rw[if_neg z] at e1
    rw[if_neg z2] at e2
    exact r.one j k _ _ C D fs gs e1 e2
theorem SR.own{B H₀ Hs H:Hp}{σ:St}{env:af}{xs:List PV}{vs:List V}{i:Nat}{p:Addr}(r:SR B H₀ Hs H σ env)(h:aV Hs xs vs)(n:H p=none):SR B H₀ Hs (upd H p (.lst vs)) (σ.set i (some (.ref p))) (env.set i (some (.ow xs))):=by
 have ne:∀ c u,H c=some u->c≠p:=λc u e z=>by rw[z,n] at e;cases e
 have hs:Hs p=none:=by
  cases q:Hs p with
  | none=>rfl
  | some o=>have:=r.gr.sub _ _ q;rw[n] at this;cases this
 have h0:H₀ p=none:=by
  cases q:H₀ p with
  | none=>rfl
  | some o=>have:=r.gr.al _ _ q;rw[n] at this;cases this
 refine⟨⟨r.gr.st,λc u e=>by rw[aw (ne c u (r.gr.al c u e))];exact r.gr.al c u e,λc u e=>by rw[aw (ne c u (r.gr.sub c u e))];exact r.gr.sub c u e,r.gr.nw⟩,by rw[List.length_set,List.length_set];exact r.len,λj q e=>?_,λj ys e=>?_,λj k ys zs a nj e1 e2 e3 e4=>?_,λj ba C fs e=>?_,λj k _ _ C D fs gs e1 e2=>?_⟩
 ·rw[List.getElem?_set] at e ⊢
  by_cases z:i=j
  ·subst z
   rw[if_pos rfl] at e
   split at e <;> cases e
  ·rw[if_neg z] at e ⊢
   exact r.sh j q e
 ·rw[List.getElem?_set] at e ⊢
  by_cases z:i=j
  ·subst z
   rw[if_pos rfl] at e ⊢
   split at e
   ·cases e
    rw[if_pos (by rw[r.len];assumption)]
    exact⟨p,vs,rfl,aB,hs,h0,h⟩
   ·cases e
  ·rw[if_neg z] at e ⊢
   obtain⟨a,us,h1,h2,h3,h4,h5⟩:=r.ow j ys e
   exact⟨a,us,h1,by rw[aw (ne a _ h2)];exact h2,h3,h4,h5⟩
 ·rw[List.getElem?_set] at e1 e2 e3 e4
  by_cases z:i=j
  ·subst z
   rw[if_pos rfl] at e3
   split at e3
   ·cases e3
    rw[if_neg nj] at e2 e4
    obtain⟨a',us,h1,h2,_⟩:=r.ow k zs e2
    rw[e4] at h1;cases h1
    rw[n] at h2;cases h2
   ·cases e3
  ·rw[if_neg z] at e1 e3
   by_cases z2:i=k
   ·subst z2
    rw[if_pos rfl] at e4
    split at e4
    ·cases e4
     obtain⟨a',us,h1,h2,_⟩:=r.ow j ys e1
     rw[e3] at h1;cases h1
     rw[n] at h2;cases h2
    ·cases e4
   ·rw[if_neg z2] at e2 e4
    exact r.sep j k ys zs a nj e1 e2 e3 e4
 ·rw[List.getElem?_set] at e ⊢
  by_cases z:i=j
  ·subst z
   rw[if_pos rfl] at e
   split at e <;> cases e
  ·rw[if_neg z] at e ⊢
   obtain⟨dx,us,h1,h2,h3,h4,h5⟩:=r.bd j ba C fs e
   exact⟨dx,us,h1,by rw[aw (ne ba _ h2)];exact h2,h3,h4,h5⟩
 ·rw[List.getElem?_set] at e1 e2
  by_cases z:i=j
  ·subst z
   rw[if_pos rfl] at e1
   split at e1 <;> cases e1
  ·by_cases z2:i=k
   ·subst z2
    rw[if_pos rfl] at e2
    split at e2 <;> cases e2
   ·rw[if_neg z] at e1
    rw[if_neg z2] at e2
    exact r.one j k _ _ C D fs gs e1 e2
def sA(i:Nat)(env:af):af:=match env[i]? with
 | some (some (.ow xs))=>env.set i (some (.sh (.lst xs)))
 | _=>env
theorem SR.qB{B H₀ Hs H:Hp}{σ:St}{env:af}(i:Nat)(r:SR B H₀ Hs H σ env):∃ ML,SR B H₀ ML H σ (sA i env)/\bu Hs ML:=by
 unfold sA
 split
 ·rename_i xs e
  obtain⟨a,vs,h1,h2,h3,h4,h5⟩:=r.ow i xs e
  have ne:∀ c u,Hs c=some u->c≠a:=λc u q z=>by rw[z,h3] at q;cases q
  have Nc:bu Hs (upd Hs a (.lst vs)):=λc u q=>by rw[aw (ne c u q)];exact q
  refine⟨upd Hs a (.lst vs),⟨⟨λc u q=>Nc c u (r.gr.st c u q),r.gr.al,λc u q=>?_,λc u q1 q2=>?_⟩,by rw[List.length_set];exact r.len,λj q ej=>?_,λj ys ej=>?_,λj k ys zs b nj e1 e2 e3 e4=>?_,λj ba C fs ej=>?_,λj k _ _ C D fs gs e1 e2=>?_⟩,Nc⟩
  ·by_cases z:c=a
   ·subst z;rw[aB] at q;cases q;exact h2
   ·rw[aw z] at q;exact r.gr.sub c u q
  ·have z:c≠a:=λz=>by rw[z,h4] at q2;cases q2
   rw[aw z];exact r.gr.nw c u q1 q2
  ·rw[List.getElem?_set] at ej
   by_cases z:i=j
   ·subst z
    rw[if_pos rfl] at ej
    split at ej
    ·cases ej
     exact⟨.ref a,h1,.lst aB (h5.mono Nc)⟩
    ·cases ej
   ·rw[if_neg z] at ej
    obtain⟨v,q1,q2⟩:=r.sh j q ej
    exact⟨v,q1,q2.mono Nc⟩
  ·rw[List.getElem?_set] at ej
   by_cases z:i=j
   ·subst z
    rw[if_pos rfl] at ej
    split at ej <;> cases ej
   ·rw[if_neg z] at ej
    obtain⟨b,us,q1,q2,q3,q4,q5⟩:=r.ow j ys ej
    have nb:b≠a:=λw=>by subst w;exact r.sep i j xs ys b z e ej h1 q1
    exact⟨b,us,q1,q2,by rw[aw nb];exact q3,q4,q5.mono Nc⟩
  ·rw[List.getElem?_set] at e1 e2
   by_cases z:i=j
   ·subst z
    rw[if_pos rfl] at e1
    split at e1 <;> cases e1
   ·by_cases z2:i=k
    ·subst z2
     rw[if_pos rfl] at e2
     split at e2 <;> cases e2
    ·rw[if_neg z] at e1
     rw[if_neg z2] at e2
     exact r.sep j k ys zs b nj e1 e2 e3 e4
  ·rw[List.getElem?_set] at ej
   by_cases z:i=j
   ·subst z
    rw[if_pos rfl] at ej
    split at ej <;> cases ej
   ·rw[if_neg z] at ej
    obtain⟨dx,us,q1,q2,q3,q4,q5⟩:=r.bd j ba C fs ej
    have nb:ba≠a:=λw=>by subst w;rw[h2] at q2;cases q2
    exact⟨dx,us,q1,q2,by rw[aw nb];exact q3,q4,q5.mono Nc⟩
  ·rw[List.getElem?_set] at e1 e2
   by_cases z:i=j
   ·subst z
    rw[if_pos rfl] at e1
    split at e1 <;> cases e1
   ·by_cases z2:i=k
    ·subst z2
     rw[if_pos rfl] at e2
     split at e2 <;> cases e2
    ·rw[if_neg z] at e1
     rw[if_neg z2] at e2
     exact r.one j k _ _ C D fs gs e1 e2
 ·exact⟨Hs,r,λ_ _ q=>q⟩
def nI(is:List Nat)(f:af->M Out):af->M Out:=λenv=>f (is.foldl (λe i=>sA i e) env)
theorem SR.mD{B H₀ H:Hp}{σ:St}:∀ {is:List Nat} {Hs:Hp} {env:af},SR B H₀ Hs H σ env->∃ ML,SR B H₀ ML H σ (is.foldl (λe i=>sA i e) env)/\bu Hs ML
 | [],Hs,_,r=>⟨Hs,r,λ_ _ q=>q⟩
 | i::is,_,_,r=>by
  obtain⟨MQ,r1,s1⟩:=r.qB i
  obtain⟨MT,r2,s2⟩:=SR.mD (is:=is) r1
  exact⟨MT,r2,λc u q=>s2 c u (s1 c u q)⟩
section
variable{X:Cx}{E:XK}{e:Expr}{pos pos':Pos}{f:af->M PV}{st:Stmt}{sts rest:List Stmt}{u:af->M Bool}{g h:af->M Out}{i:Nat}{x:Str}
theorem Ig(is:List Nat)(hs:PS X st (tS E g)):PS X st (tS E (nI is g)):=hs.imp λD σ H q=>by
 obtain⟨B,H₀,Hs,env,sr,q⟩:=q
 obtain⟨ML,r,_⟩:=sr.mD (is:=is)
 exact⟨B,H₀,ML,_,r,q⟩
theorem DK:lZ X [] (tS E ar):=EC.imp λD σ H q=>by
 obtain⟨B,H₀,Hs,env,sr,q⟩:=q
 exact q σ Hs H sr
theorem Cu(h1:PS X st (tS E g))(h2:lZ X rest (tS E h)):lZ X (st::rest) (tS E (aq g h)):=by
 refine(AB h1 h2).imp λD σ H q=>?_
 obtain⟨B,H₀,Hs,env,sr,q⟩:=q
 refine⟨B,H₀,Hs,env,sr,(az.bind q).imp (λo ho=>?_) λe he=>he⟩
 cases o with
 | nx MI=>exact fun σ' ML H' Ot=>⟨B,H₀,ML,MI,Ot,ho⟩
 | rt p=>exact ho
 | bk MI=>exact ho
 | ct MI=>exact ho
def bb(i:Nat)(f:af->M PV):af->M Out:=λenv=>(f env).bind λp=>M.ok (.nx (env.set i (some (.sh p))))
theorem GD{pos':Pos}(hN:X.N.Nodup)(hi:X.N[i]?=some x)(hx:Loc X.env.scope x)(he:PE X e (tE (λ_=>E) f))(hs:autoParam (swapsWith e (some (.Name x pos')) pos.line X.env=pure false) aR._auto_1)(hf:autoParam (X.fn x=true\/X.env.scope.names.lookup x=some .local) aF._auto_1) :
  PS X (.Assign [.Name x pos'] e pos) (tS E (bb i f)) :=
 (AI hN hi hx he hs hf).imp λD σ H q=>i9 q λB H₀ Hs H1 env p v sr rp hp=>hp _ Hs H1 (sr.set rp)
def retS(f:af->M PV):af->M Out:=λenv=>(f env).bind λp=>M.ok (.rt p)
theorem Hi(he:PE X e (tE (λ_=>E) f)):PS X (.Return (some e) pos) (tS E (retS f)) :=
 (Hm he).imp λD σ H q=>i9 q λB H₀ Hs H1 env p v sr rp hp=>hp v Hs H1 sr.gr rp
def kK(f:af->M PV):af->M Out:=λenv=>(f env).bind λ_=>M.ok (.nx env)
theorem EG(he:PE X e (tE (λ_=>E) f))(hs:autoParam (swapsWith e none pos.line X.env=pure false) aR._auto_1):PS X (.Expr e pos) (tS E (kK f)) :=
 (x9 he hs).imp λD σ H q=>i9 q λB H₀ Hs H1 env p v sr rp hp=>hp σ Hs H1 sr
def jJ(u:af->M Bool)(g h:af->M Out):af->M Out:=λenv=>(u env).bind λb=>if b=true then g env else h env
theorem Jz{c:Expr}{a b:List Stmt}(hc:PT X c (tT (λ_=>E) u))(ha:lZ X a (tS E g))(hb:lZ X b (tS E h)):PS X (.If c a b pos) (tS E (jJ u g h)):=by
 refine(Je hc ha hb).imp λD σ H q=>Ar q λB H₀ Hs H1 env p sr hp=>?_
 cases p with
 | true=>exact⟨B,H₀,Hs,env,sr,hp⟩
 | false=>exact⟨B,H₀,Hs,env,sr,hp⟩
end
end L2
namespace L2
open PySem PySem.Spec PyProof.Rows
def ov(Hs H₀:Hp):Hp:=λa=>match Hs a with
 | some o=>some o
 | none=>H₀ a
theorem oI{Hs H₀:Hp}{a:Addr}{o:HO}(h:Hs a=some o):ov Hs H₀ a=some o:=by unfold ov;rw[h]
theorem jE{Hs H₀:Hp}{a:Addr}(h:Hs a=none):ov Hs H₀ a=H₀ a:=by unfold ov;rw[h]
theorem EB{Hs H₀ H:Hp}(s:bu Hs H)(t:bu H₀ H):bu (ov Hs H₀) H:=λa o e=>by
 cases q:Hs a with
 | some o'=>rw[oI q] at e;cases e;exact s _ _ q
 | none=>rw[jE q] at e;exact t _ _ e
theorem SR.rebase{B H₀ Hs H:Hp}{σ:St}{env:af}(r:SR B H₀ Hs H σ env):SR Hs (ov Hs H₀) Hs H σ env where
 gr:=⟨λ_ _ e=>e,EB r.gr.sub r.gr.al,r.gr.sub,λ_ _ e _=>e⟩
 len:=r.len
 sh:=r.sh
 ow:=λi xs e=>let ⟨a,vs,h1,h2,h3,h4,h5⟩:=r.ow i xs e;⟨a,vs,h1,h2,h3,by rw[jE h3];exact h4,h5⟩
 sep:=r.sep
 bd:=λi a C fs e=>let ⟨dx,vs,h1,h2,h3,h4,h5⟩:=r.bd i a C fs e;⟨dx,vs,h1,h2,h3,by rw[jE h3];exact h4,h5⟩
 one:=r.one
theorem bS.kT{B H₀ Hs H MT H2:Hp}(g:bS B H₀ Hs H)(g2:bS Hs (ov Hs H₀) MT H2):bS B H₀ MT H2 where
 st:=λa o e=>g2.st a o (g.st a o e)
 al:=λa o e=>by
  cases q:Hs a with
  | some o' =>
   have h1:=g.sub a o' q
   have h2:=g.al a o e
   rw[h1] at h2;cases h2
   exact g2.al a _ (oI q)
  | none=>exact g2.al a o (by rw[jE q];exact e)
 sub:=g2.sub
 nw:=λa o e q=>by
  have h1:=g.nw a o e q
  exact g2.nw a o h1 (by rw[jE h1];exact q)
theorem SR.kT{B H₀ Hs H MT H2:Hp}{σ:St}{env:af}(g:bS B H₀ Hs H)(r:SR Hs (ov Hs H₀) MT H2 σ env):SR B H₀ MT H2 σ env where
 gr:=g.kT r.gr
 len:=r.len
 sh:=r.sh
 ow:=λi xs e=>by
  obtain⟨a,vs,h1,h2,h3,h4,h5⟩:=r.ow i xs e
  refine⟨a,vs,h1,h2,h3,?_,h5⟩
  cases q:Hs a with
  | some o=>rw[oI q] at h4;cases h4
  | none=>rw[jE q] at h4;exact h4
 sep:=r.sep
 bd:=λi a C fs e=>by
  obtain⟨dx,vs,h1,h2,h3,h4,h5⟩:=r.bd i a C fs e
  refine⟨dx,vs,h1,h2,h3,?_,h5⟩
  cases q:Hs a with
  | some o=>rw[oI q] at h4;cases h4
  | none=>rw[jE q] at h4;exact h4
 one:=r.one
theorem XW.rebase{E:XK}{B H₀ Hs H:Hp}(g:bS B H₀ Hs H){x:EX}(h:XW E B H₀ x):XW E Hs (ov Hs H₀) x:=λea MT H2 r q=>h ea MT H2 (g.kT r) q
def JJ(k:af->M Out):Out->M Out
 | .nx env=>k env
 | .ct env=>k env
 | .bk env=>M.ok (.nx env)
 | .rt p=>M.ok (.rt p)
def i8(set:PV->af->M af)(body:af->M Out):List PV->af->M Out
 | [],env=>M.ok (.nx env)
 | x::xs,env=>(set x env).bind λMI=>(body MI).bind (JJ (i8 set body xs))
def CJ(E:XK)(g:TG)(set:PV->af->M af):Prop:=∀ (B H₀ Hs H:Hp) (σ:St) (env:af) (p:PV) (v:V) (Q:St->Hp->Prop) (Z:EX->Prop),SR B H₀ Hs H σ env->Rep Hs p v->az (set p env) (λMI=>∀ σ',SR B H₀ Hs H σ' MI->Q σ' H) Z->g v σ H Q
def bG(i:Nat)(p:PV)(env:af):M af:=M.ok (env.set i (some (.sh p)))
theorem bh{E:XK}{i:Nat}:CJ E (aH i) (bG i):=λB H₀ Hs H σ env p v Q Z sr r h=>h _ (sr.set r)
def bQ(i j:Nat):PV->af->M af
 | .tup [p,q],env=>M.ok ((env.set i (some (.sh p))).set j (some (.sh q)))
 | _,_=>none
theorem cC{E:XK}{K:PySem.W.Frag}{i j:Nat}:CJ E (iq K 2 (bq (aH i) (bq (aH j) ip))) (bQ i j):=by
 intro B H₀ Hs H σ env p v Q Z sr r h
 cases r with
 | @tup a xs vs ha hx =>
  match xs,hx with
  | [p,q],hx =>
   obtain⟨v,u,rfl,rp,rq⟩:=hx.two
   exact⟨a,[v,u],rfl,h_.of (sr.gr.sub _ _ ha),rfl,v,[u],rfl,u,[],rfl,rfl,h _ ((sr.set rp).set rq)⟩
  | [],_=>exact h.elim
  | [_],_=>exact h.elim
  | _::_::_::_,_=>exact h.elim
 | _=>exact h.elim
section
variable{E:XK}{g:TG}{set:PV->af->M af}{body:af->M Out}{D:Ends}{B H₀ MQ:Hp}{xs:List PV}
def Jv(E:XK)(set:PV->af->M af)(body:af->M Out)(D:Ends)(B H₀ MQ:Hp)(xs:List PV)(i:Nat)(σ:St)(H:Hp):Prop:=∃ Hs env,SR B H₀ Hs H σ env/\bu MQ Hs/\az (i8 set body (xs.drop i) env) (KS D B H₀) (XW E B H₀)
theorem Jv.done{n:Nat}{σ:St}{H:Hp}(j:Jv E set body D B H₀ MQ xs n σ H)(hn:xs.length<=n):D.nx σ H:=by
 obtain⟨Hs,env,sr,_,h⟩:=j
 rw[List.drop_eq_nil_of_le hn] at h
 exact h σ Hs H sr
theorem Jv.turn{i:Nat}{σ:St}{H H1 Hx:Hp}{x:PV}{v:V}(tg:CJ E g set)(hx:xs[i]?=some x){Hs:Hp}{env:af}(sr:SR B H₀ Hs H σ env)(s1:bu MQ Hs)(h:az (i8 set body (xs.drop i) env) (KS D B H₀) (XW E B H₀)){MT H2:Hp}(gr:bS Hs H MT H2)(rv:Rep MT x v) :
  g v σ H2 fun σ2 H3=>tS E body { D with nx:=Jv E set body D B H₀ MQ xs (i+1),ct:=Jv E set body D B H₀ MQ xs (i+1),bk:=D.nx } σ2 H3:=by
 have ND:i<xs.length:=(List.getElem?_eq_some_iff.mp hx).1
 have hd:xs.drop i=x::xs.drop (i+1):=by
  rw[List.drop_eq_getElem_cons ND]
  rw[List.getElem?_eq_getElem ND] at hx
  rw[Option.some.inj hx]
 rw[hd] at h
 have Ng:=sr.grow gr
 refine tg B H₀ MT H2 σ env x v _ _ Ng rv ((az.bind h).imp (λMI h' σ' Ot=>?_) λ_ z=>z)
 refine⟨MT,ov MT H₀,MT,MI,Ot.rebase,(az.bind h').imp (λo ho=>?_) λe he=>he.rebase Ot.gr⟩
 cases o with
 | nx e2=>exact fun σ3 Oa H3 r=>⟨Oa,e2,r.kT Ot.gr,λa o z=>r.gr.st a o (gr.st a o (s1 a o z)),ho⟩
 | ct e2=>exact fun σ3 Oa H3 r=>⟨Oa,e2,r.kT Ot.gr,λa o z=>r.gr.st a o (gr.st a o (s1 a o z)),ho⟩
 | bk e2=>exact fun σ3 Oa H3 r=>ho σ3 Oa H3 (r.kT Ot.gr)
 | rt p=>exact λv3 Oa H3 r q=>ho v3 Oa H3 (Ot.gr.kT r) q
end
def f6(it:af->M (List PV))(set:PV->af->M af)(body:af->M Out):af->M Out:=λenv=>(it env).bind λxs=>i8 set body xs env
def itemsOf(f:af->M PV):af->M (List PV):=λenv=>(f env).bind λp=>match bL p with | some xs=>M.ok xs | none=>none
theorem kC{K:PySem.W.Frag}{Hs H:Hp}{p:PV}{v:V}{xs:List PV}(s:bu Hs H)(r:Rep Hs p v)(e:bL p=some xs):∃ b a vs,v=.ref a/\(∀ ML H',bu Hs ML->bu ML H'->kI K H' b a vs)/\aV Hs xs vs:=by
 cases r with
 | tup h r=>cases e;exact⟨false,_,_,rfl,λML H' s1 s2=>h_.of (s2 _ _ (s1 _ _ h)),r⟩
 | lst h r=>cases e;exact⟨true,_,_,rfl,λML H' s1 s2=>ir.of (s2 _ _ (s1 _ _ h)),r⟩
 | jO h r=>cases e;exact⟨true,_,_,rfl,λML H' s1 s2=>.inl (.inr ⟨_,s2 _ _ (s1 _ _ h)⟩),r⟩
 | _=>cases e
section
variable{X:Cx}{E:XK}{tg iter:Expr}{pos p:Pos}{f f2:af->M PV}{g:TG}{set:PV->af->M af}{body:af->M Out}{bd:List Stmt}
end
end L2
namespace L2
open PySem PySem.Spec PyProof.Rows
def Lw:PV->M (List PV)
 | .int n=>cD (-(2^62)<=n/\n<2^62) (M.ok ((List.range n.toNat).map λ(i:Nat)=>.int (0+(i:Int))))
 | _=>none
def LH:PV->PV->M (List PV)
 | .int a,.int b=>cD (-(2^62)<=a/\a<2^62/\-(2^62)<=b/\b<2^62) (M.ok ((List.range (b-a).toNat).map λ(i:Nat)=>.int (a+(i:Int))))
 | _,_=>none
def nK:List PV->M (List PV)
 | [p]=>Lw p
 | _=>none
def yP:List PV->M (List PV)
 | [p,q]=>LH p q
 | _=>none
theorem yp{ps:List PV}{α:Type}{k:List PV->M α}{Q:α->Prop}{Z:EX->Prop}(h:az ((nK ps).bind k) Q Z):∃ n:Int,ps=[.int n]/\-(2^62)<=n/\n<2^62/\az (k ((List.range n.toNat).map λ(i:Nat)=>.int (0+(i:Int)))) Q Z:=by
 match ps with
 | []=>exact h.elim
 | _::_::_=>exact h.elim
 | [p] =>
  cases p with
  | int n =>
   obtain⟨hc,h⟩:=az.cD (az.bind h)
   exact⟨n,rfl,hc.1,hc.2,h⟩
  | _=>exact h.elim
theorem zS{ps:List PV}{α:Type}{k:List PV->M α}{Q:α->Prop}{Z:EX->Prop}(h:az ((yP ps).bind k) Q Z):∃ a b:Int,ps=[.int a,.int b]/\(-(2^62)<=a/\a<2^62/\-(2^62)<=b/\b<2^62)/\az (k ((List.range (b-a).toNat).map λ(i:Nat)=>.int (a+(i:Int)))) Q Z:=by
 match ps with
 | []=>exact h.elim
 | [_]=>exact h.elim
 | _::_::_::_=>exact h.elim
 | [p,q] =>
  cases p with
  | int a=>cases q with
   | int b =>
    obtain⟨hc,h⟩:=az.cD (az.bind h)
    exact⟨a,b,rfl,hc,h⟩
   | _=>exact h.elim
  | _=>exact h.elim
def zip2:List PV->M (List PV)
 | [p,q]=>match bL p,bL q with
  | some xs,some ys=>M.ok (List.zipWith (λa b=>.tup [a,b]) xs ys)
  | _,_=>none
 | _=>none
theorem za{ps:List PV}{α:Type}{k:List PV->M α}{Q:α->Prop}{Z:EX->Prop}(h:az ((zip2 ps).bind k) Q Z):∃ p q xs ys,ps=[p,q]/\bL p=some xs/\bL q=some ys/\az (k (List.zipWith (λa b=>.tup [a,b]) xs ys)) Q Z:=by
 match ps with
 | []=>exact h.elim
 | [_]=>exact h.elim
 | _::_::_::_=>exact h.elim
 | [p,q] =>
  unfold zip2 at h
  dsimp only at h
  cases e1:bL p with
  | none=>rw[e1] at h;exact h.elim
  | some xs =>
   cases e2:bL q with
   | none=>rw[e1,e2] at h;exact h.elim
   | some ys=>rw[e1,e2] at h;exact⟨p,q,xs,ys,rfl,e1,e2,h⟩
theorem yr{n i:Nat}{f:Nat->PV}(h:i<n):((List.range n).map f)[i]?=some (f i):=by
 rw[List.getElem?_map,List.getElem?_range h];rfl
section
variable{X:Cx}{E:XK}{tg a b l l1 l2:Expr}{pos p tp:Pos}{fs:af->M (List PV)}{g:TG}{set:PV->af->M af}{body:af->M Out}{bd:List Stmt}
end
def KO(Q:VK):Hp->Hp->List PV->Prop:=λHs H ps=>∀ vs p ML H',bS Hs H ML H'->aV ML ps vs->H' p=none->Q (.ref p) (upd H' p (.lst vs))
def tO(E:St->XK)(f:af->M (List PV)):TE:=fun σ H Q=>tG E f (KO Q) σ H
section
variable{X:Cx}{E:XK}{e:Expr}{es:List Expr}{pos pos':Pos}{fs:af->M (List PV)}{f:af->M PV}{i:Nat}{x:Str}
def n9(i:Nat)(f:af->M (List PV)):af->M Out:=λenv=>(f env).bind λps=>M.ok (.nx (env.set i (some (.ow ps))))
theorem Ee{pos':Pos}(hN:X.N.Nodup)(hi:X.N[i]?=some x)(hx:Loc X.env.scope x)(he:PE X e (tO (λ_=>E) fs))(hs:autoParam (swapsWith e (some (.Name x pos')) pos.line X.env=pure false) aR._auto_1)(hf:autoParam (X.fn x=true\/X.env.scope.names.lookup x=some .local) aF._auto_1) :
  PS X (.Assign [.Name x pos'] e pos) (tS E (n9 i fs)):=by
 refine(AI hN hi hx he hs hf).imp λD σ H q=>?_
 obtain⟨B,H₀,Hs,env,sr,q⟩:=q
 refine⟨B,H₀,Hs,env,sr,(az.bind q).imp (λps hp vs p ML H' g r n=>?_) λe he=>he.grow sr.gr⟩
 exact hp _ ML _ ((sr.grow g).own r n)
def jN(fs:af->M (List PV)):af->M (List PV):=λenv=>(fs env).bind λps=>if ps.length<=sizeLine then M.ok ps else none
theorem FZ{E:St->XK}(hr:PA X es (tL E fs)):PE X (.List es pos) (tO E (jN fs)):=by
 refine(AJ hr).imp fun σ H Q q=>?_
 obtain⟨B,H₀,Hs,env,sr,q⟩:=q
 refine⟨B,H₀,Hs,env,sr,(az.bind q).imp (λps hp vs ML H' g r=>?_) λe he=>he⟩
 by_cases hz:ps.length<=sizeLine
 ·rw[if_pos hz] at hp
  exact⟨by rw[← r.length];exact hz,λp n=>hp vs p ML H' g r n⟩
 ·rw[if_neg hz] at hp;exact hp.elim
def iW(i:Nat)(f:af->M PV):af->M Out:=λenv=>match env[i]? with
 | some (some (.ow xs))=>(f env).bind λp=>if xs.length<sizeLine then M.ok (.nx (env.set i (some (.ow (xs++[p]))))) else none
 | _=>none
theorem SR.put{B H₀ Hs H:Hp}{σ:St}{env:af}{i:Nat}{a:Addr}{xs ys:List PV}{us:List V}(r:SR B H₀ Hs H σ env)(e:env[i]?=some (some (.ow xs)))(hi:σ[i]?=some (some (.ref a)))(h:aV Hs ys us):SR B H₀ Hs (upd H a (.lst us)) σ (env.set i (some (.ow ys))):=by
 obtain⟨a',vs,h1,h2,h3,h4,h5⟩:=r.ow i xs e
 rw[hi] at h1;cases h1
 have nS:∀ c u,Hs c=some u->c≠a:=λc u q z=>by rw[z,h3] at q;cases q
 have n0:∀ c u,H₀ c=some u->c≠a:=λc u q z=>by rw[z,h4] at q;cases q
 refine⟨⟨r.gr.st,λc u q=>by rw[aw (n0 c u q)];exact r.gr.al c u q,λc u q=>by rw[aw (nS c u q)];exact r.gr.sub c u q,r.gr.nw⟩,by rw[List.length_set];exact r.len,λj q ej=>?_,λj zs ej=>?_,λj k y1 y2 b nj e1 e2 e3 e4=>?_,λj ba C fs ej=>?_,λj k _ _ C D fs gs e1 e2=>?_⟩
 ·rw[List.getElem?_set] at ej
  by_cases z:i=j
  ·subst z
   rw[if_pos rfl] at ej
   split at ej <;> cases ej
  ·rw[if_neg z] at ej;exact r.sh j q ej
 ·rw[List.getElem?_set] at ej
  by_cases z:i=j
  ·subst z
   rw[if_pos rfl] at ej
   split at ej
   ·cases ej;exact⟨a,us,hi,aB,h3,h4,h⟩
   ·cases ej
  ·rw[if_neg z] at ej
   obtain⟨b,ws,q1,q2,q3,q4,q5⟩:=r.ow j zs ej
   have nb:b≠a:=λw=>by subst w;exact r.sep i j xs zs b z e ej hi q1
   exact⟨b,ws,q1,by rw[aw nb];exact q2,q3,q4,q5⟩
 ·have o1:∃ w,env[j]?=some (some (.ow w)):=by
   rw[List.getElem?_set] at e1
   by_cases z:i=j
   ·subst z;exact⟨xs,e⟩
   ·rw[if_neg z] at e1;exact⟨_,e1⟩
  have o2:∃ w,env[k]?=some (some (.ow w)):=by
   rw[List.getElem?_set] at e2
   by_cases z:i=k
   ·subst z;exact⟨xs,e⟩
   ·rw[if_neg z] at e2;exact⟨_,e2⟩
  obtain⟨w1,o1⟩:=o1
  obtain⟨w2,o2⟩:=o2
  exact r.sep j k w1 w2 b nj o1 o2 e3 e4
 ·rw[List.getElem?_set] at ej
  by_cases z:i=j
  ·subst z
   rw[if_pos rfl] at ej
   split at ej <;> cases ej
  ·rw[if_neg z] at ej
   obtain⟨dx,ws,q1,q2,q3,q4,q5⟩:=r.bd j ba C fs ej
   have nb:ba≠a:=λw=>by subst w;rw[h2] at q2;cases q2
   exact⟨dx,ws,q1,by rw[aw nb];exact q2,q3,q4,q5⟩
 ·rw[List.getElem?_set] at e1 e2
  by_cases z:i=j
  ·subst z
   rw[if_pos rfl] at e1
   split at e1 <;> cases e1
  ·by_cases z2:i=k
   ·subst z2
    rw[if_pos rfl] at e2
    split at e2 <;> cases e2
   ·rw[if_neg z] at e1
    rw[if_neg z2] at e2
    exact r.one j k _ _ C D fs gs e1 e2
theorem yW{apos MX px:Pos}(hi:X.N[i]?=some x)(hv:CS X.env.scope x)(he:PE X e (tE (λ_=>E) f))(hd:autoParam ((x==("__debug__" : Str))=false) aD._auto_1)(N2:autoParam ((x==("__classdict__" : Str))=false) aD._auto_1)
  (Ox:autoParam (attributeBase (.Name x px) "append" X.env (eval (.Name x px) X.env)=eval (.Name x px) X.env) aR._auto_1)
  (O7:autoParam (((backTo MX (starEach [e] X.env)).all (λx=>!x.1)&&(backToKw MX (keywordEach [] X.env)).all (λx=>x.1.isSome)
   && decide (([e]:List Expr).length+([]:List Keyword).length+(if ([]:List Keyword).isEmpty then 0 else 1)<30))=true) aR._auto_1)
  (Oy:autoParam ((apos.endLine==MX.line)=true) aR._auto_1) (Nc:autoParam (starEach [e] X.env=(false,eval e X.env)::starEach [] X.env) aR._auto_1) (Od:autoParam ((backTo MX (starEach [] X.env)).any (·.1)=false) aR._auto_1)
  (hs:autoParam (swapsWith (.Call (.Attribute (.Name x px) "append" apos) [e] [] MX) none pos.line X.env=pure false) aR._auto_1) :
  PS X (.Expr (.Call (.Attribute (.Name x px) "append" apos) [e] [] MX) pos) (tS E (iW i f)):=by
 refine(x9 (E1 PySem.F.plainAttrs_list PySem.F.slot_list_append PySem.F.type_list_append rW (mw hi hv hd N2) (gN he mK Nc) Ox O7 Oy Nc Od) hs).imp λD σ H q=>?_
 obtain⟨B,H₀,Hs,env,sr,q⟩:=q
 unfold iW at q
 split at q
 ·rename_i xs ex
  obtain⟨a,vs,h1,h2,h3,h4,h5⟩:=sr.ow i xs ex
  refine⟨.ref a,h1,.inl ⟨rfl,vs,ir.of h2⟩,B,H₀,Hs,env,sr,(az.bind q).imp (λp hp v ML H' g r=>?_) λe he=>he.grow sr.gr⟩
  by_cases hz:xs.length<sizeLine
  ·rw[if_pos hz] at hp
   have Ot:=sr.grow g
   have r5:aV ML (xs++[p]) (vs++[v]):=(h5.mono g.st).snoc r
   exact⟨a,vs,v,rfl,rfl,g.al _ _ h2,by rw[← h5.length];exact hz,hp σ ML _ (Ot.put ex h1 r5)⟩
  ·rw[if_neg hz] at hp;exact hp.elim
 ·exact q.elim
end
end L2
namespace L2
open PySem PySem.Spec PyProof.Rows
def FV:Out->M PV
 | .rt p=>M.ok p
 | .nx _=>M.ok .cR
 | _=>none
def k9(m:Nat)(ps:List PV):af:=ps.map (λp=>some (.sh p))++List.replicate (m-ps.length) none
def ax(m:Nat)(g:af->M Out)(ps:List PV):M PV:=(g (k9 m ps)).bind FV
theorem SR.start{Hs H:Hp}{N:List Str}{ps:List PV}{vs:List V}(s:bu Hs H)(r:aV Hs ps vs):SR Hs H Hs H (start N vs) (k9 N.length ps) where
 gr:=.refl s
 len:=by unfold L2.start k9;simp[r.length]
 sh:=λi p e=>by
  unfold k9 at e
  unfold L2.start
  by_cases hi:i<ps.length
  ·rw[List.getElem?_append_left (by simpa using hi),List.getElem?_map,List.getElem?_eq_getElem hi] at e
   cases e
   obtain⟨v,h1,h2⟩:=r.get (List.getElem?_eq_getElem hi)
   exact⟨v,by rw[List.getElem?_append_left (by simpa using (r.length▸hi)),List.getElem?_map,h1];rfl,h2⟩
  ·rw[List.getElem?_append_right (by simpa using hi),List.getElem?_replicate] at e
   split at e <;> cases e
 ow:=λi xs e=>by
  unfold k9 at e
  by_cases hi:i<ps.length
  ·rw[List.getElem?_append_left (by simpa using hi),List.getElem?_map,List.getElem?_eq_getElem hi] at e
   cases e
  ·rw[List.getElem?_append_right (by simpa using hi),List.getElem?_replicate] at e
   split at e <;> cases e
 sep:=λi j xs ys a _ e=>by
  unfold k9 at e
  by_cases hi:i<ps.length
  ·rw[List.getElem?_append_left (by simpa using hi),List.getElem?_map,List.getElem?_eq_getElem hi] at e
   cases e
  ·rw[List.getElem?_append_right (by simpa using hi),List.getElem?_replicate] at e
   split at e <;> cases e
 bd:=λi a C fs e=>by
  unfold k9 at e
  by_cases hi:i<ps.length
  ·rw[List.getElem?_append_left (by simpa using hi),List.getElem?_map,List.getElem?_eq_getElem hi] at e
   cases e
  ·rw[List.getElem?_append_right (by simpa using hi),List.getElem?_replicate] at e
   split at e <;> cases e
 one:=λi j a b C D fs gs e=>by
  unfold k9 at e
  by_cases hi:i<ps.length
  ·rw[List.getElem?_append_left (by simpa using hi),List.getElem?_map,List.getElem?_eq_getElem hi] at e
   cases e
  ·rw[List.getElem?_append_right (by simpa using hi),List.getElem?_replicate] at e
   split at e <;> cases e
theorem G2{P:Program}{w:World}{K:PySem.W.Frag}{mg:Str->Option Value}{base:Heap}{k:Nat}{f:Addr}{name qual:Str}{params:Arguments}{body:List Stmt}{scope:Scope}{dV kV doc pm M5 ct oc:Value}{an od:Option Addr}
  {OV:Array (Option Value)} {N ps:List Str} {g:af->M Out} (lk:K.lookup f=some ⟨oc,od,.func (PySem.W.fnOf name qual params body scope dV kV doc pm an M5 ct),OV⟩) (N2:PySem.W.codeIn K M5 qual=true) (S:cv N ps scope)
  (hb:∀ (A:Around) (outer:List Env) (s:Shared) (H:Hp) (E:XK),cx k (A.deeper (envOfC qual scope s.heap.objs.size f M5))->lZ ((lq (bF P w) P w K mg base N qual scope f M5 A outer s H E).out λ_=>E) body (tS E g)) :
  aJ P w K mg base (bF P w) (k+1) f (PySem.W.fnOf name qual params body scope dV kV doc pm an M5 ct) ps (cQ ps.length (ax N.length g)):=by
 refine w_ lk N2 S (λvs H Q E h=>h.1) λA outer s H vs Q E hr hs=>⟨_,hb A outer s H E hr,?_⟩
 obtain⟨_,Hs,N9,sm,r,h⟩:=hs
 refine⟨Hs,H,Hs,_,SR.start sm r,(az.bind h).imp (λo ho=>?_) λe he=>he⟩
 cases o with
 | rt p=>exact λv ML H' gr rv=>ho v ML H' gr rv
 | nx env=>exact fun σ ML H' sr=>ho .cR ML H' sr.gr .cR
 | bk env=>exact ho.elim
 | ct env=>exact ho.elim
section
variable{X:Cx}{E:XK}{e:Expr}{es:List Expr}{pos p MX:Pos}{x:Str}{C f:Addr}{k:Nat}{fd:FuncData}{ps:List Str}{fs:af->M (List PV)}
def mC(C:Addr)(fs:af->M (List PV)):af->M Out:=λenv=>(fs env).bind λps=>cD (ps.length<=sizeLine) (some (.error (C,none)))
theorem yw(O:fv X λ_=>E)(MS:X.calm=true)(hc:PySem.W.excIn X.K C fy "ValueError.__new__" = true)(c:jI X.K C)(ht:PySem.W.typeIn X.K (.ref C)=some (.type "type"))(kp:PySem.W.keepIn X.K (.ref C)=true)(hg:Gl X x)(hm:X.mg x=some (.ref C))(ha:PA X (e::es) (tL (λ_=>E) fs))
  (NN:autoParam ((x==("__debug__" : Str))=false) aD._auto_1) (he:autoParam (starEach (e::es) X.env=(false,eval e X.env)::starEach es X.env) aR._auto_1) (Nh:autoParam ((backTo MX (starEach es X.env)).any (·.1)=false) aR._auto_1) :
  PS X (.Raise (some (.Call (.Name x p) (e::es) [] MX)) none pos) (tS E (mC C fs)):=by
 refine(ve O MS (C6 hc kp hg hm ha NN he Nh)).imp λD σ H q=>pY q λB H₀ Hs H1 env N9 v sr rp hp=>?_
 obtain⟨hz,hp⟩:=az.cD hp
 refine⟨by rw[← rp.length];exact hz,λa n=>⟨a,C,none,rfl,aB,c,ht,?_⟩⟩
 rw[xC]
 exact hp a (upd Hs a (ju C none a)) _ (sr.gr.trans (bS.new sr.gr.sub n)) (.zF aB)
def zI(K:PySem.W.Frag)(C:Addr)(fl:Str):Sp:=λvs H Q _=>∃ a y,vs=[.ref a,y]/\H a=some (kG C none a)/\∀ d,H d=none->d≠a->Q .cR (upd (upd H d (.xd [(fl,y)])) a (kG C (some d) a))
def jA(C:Addr)(fl:Str)(fs:af->M (List PV)):af->M Out:=λenv=>(fs env).bind λps=>match ps with
 | [p]=>some (.error (C,some [(fl,p)]))
 | _=>none
theorem yx{fl:Str}(O:fv X λ_=>E)(MS:X.calm=true)(hc:o6 X.K C "ValueError.__new__" f=true)(hf:PySem.W.isFn X.K (.ref f)=true)(c:jI X.K C)(ht:PySem.W.typeIn X.K (.ref C)=some (.type "type"))(kp:PySem.W.keepIn X.K (.ref C)=true)(F:aJ X.prog X.w X.K X.mg X.base (bF X.prog X.w) k f fd ps (zI X.K C fl))(hr:cx (k+1) X.A)(hb:Binds X.K fd ps [])
  (hg:Gl X x) (hm:X.mg x=some (.ref C)) (ha:PA X [e] (tL (λ_=>E) fs))
  (NN:autoParam ((x==("__debug__" : Str))=false) aD._auto_1) (he:autoParam (starEach [e] X.env=(false,eval e X.env)::starEach [] X.env) aR._auto_1) (Nh:autoParam ((backTo MX (starEach [] X.env)).any (·.1)=false) aR._auto_1) :
  PS X (.Raise (some (.Call (.Name x p) [e] [] MX)) none pos) (tS E (jA C fl fs)):=by
 refine(ve O MS (A5 hc hf kp F hr hb hg hm ha NN he Nh)).imp λD σ H q=>pY q λB H₀ Hs H1 env N9 v sr rp hp=>?_
 match N9,rp,hp with
 | [],_,hp=>exact hp.elim
 | _::_::_,_,hp=>exact hp.elim
 | [y],rp,hp =>
  obtain⟨v,rfl,ry⟩:=rp.one
  refine⟨by show 1<=sizeLine;decide,λa n=>⟨a,v,rfl,aB,λd hd hda=>⟨rfl,a,C,some d,rfl,aB,c,ht,?_⟩⟩⟩
  rw[xC]
  have hd1:H1 d=none:=by rw[aw hda] at hd;exact hd
  have g1:=bS.new (o:=.xd [(fl,v)]) sr.gr.sub hd1
  have Px:upd H1 d (.xd [(fl,v)]) a=none:=by rw[aw (Ne.symm hda)];exact n
  have g2:=bS.new (o:=ju C (some d) a) g1.sub Px
  have hH:upd (upd (upd H1 a (kG C none a)) d (.xd [(fl,v)])) a (ju C (some d) a)=upd (upd H1 d (.xd [(fl,v)])) a (ju C (some d) a):=by
   funext b
   by_cases z:b=a
   ·subst z;rw[aB,aB]
   ·rw[aw z,aw z]
    by_cases z2:b=d
    ·subst z2;rw[aB,aB]
    ·rw[aw z2,aw z2,aw z]
  rw[hH]
  refine hp a (upd (upd Hs d (.xd [(fl,v)])) a (ju C (some d) a)) _ ((sr.gr.trans g1).trans g2) ?_
  exact .yY aB (by rw[aw hda];exact aB) (.cons ((ry.mono g1.st).mono g2.st) .nil)
theorem p7{P:Program}{w:World}{K:PySem.W.Frag}{mg:Str->Option Value}{base:Heap}{f:Addr}{name qual:Str}{params:Arguments}{scope:Scope}{dV kV doc pm M5 ct oc:Value}{an od:Option Addr}
  {OV:Array (Option Value)} {n0 n1 fl:Str} {p0 p1 p2 p3:Pos} (lk:K.lookup f=some ⟨oc,od,.func (PySem.W.fnOf name qual params [.Assign [.Attribute (.Name n0 p0) fl p1] (.Name n1 p2) p3] scope dV kV doc pm an M5 ct),OV⟩) (N2:PySem.W.codeIn K M5 qual=true) (S:cv [n0,n1] [n0,n1] scope)
  (c:jI K C) (ho:((PySem.W.clsIn K C).any λcd=>gB cd.mro)=true) (na:bH K C fl) (v0:CS scope n0) (v1:CS scope n1) (d0:(n0==("__debug__" : Str))=false) (d1:(n1==("__debug__" : Str))=false) (c0:(n0==("__classdict__" : Str))=false) (c1:(n1==("__classdict__" : Str))=false)
  (hs:∀ env,swapsWith (.Name n1 p2) (some (.Attribute (.Name n0 p0) fl p1)) p3.line env=pure false) :
  aJ P w K mg base (bF P w) 1 f (PySem.W.fnOf name qual params [.Assign [.Attribute (.Name n0 p0) fl p1] (.Name n1 p2) p3] scope dV kV doc pm an M5 ct) [n0,n1] (zI K C fl):=by
 refine w_ (k:=0) lk N2 S (λvs H Q E h=>by obtain⟨a,y,rfl,_⟩:=h;rfl) λA outer s H vs Q E hr h=>?_
 obtain⟨a,y,rfl,ha,hq⟩:=h
 refine⟨_,DC (Aa (mw (i:=0) rfl v0 d0 c0) (mw (i:=1) rfl v1 d1 c1) (hs _)),?_⟩
 exact⟨y,rfl,.ref a,rfl,a,C,rfl,ha,c,ho,na,hq⟩
end
end L2
namespace L2
open PySem PySem.Spec PyProof.Rows
structure jW (J:It) (MQ:Hp) (xs:List PV):Prop where
 stop:∀ (i:Nat) (Hs H:Hp),bu MQ Hs->bu Hs H->xs.length<=i->J.stop i H
 go:∀ (i:Nat) (Hs H:Hp),bu MQ Hs->bu Hs H->i<xs.length->J.go i H
 uq:∀ (i:Nat) (Hs H:Hp) (x:V) (H2:Hp),bu MQ Hs->bu Hs H->i<xs.length->J.uq i H x H2->∃ p MT,xs[i]?=some p/\bS Hs H MT H2/\Rep MT p x
def KI(R:It->Hp->Prop):Hp->Hp->List PV->Prop:=λHs H xs=>∀ J ML H',bS Hs H ML H'->jW J ML xs->R J H'
def zU(E:St->XK)(wi:TI)(it:af->M (List PV)):Prop:=∀ (σ:St) (H:Hp) (R:It->Hp->Prop),tG E it (KI R) σ H->wi σ H R
theorem KI.g{R:It->Hp->Prop}:KG (KI R):=λHs H ML H' b k g J MT H2 g2 o=>k J MT H2 (g.trans g2) o
section
variable{E:St->XK}{K:PySem.W.Frag}{f:af->M PV}{fs:af->M (List PV)}
theorem AY{b:Bool}{a:Addr}{MQ:Hp}{xs:List PV}{vs:List V}(hq:∀ ML H',bu MQ ML->bu ML H'->kI K H' b a vs)(hr:aV MQ xs vs):jW (Ks K b a) MQ xs where
 stop:=λi Hs H s1 s2 hi=>by
  have q:=hq Hs H s1 s2
  cases b with
  | true=>exact⟨vs,q,by rw[← hr.length];exact hi⟩
  | false=>exact⟨vs,q,by rw[← hr.length];exact hi⟩
 go:=λi Hs H s1 s2 hi=>by
  have q:=hq Hs H s1 s2
  obtain⟨v,e,_⟩:=hr.get (List.getElem?_eq_getElem hi)
  cases b with
  | true=>exact⟨vs,v,q,e⟩
  | false=>exact⟨vs,v,q,e⟩
 uq:=λi Hs H x H2 s1 s2 hi y=>by
  have q:=hq Hs H s1 s2
  obtain⟨v,e,r⟩:=hr.get (List.getElem?_eq_getElem hi)
  have z:H2=H/\vs[i]?=some x:=by
   cases b with
   | true=>exact⟨y.1,y.2 vs q⟩
   | false=>exact⟨y.1,y.2 vs q⟩
  obtain⟨rfl,z⟩:=z
  rw[e] at z;cases z
  exact⟨xs[i],Hs,List.getElem?_eq_getElem hi,.refl s2,r.mono s1⟩
theorem b_:zU E (IU K (tE E f)) (itemsOf f):=by
 intro σ H R q
 refine cq (K:=KI R) KI.g q λB H₀ Hs H1 env p v sr rp hp=>?_
 cases e:bL p with
 | none=>rw[e] at hp;exact hp.elim
 | some xs =>
  rw[e] at hp
  obtain⟨b,a,vs,rfl,hq,hr⟩:=kC (K:=K) sr.gr.sub rp e
  exact⟨b,a,rfl,⟨vs,hq Hs H1 (λ_ _ z=>z) sr.gr.sub⟩,hp (Ks K b a) Hs H1 (.refl sr.gr.sub) (AY hq hr)⟩
def jS(o:List PV->M (List PV))(fs:af->M (List PV)):af->M (List PV):=λenv=>(fs env).bind o
theorem uG{lo:Int}{n:Nat}{MQ:Hp}:jW (I0 lo n) MQ ((List.range n).map λ(i:Nat)=>PV.int (lo+(i:Int))) where
 stop:=λi Hs H s1 s2 hi=>show n<=i by simpa using hi
 go:=λi Hs H s1 s2 hi=>show i<n by simpa using hi
 uq:=λi Hs H x H2 s1 s2 hi y=>by
  obtain⟨rfl,rfl⟩:=y
  exact⟨_,Hs,yr (by simpa using hi),.refl s2,.int _⟩
theorem aO{α:Type}(x:M α):x.bind M.ok=x:=by
 cases x with
 | none=>rfl
 | some x=>cases x <;> rfl
theorem gi:zU E (EO (tL E fs)) (jS nK fs):=by
 intro σ H R q
 refine dD (K:=KI R) KI.g q λB H₀ Hs H1 env ps v sr rp hp=>?_
 rw[← aO (nK ps)] at hp
 obtain⟨n,rfl,h1,h2,hp⟩:=yp hp
 obtain⟨w,rfl,Om⟩:=rp.one
 cases Om
 exact⟨n,rfl,h1,h2,hp _ Hs H1 (.refl sr.gr.sub) uG⟩
theorem BK:zU E (Fh (tL E fs)) (jS yP fs):=by
 intro σ H R q
 refine dD (K:=KI R) KI.g q λB H₀ Hs H1 env ps v sr rp hp=>?_
 rw[← aO (yP ps)] at hp
 obtain⟨n,m,rfl,h1,hp⟩:=zS hp
 obtain⟨w,u,rfl,Om,ru⟩:=rp.two
 cases Om
 cases ru
 exact⟨n,m,rfl,h1,hp _ Hs H1 (.refl sr.gr.sub) uG⟩
theorem Bm{xs ys:List PV}{i:Nat}(h1:i<xs.length)(h2:i<ys.length):(List.zipWith (λa b=>PV.tup [a,b]) xs ys)[i]?=some (.tup [xs[i],ys[i]]):=by
 rw[List.getElem?_zipWith,List.getElem?_eq_getElem h1,List.getElem?_eq_getElem h2]
theorem AZ{b1 b2:Bool}{a1 a2:Addr}{MQ:Hp}{xs ys:List PV}{vs us:List V}(Nt:∀ ML H',bu MQ ML->bu ML H'->kI K H' b1 a1 vs)(O_:aV MQ xs vs)(Nk:∀ ML H',bu MQ ML->bu ML H'->kI K H' b2 a2 us)(Pa:aV MQ ys us) :
  jW (LQ K b1 b2 a1 a2) MQ (List.zipWith (λa b=>PV.tup [a,b]) xs ys) where
 stop:=λi Hs H s1 s2 hi=>by
  rw[List.length_zipWith,O_.length,Pa.length] at hi
  exact⟨vs,us,Nt Hs H s1 s2,Nk Hs H s1 s2,by omega⟩
 go:=λi Hs H s1 s2 hi=>by
  rw[List.length_zipWith] at hi
  obtain⟨v,e,_⟩:=O_.get (List.getElem?_eq_getElem (show i<xs.length by omega))
  obtain⟨u,e',_⟩:=Pa.get (List.getElem?_eq_getElem (show i<ys.length by omega))
  exact⟨vs,us,v,u,Nt Hs H s1 s2,Nk Hs H s1 s2,e,e'⟩
 uq:=λi Hs H x H2 s1 s2 hi y=>by
  rw[List.length_zipWith] at hi
  have l1:i<xs.length:=by omega
  have l2:i<ys.length:=by omega
  obtain⟨v,e,r⟩:=O_.get (List.getElem?_eq_getElem l1)
  obtain⟨u,e',r'⟩:=Pa.get (List.getElem?_eq_getElem l2)
  obtain⟨pa,v',u',hn,rfl,rfl,y1,y2⟩:=y
  have z1:=y1 vs (Nt Hs H s1 s2)
  have z2:=y2 us (Nk Hs H s1 s2)
  rw[e] at z1;cases z1
  rw[e'] at z2;cases z2
  have gr:=bS.new (o:=.tup [v,u]) s2 hn
  exact⟨_,_,Bm l1 l2,gr,.tup aB (.cons ((r.mono s1).mono gr.st) (.cons ((r'.mono s1).mono gr.st) .nil))⟩
theorem fP:zU E (Jm K (tL E fs)) (jS zip2 fs):=by
 intro σ H R q
 refine dD (K:=KI R) KI.g q λB H₀ Hs H1 env ps v sr rp hp=>?_
 rw[← aO (zip2 ps)] at hp
 obtain⟨p,q,xs,ys,rfl,e1,e2,hp⟩:=za hp
 obtain⟨w,u,rfl,Om,ru⟩:=rp.two
 obtain⟨b1,a1,vs,rfl,Nt,O_⟩:=kC (K:=K) sr.gr.sub Om e1
 obtain⟨b2,a2,us,rfl,Nk,Pa⟩:=kC (K:=K) sr.gr.sub ru e2
 exact⟨b1,b2,a1,a2,rfl,⟨vs,Nt Hs H1 (λ_ _ z=>z) sr.gr.sub⟩,⟨us,Nk Hs H1 (λ_ _ z=>z) sr.gr.sub⟩,hp _ Hs H1 (.refl sr.gr.sub) (AZ Nt O_ Nk Pa)⟩
end
theorem bB{X:Cx}{E:XK}{tg iter:Expr}{pos:Pos}{g:TG}{set:PV->af->M af}{body:af->M Out}{bd:List Stmt}{wi:TI}{it:af->M (List PV)}(O:fv X λ_=>E)(hc:X.calm=true)(hi:PI X tg iter wi)(hv:zU (λ_=>E) wi it)(hg:PG X tg g)(Po:CJ E g set)(hb:lZ X bd (tS E body))(hs:autoParam (∀ x,foldedSetIterable iter X.env x=pure x) aI._auto_1) :
  PS X (.For tg iter bd [] pos) (tS E (f6 it set body)):=by
 refine(FC O.own hc hi hg hb hs).imp λD σ H q=>hv σ H _ ?_
 obtain⟨B,H₀,Hs,env,sr,q⟩:=q
 refine⟨B,H₀,Hs,env,sr,(az.bind q).imp (λxs hp J ML H' gr ok=>?_) λe he=>he.grow sr.gr⟩
 have Ot:=sr.grow gr
 refine⟨λi m σ H=>m=xs.length-i/\i<=xs.length/\Jv E set body D B H₀ ML xs i σ H,⟨xs.length,by simp,Nat.zero_le _,ML,env,Ot,λ_ _ z=>z,hp⟩,?_⟩
 rintro i m σ' H2 ⟨rfl,hi,MT,env2,Ng,s2,h2⟩
 by_cases ND:i<xs.length
 ·refine .inr ⟨ok.go i MT H2 s2 Ng.gr.sub ND,Jv E set body D B H₀ ML xs (i+1),fun σ3 H3 j=>⟨xs.length-(i+1),by omega,rfl,ND,j⟩,λx H3 y=>?_⟩
  obtain⟨p,Oa,ep,g3,r3⟩:=ok.uq i MT H2 x H3 s2 Ng.gr.sub ND y
  exact Jv.turn (Hx:=H2) (H1:=H2) Po ep Ng s2 h2 g3 r3
 ·have e:i=xs.length:=by omega
  refine .inl ⟨ok.stop i MT H2 s2 Ng.gr.sub (by omega),?_⟩
  exact Jv.done (E:=E) (set:=set) (body:=body) (xs:=xs) (B:=B) (H₀:=H₀) (MQ:=ML) (n:=i) ⟨MT,env2,Ng,s2,h2⟩ (by omega)
end L2
namespace L2
open PySem PySem.Spec PyProof.Rows
abbrev EF:St->XK:=λ_ _ _ _=>False
def nP(env:af):Prop:=∀ (i:Nat) (x:SV),env[i]?=some (some x)->∃ p,x=.sh p
theorem nP.ow{env:af}(n:nP env){i:Nat}{xs:List PV}(e:env[i]?=some (some (.ow xs))):False:=by obtain⟨p,z⟩:=n i _ e;cases z
theorem nP.bd{env:af}(n:nP env){i:Nat}{a C:Addr}{fs:List (Str×PV)}(e:env[i]?=some (some (.bd a C fs))):False:=by obtain⟨p,z⟩:=n i _ e;cases z
def G5{α:Type}:M α->M α
 | some (.ok a)=>some (.ok a)
 | _=>none
theorem az.G5{α:Type}{x:M α}{Q:α->Prop}{E:EX->Prop}(h:az (L2.G5 x) Q E):az x Q (λ_=>False):=by
 cases x with
 | none=>exact h
 | some x=>cases x with
  | ok a=>exact h
  | error e=>exact h
def kY(n:Nat)(js:List Nat)(env:af):af:=List.replicate n none++js.map λj=>match env[j]? with
 | some (some (.sh p))=>some (.sh p)
 | _=>none
theorem sq{n:Nat}{js:List Nat}{env:af}{i:Nat}{x:SV}(h:(kY n js env)[i]?=some (some x)):∃ j p,n<=i/\js[i-n]?=some j/\env[j]?=some (some (.sh p))/\x=.sh p:=by
 unfold kY at h
 by_cases hi:i<n
 ·rw[List.getElem?_append_left (by simpa using hi),List.getElem?_replicate] at h
  split at h <;> cases h
 ·rw[List.getElem?_append_right (by simpa using hi),List.getElem?_map,List.length_replicate] at h
  cases hj:js[i-n]? with
  | none=>rw[hj] at h;cases h
  | some j =>
   rw[hj] at h
   have h':(match env[j]? with | some (some (.sh p))=>some (SV.sh p) | _=>none)=some x:=Option.some.inj h
   split at h'
   ·rename_i p e
    cases h'
    exact⟨j,p,by omega,rfl,e,rfl⟩
   ·cases h'
theorem eD{n:Nat}{js:List Nat}{env:af}:nP (kY n js env):=λi xs e=>by
 obtain⟨_,p,_,_,_,z⟩:=sq e
 exact⟨p,z⟩
theorem SR.block{B H₀ Hs H:Hp}{σ:St}{env:af}{ts:List Str}{js:List Nat}{D:Addr}(r:SR B H₀ Hs H σ env)(hD:H D=none):SR Hs H Hs (upd H D (.lst [])) (fL ts js σ) (kY ts.length js env) where
 gr:=by
  have ne:∀ c u,H c=some u->c≠D:=λc u q z=>by rw[z,hD] at q;cases q
  exact⟨λ_ _ e=>e,λc u e=>by rw[aw (ne c u e)];exact e,λc u e=>by rw[aw (ne c u (r.gr.sub c u e))];exact r.gr.sub c u e,λ_ _ e _=>e⟩
 len:=by unfold fL kY;simp
 sh:=λi p e=>by
  obtain⟨j,q,hn,hj,he,z⟩:=sq e
  cases z
  obtain⟨v,h1,h2⟩:=r.sh j p he
  refine⟨v,?_,h2⟩
  unfold fL
  rw[List.getElem?_append_right (by simpa using hn),List.getElem?_map,List.length_map,hj]
  show some (σ[j]?).join=_
  rw[h1];rfl
 ow:=λi xs e=>(eD.ow e).elim
 sep:=λi j xs ys a _ e=>(eD.ow e).elim
 bd:=λi a C fs e=>(eD.bd e).elim
 one:=λi j a b C D fs gs e=>(eD.bd e).elim
theorem SR.Hr{B H₀ Hs H:Hp}{σ:St}{env:af}{D:Addr}{o:HO}(r:SR B H₀ Hs H σ env)(n:nP env)(h1:Hs D=none)(h2:H₀ D=none):SR B H₀ Hs (upd H D o) σ env where
 gr:=⟨r.gr.st,λc u q=>by rw[aw (λz=>by rw[z,h2] at q;cases q)];exact r.gr.al c u q,λc u q=>by rw[aw (λz=>by rw[z,h1] at q;cases q)];exact r.gr.sub c u q,r.gr.nw⟩
 len:=r.len
 sh:=r.sh
 ow:=λi xs e=>(n.ow e).elim
 sep:=λi j xs ys a _ e=>(n.ow e).elim
 bd:=λi a C fs e=>(n.bd e).elim
 one:=λi j a b C D fs gs e=>(n.bd e).elim
def bK(set:PV->af->M af)(t:Option (af->M Bool))(f:af->M PV):List PV->af->M (List PV)
 | [],_=>M.ok []
 | x::xs,env=>(set x env).bind λe=>match t with
  | none=>(f e).bind λy=>(bK set t f xs e).bind λys=>M.ok (y::ys)
  | some t'=>(t' e).bind λb=>if b=true then (f e).bind λy=>(bK set t f xs e).bind λys=>M.ok (y::ys) else bK set t f xs e
def cA(it:af->M (List PV))(set:PV->af->M af)(t:Option (af->M Bool))(f:af->M PV)(n:Nat)(js:List Nat):af->M (List PV):=λenv=>(it env).bind λxs=>cD (xs.length<=sizeLine) (G5 (bK set t f xs (kY n js env)))
def pG(set:PV->af->M af):Prop:=∀ p env e,set p env=some (.ok e)->nP env->nP e
theorem ky{i:Nat}{env:af}{p:PV}(n:nP env):nP (env.set i (some (.sh p))):=λj xs e=>by
 rw[List.getElem?_set] at e
 by_cases z:i=j
 ·rw[if_pos z] at e
  split at e
  ·cases e;exact⟨p,rfl⟩
  ·cases e
 ·rw[if_neg z] at e;exact n j xs e
theorem bO{i:Nat}:pG (bG i):=λp env e h n=>by
 cases h
 exact ky n
theorem cJ{i j:Nat}:pG (bQ i j):=λp env e h n=>by
 unfold bQ at h
 split at h
 ·cases h;exact ky (ky n)
 ·cases h
section
variable{set:PV->af->M af}{t:Option (af->M Bool)}{f:af->M PV}{Q:VK}{MQ H1:Hp}{D:Addr}{xs:List PV}
def Jc(set:PV->af->M af)(t:Option (af->M Bool))(f:af->M PV)(Q:VK)(MQ H1:Hp)(D:Addr)(xs:List PV)(i:Nat)(σ:St)(H:Hp):Prop:=∃ Hs env ys vs,SR MQ H1 Hs H σ env/\nP env/\H D=some (.lst vs)/\Hs D=none/\aV Hs ys vs/\ys.length<=i ∧
 az (bK set t f (xs.drop i) env) (λzs=>KO Q MQ H1 (ys++zs)) (λ_=>False)
def rem(H:Hp)(D:Addr):Hp:=λa=>if a=D then none else H a
theorem AX{H:Hp}{D:Addr}:rem H D D=none:=by unfold rem;rw[if_pos rfl]
theorem wI{H:Hp}{D a:Addr}(n:a≠D):rem H D a=H a:=by unfold rem;rw[if_neg n]
theorem D6{H:Hp}{D:Addr}{o:HO}(h:H D=some o):upd (rem H D) D o=H:=by
 funext a
 by_cases z:a=D
 ·subst z;rw[aB,h]
 ·rw[aw z,wI z]
theorem Jc.done{i:Nat}{σ:St}{H:Hp}(hD:H1 D=none)(j:Jc set t f Q MQ H1 D xs i σ H)(hi:xs.length<=i):Q (.ref D) H:=by
 obtain⟨Hs,env,ys,vs,sr,n,h1,h2,r,_,h⟩:=j
 rw[List.drop_eq_nil_of_le hi] at h
 have h':KO Q MQ H1 (ys++[]):=h
 rw[List.append_nil] at h'
 have gr:bS MQ H1 Hs (rem H D):=by
  refine⟨sr.gr.st,λc u q=>?_,λc u q=>?_,sr.gr.nw⟩
  ·rw[wI (λz=>by rw[z,hD] at q;cases q)];exact sr.gr.al c u q
  ·rw[wI (λz=>by rw[z,h2] at q;cases q)];exact sr.gr.sub c u q
 have:=h' vs D Hs (rem H D) gr r AX
 rw[D6 h1] at this
 exact this
theorem Jc.put{i:Nat}{σ:St}{Hs H:Hp}{env:af}{ys:List PV}{vs:List V}{y:PV}{v:V}(hD:H1 D=none)(sr:SR MQ H1 Hs H σ env)(n:nP env)(h1:H D=some (.lst vs))(h2:Hs D=none)(r:aV Hs ys vs)(hy:ys.length<=i)(hi:i<sizeLine)(rv:Rep Hs y v)
  (h:az ((bK set t f (xs.drop (i+1)) env).bind λzs=>M.ok (y::zs)) (λzs=>KO Q MQ H1 (ys++zs)) (λ_=>False)) :
  ∃ us,H D=some (.lst us)/\us.length<sizeLine/\Jc set t f Q MQ H1 D xs (i+1) σ (upd H D (.lst (us++[v]))):=by
 refine⟨vs,h1,by rw[← r.length];omega,Hs,env,ys++[y],vs++[v],sr.Hr n h2 hD,n,aB,h2,r.snoc rv,by rw[List.length_append];show ys.length+1<=i+1;omega,(az.bind h).imp (λzs hz=>?_) λ_ z=>z⟩
 have OE:KO Q MQ H1 (ys++(y::zs)):=hz
 rw[List.append_assoc]
 exact OE
end
section
variable{X:Cx}{E:St->XK}{tg elt iter c:Expr}{scope:Scope}{cl:List (Str×Addr)}{pos:Pos}{wi:TI}{it:af->M (List PV)}{g:TG}{set:PV->af->M af}{f:af->M PV}{u:af->M Bool}{ts fs:List Str}{js:List Nat}
theorem rL{C:Addr}{s₀:Shared}{H₀:Hp}{ex:List Addr}{MG:List (Addr×Obj)}{N:List Str}:fv (qy X scope cl N C s₀ H₀ ex MG) EF where
 pass:=λ_ _ _ _ _ _ _ h=>by
  obtain⟨_,_,_,_,_,_,_,_,_,_,_,_,_,z⟩:=h
  exact z.elim
 new:=λ_ _ _ _ _ _ _ _ _ z=>z.elim
 own:=PassesOwn.never
theorem bA(MS:X.calm=true)
  (Nd:closureFor scope X.env=pure cl) (hk:scope.kind=.function) (nc:gu scope.names=true) (lo:iB scope.names=true) (fh:iG cl scope.names=true) (ag:e8 X cl) (fr:i6 X scope cl fs js)
  (hi:PI X tg iter wi) (hv:zU E wi it) (hg:∀ C s₀ H₀ ex MG,PG (qy X scope cl (ts++fs) C s₀ H₀ ex MG) tg g) (Po:∀ E,CJ E g set) (so:pG set) (he:∀ C s₀ H₀ ex MG,PE (qy X scope cl (ts++fs) C s₀ H₀ ex MG) elt (tE EF f))
  (hs:autoParam (∀ x,foldedSetIterable iter X.env x=pure x) aI._auto_1):PE X (.ListComp elt [⟨tg,iter,[],0⟩] scope pos) (tO E (cA it set none f ts.length js)):=by
 refine(z9 MS Nd hk nc lo fh ag fr hi hg he hs).imp fun σ H Q q=>hv σ H _ ?_
 obtain⟨B,H₀,Hs,env,sr,q⟩:=q
 refine⟨B,H₀,Hs,env,sr,(az.bind q).imp (λxs hp J MQ H1 gr ok D hD=>?_) λe he=>he⟩
 obtain⟨hz,hp⟩:=az.cD hp
 have hp:=az.G5 hp
 have PC:=sr.grow gr
 refine⟨λi m σ H=>m=xs.length-i/\i<=xs.length/\Jc set none f Q MQ H1 D xs i σ H,⟨xs.length,by simp,Nat.zero_le _,MQ,_,[],[],PC.block hD,eD,aB,?_,.nil,Nat.le_refl _,hp.imp (λzs hz vs p MT H2 g2 r n=>hz vs p MT H2 (gr.trans g2) r n) λ_ z=>z⟩,?_⟩
 ·cases z:MQ D with
  | none=>rfl
  | some o=>have:=gr.sub _ _ z;rw[hD] at this;cases this
 rintro i m σ' H2 ⟨rfl,hi,MT,env2,ys,vs,Ng,n2,d1,d2,r2,l2,h2⟩
 by_cases ND:i<xs.length
 ·refine .inr ⟨ok.go i MT H2 Ng.gr.st Ng.gr.sub ND,Jc set none f Q MQ H1 D xs (i+1),fun σ3 H3 j=>⟨xs.length-(i+1),by omega,rfl,ND,j⟩,λx H3 y=>?_⟩
  obtain⟨p,Oa,ep,g3,r3⟩:=ok.uq i MT H2 x H3 Ng.gr.st Ng.gr.sub ND y
  have hd:xs.drop i=p::xs.drop (i+1):=by
   rw[List.drop_eq_getElem_cons ND]
   rw[List.getElem?_eq_getElem ND] at ep
   rw[Option.some.inj ep]
  rw[hd] at h2
  have h3:=az.bind h2
  have OB:=Ng.grow g3
  refine Po (λ_ _ _=>False) MQ H1 Oa H3 σ' env2 p x _ (λ_=>False) OB r3 ?_
  cases hset:set p env2 with
  | none=>rw[hset] at h3;exact h3
  | some z=>cases z with
   | error e=>rw[hset] at h3;exact h3
   | ok e3 =>
    rw[hset] at h3
    intro σ4 sr4
    have n4:=so p env2 e3 hset n2
    refine⟨MQ,H1,Oa,e3,sr4,(az.bind h3).imp (λy hy v P4 H5 g5 r5=>?_) λ_ z=>z.elim⟩
    exact Jc.put (set:=set) (t:=none) (f:=f) hD (sr4.grow g5) n4 (g5.al _ _ (g3.al _ _ d1)) (g5.nw _ _ (g3.nw _ _ d2 d1) (g3.al _ _ d1)) ((r2.mono g3.st).mono g5.st) l2 (by omega) r5 hy
 ·refine .inl ⟨ok.stop i MT H2 Ng.gr.st Ng.gr.sub (by omega),?_⟩
  exact Jc.done (set:=set) (t:=none) (f:=f) (xs:=xs) (MQ:=MQ) (H1:=H1) (i:=i) hD ⟨MT,env2,ys,vs,Ng,n2,d1,d2,r2,l2,h2⟩ (by omega)
theorem Aq(MS:X.calm=true)
  (Nd:closureFor scope X.env=pure cl) (hk:scope.kind=.function) (nc:gu scope.names=true) (lo:iB scope.names=true) (fh:iG cl scope.names=true) (ag:e8 X cl) (fr:i6 X scope cl fs js)
  (hi:PI X tg iter wi) (hv:zU E wi it) (hg:∀ C s₀ H₀ ex MG,PG (qy X scope cl (ts++fs) C s₀ H₀ ex MG) tg g) (Po:∀ E,CJ E g set) (so:pG set) (ht:∀ C s₀ H₀ ex MG,PT (qy X scope cl (ts++fs) C s₀ H₀ ex MG) c (tT EF u)) (he:∀ C s₀ H₀ ex MG,PE (qy X scope cl (ts++fs) C s₀ H₀ ex MG) elt (tE EF f))
  (hs:autoParam (∀ x,foldedSetIterable iter X.env x=pure x) aI._auto_1):PE X (.ListComp elt [⟨tg,iter,[c],0⟩] scope pos) (tO E (cA it set (some u) f ts.length js)):=by
 refine(AK MS Nd hk nc lo fh ag fr hi hg ht he hs).imp fun σ H Q q=>hv σ H _ ?_
 obtain⟨B,H₀,Hs,env,sr,q⟩:=q
 refine⟨B,H₀,Hs,env,sr,(az.bind q).imp (λxs hp J MQ H1 gr ok D hD=>?_) λe he=>he⟩
 obtain⟨hz,hp⟩:=az.cD hp
 have hp:=az.G5 hp
 have PC:=sr.grow gr
 refine⟨λi m σ H=>m=xs.length-i/\i<=xs.length/\Jc set (some u) f Q MQ H1 D xs i σ H,⟨xs.length,by simp,Nat.zero_le _,MQ,_,[],[],PC.block hD,eD,aB,?_,.nil,Nat.le_refl _,hp.imp (λzs hz vs p MT H2 g2 r n=>hz vs p MT H2 (gr.trans g2) r n) λ_ z=>z⟩,?_⟩
 ·cases z:MQ D with
  | none=>rfl
  | some o=>have:=gr.sub _ _ z;rw[hD] at this;cases this
 rintro i m σ' H2 ⟨rfl,hi,MT,env2,ys,vs,Ng,n2,d1,d2,r2,l2,h2⟩
 by_cases ND:i<xs.length
 ·refine .inr ⟨ok.go i MT H2 Ng.gr.st Ng.gr.sub ND,Jc set (some u) f Q MQ H1 D xs (i+1),fun σ3 H3 j=>⟨xs.length-(i+1),by omega,rfl,ND,j⟩,λx H3 y=>?_⟩
  obtain⟨p,Oa,ep,g3,r3⟩:=ok.uq i MT H2 x H3 Ng.gr.st Ng.gr.sub ND y
  have hd:xs.drop i=p::xs.drop (i+1):=by
   rw[List.drop_eq_getElem_cons ND]
   rw[List.getElem?_eq_getElem ND] at ep
   rw[Option.some.inj ep]
  rw[hd] at h2
  have h3:=az.bind h2
  have OB:=Ng.grow g3
  refine Po (λ_ _ _=>False) MQ H1 Oa H3 σ' env2 p x _ (λ_=>False) OB r3 ?_
  cases hset:set p env2 with
  | none=>rw[hset] at h3;exact h3
  | some z=>cases z with
   | error e=>rw[hset] at h3;exact h3
   | ok e3 =>
    rw[hset] at h3
    intro σ4 sr4
    have n4:=so p env2 e3 hset n2
    refine⟨MQ,H1,Oa,e3,sr4,(az.bind h3).imp (λb hb P4 H5 g5=>?_) λ_ z=>z.elim⟩
    have d5:=g5.al _ _ (g3.al _ _ d1)
    have e5:=g5.nw _ _ (g3.nw _ _ d2 d1) (g3.al _ _ d1)
    cases b with
    | true =>
     refine⟨MQ,H1,P4,e3,sr4.grow g5,(az.bind hb).imp (λy hy v Hs6 H6 g6 r6=>?_) λ_ z=>z.elim⟩
     exact Jc.put (set:=set) (t:=some u) (f:=f) hD ((sr4.grow g5).grow g6) n4 (g6.al _ _ d5) (g6.nw _ _ e5 d5) (((r2.mono g3.st).mono g5.st).mono g6.st) l2 (by omega) r6 hy
    | false=>exact⟨P4,e3,ys,vs,sr4.grow g5,n4,d5,e5,(r2.mono g3.st).mono g5.st,by omega,hb⟩
 ·refine .inl ⟨ok.stop i MT H2 Ng.gr.st Ng.gr.sub (by omega),?_⟩
  exact Jc.done (set:=set) (t:=some u) (f:=f) (xs:=xs) (MQ:=MQ) (H1:=H1) (i:=i) hD ⟨MT,env2,ys,vs,Ng,n2,d1,d2,r2,l2,h2⟩ (by omega)
def cS(fo:af->M (List PV)):af->M PV:=λenv=>(fo env).bind λps=>M.ok (.lst ps)
theorem cF{fo:af->M (List PV)}{e:Expr}(he:PE X e (tO E fo)):PE X e (tE E (cS fo)):=he.imp fun σ H Q q=>by
 obtain⟨B,H₀,Hs,env,sr,q⟩:=q
 refine⟨B,H₀,Hs,env,sr,(az.bind q).imp (λps hp vs p ML H' g r n=>?_) λe he=>he⟩
 have gn:=bS.new (o:=.lst vs) g.sub n
 exact hp _ _ _ (g.trans gn) (.lst aB (r.mono gn.st))
end
end L2
namespace L2
open PySem PySem.Spec PyProof.Rows
def tV(f:Str)(v:PV):List (Str×PV)->List (Str×PV)
 | []=>[(f,v)]
 | (g,x)::r=>if g=f then (g,v)::r else (g,x)::tV f v r
theorem iZ.put{H:Hp}{f:Str}{p:PV}{v:V}(h:Rep H p v):∀ {fs:List (Str×PV)} {vs:List (Str×V)},iZ H fs vs->iZ H (tV f p fs) (jQ f v vs)
 | _,_,.nil=>.cons h .nil
 | (g,x)::r,_,.cons hx hr=>by
  unfold tV jQ
  by_cases z:g=f
  ·rw[if_pos z,if_pos z];exact .cons h hr
  ·rw[if_neg z,if_neg z];exact .cons hx (hr.put h)
theorem iZ.length{H:Hp}:∀ {fs:List (Str×PV)} {vs:List (Str×V)},iZ H fs vs->fs.length=vs.length
 | _,_,.nil=>rfl
 | _,_,.cons _ r=>by simp[r.length]
theorem SR.Ly{B H₀ Hs H:Hp}{σ:St}{env:af}{i:Nat}{a C dx:Addr}{fs gs:List (Str×PV)}{us:List (Str×V)}(r:SR B H₀ Hs H σ env)(e:env[i]?=some (some (.bd a C fs)))(h:iZ Hs gs us):SR B H₀ Hs (upd H a (.ins C dx us)) σ (env.set i (some (.bd a C gs))):=by
 obtain⟨dx0,vs,h1,h2,h3,h4,h5⟩:=r.bd i a C fs e
 have nS:∀ c u,Hs c=some u->c≠a:=λc u q z=>by rw[z,h3] at q;cases q
 have n0:∀ c u,H₀ c=some u->c≠a:=λc u q z=>by rw[z,h4] at q;cases q
 refine⟨⟨r.gr.st,λc u q=>by rw[aw (n0 c u q)];exact r.gr.al c u q,λc u q=>by rw[aw (nS c u q)];exact r.gr.sub c u q,r.gr.nw⟩,by rw[List.length_set];exact r.len,λj q ej=>?_,λj zs ej=>?_,λj k y1 y2 b nj e1 e2 e3 e4=>?_,λj ba D PD ej=>?_,λj k _ _ C' D PD gs' e1 e2=>?_⟩
 ·rw[List.getElem?_set] at ej
  by_cases z:i=j
  ·subst z
   rw[if_pos rfl] at ej
   split at ej <;> cases ej
  ·rw[if_neg z] at ej;exact r.sh j q ej
 ·rw[List.getElem?_set] at ej
  by_cases z:i=j
  ·subst z
   rw[if_pos rfl] at ej
   split at ej <;> cases ej
  ·rw[if_neg z] at ej
   obtain⟨b,ws,q1,q2,q3,q4,q5⟩:=r.ow j zs ej
   have nb:b≠a:=λw=>by subst w;rw[h2] at q2;cases q2
   exact⟨b,ws,q1,by rw[aw nb];exact q2,q3,q4,q5⟩
 ·rw[List.getElem?_set] at e1 e2
  by_cases z:i=j
  ·subst z
   rw[if_pos rfl] at e1
   split at e1 <;> cases e1
  ·by_cases z2:i=k
   ·subst z2
    rw[if_pos rfl] at e2
    split at e2 <;> cases e2
   ·rw[if_neg z] at e1
    rw[if_neg z2] at e2
    exact r.sep j k y1 y2 b nj e1 e2 e3 e4
 ·rw[List.getElem?_set] at ej
  by_cases z:i=j
  ·subst z
   rw[if_pos rfl] at ej
   split at ej
   ·cases ej;exact⟨dx,us,h1,aB,h3,h4,h⟩
   ·cases ej
  ·rw[if_neg z] at ej
   exact absurd (r.one i j _ _ _ _ _ _ e ej) z
 ·have o1:∃ b D w,env[j]?=some (some (.bd b D w)):=by
   rw[List.getElem?_set] at e1
   by_cases z:i=j
   ·subst z;exact⟨_,_,_,e⟩
   ·rw[if_neg z] at e1;exact⟨_,_,_,e1⟩
  have o2:∃ b D w,env[k]?=some (some (.bd b D w)):=by
   rw[List.getElem?_set] at e2
   by_cases z:i=k
   ·subst z;exact⟨_,_,_,e⟩
   ·rw[if_neg z] at e2;exact⟨_,_,_,e2⟩
  obtain⟨_,_,w1,o1⟩:=o1
  obtain⟨_,_,w2,o2⟩:=o2
  exact r.one j k _ _ _ _ _ _ o1 o2
def Bt(i:Nat)(C:Addr)(f:Str)(p:PV)(env:af):M Out:=match env[i]? with
 | some (some (.bd a C' fs))=>cD (C'=C/\fs.length<1000) (M.ok (.nx (env.set i (some (.bd a C (tV f p fs))))))
 | _=>none
def jx(i:Nat)(C:Addr)(fl:Str)(f:af->M PV):af->M Out:=λenv=>(f env).bind λp=>Bt i C fl p env
section
variable{X:Cx}{E:XK}{e:Expr}{pos pos' px:Pos}{f:af->M PV}{i:Nat}{x fl:Str}{C:Addr}
theorem jf(hi:X.N[i]?=some x)(hv:CS X.env.scope x)(c:jT X.K C)(na:bH X.K C fl)(he:PE X e (tE (λ_=>E) f))(hd:autoParam ((x==("__debug__" : Str))=false) aD._auto_1)(N2:autoParam ((x==("__classdict__" : Str))=false) aD._auto_1)
  (hs:autoParam (swapsWith e (some (.Attribute (.Name x px) fl pos')) pos.line X.env=pure false) aR._auto_1):PS X (.Assign [.Attribute (.Name x px) fl pos'] e pos) (tS E (jx i C fl f)):=by
 refine(HS (mw hi hv hd N2) he hs).imp λD σ H q=>i9 q λB H₀ Hs H1 env p v sr rp hp=>?_
 unfold Bt at hp
 split at hp
 ·rename_i a C' fs ex
  obtain⟨⟨rfl,hz⟩,hp⟩:=az.cD hp
  obtain⟨dx,vs,h1,h2,h3,h4,h5⟩:=sr.bd i a _ fs ex
  exact⟨.ref a,h1,a,_,dx,vs,rfl,h2,c,na,by rw[← h5.length];exact hz,hp σ Hs _ (sr.Ly ex (h5.put rp))⟩
 ·exact hp.elim
end
def uV(m:Nat)(a C:Addr)(ps:List PV):af:=some (.bd a C [])::k9 (m-1) ps
def A6(a C:Addr)(env:af):M (List (Str×PV)):=match (env[0]?:Option (Option SV)) with
 | some (some (.bd b D fs))=>cD (b=a/\D=C) (M.ok fs)
 | _=>none
def outI(a C:Addr):Out->M (List (Str×PV))
 | .nx env=>A6 a C env
 | _=>none
def qL(m:Nat)(g:af->M Out)(C a:Addr)(ps:List PV):M (List (Str×PV)):=(g (uV m a C ps)).bind (outI a C)
def Fx{α:Type}(s:Addr->M α):M α:=open Classical in if h:∃ r,∀ a,s a=r then h.choose else none
theorem tK{α:Type}{s:Addr->M α}{r:M α}(h:∀ a,s a=r):Fx s=r:=by
 have hx:∃ r,∀ a,s a=r:=⟨r,h⟩
 unfold Fx
 rw[dif_pos hx,← hx.choose_spec 0,h 0]
theorem az.Fx{α:Type}{s:Addr->M α}{Q:α->Prop}{E:EX->Prop}(h:az (L2.Fx s) Q E)(a:Addr):az (s a) Q E:=by
 unfold L2.Fx at h
 split at h
 ·rename_i hx
  rw[hx.choose_spec a];exact h
 ·exact h.elim
def CL(n:Nat)(C:Addr)(sem:Addr->List PV->M (List (Str×PV))):Sp:=λvs H Q E=>vs.length=n/\∃ a dx us Hs H1 ps,vs=.ref a::us/\H1 a=none/\H1 dx=none/\dx≠a/\H=upd (upd H1 dx (.own a)) a (.ins C dx [])/\bu Hs H1/\aV Hs ps us ∧
 az (sem a ps) (λfs=>∀ P5 ws ML H',bS Hs H1 ML H'->H' a=some (.ins C P5 ws)->ML a=none->iZ ML fs ws->Q .cR H') (XW E Hs H1)
theorem SR.Gj{Hs H₀ H:Hp}{N:List Str}{a C dx:Addr}{ps:List PV}{vs:List V}(s:bu Hs H₀)(hN:0<N.length)(ha:H₀ a=none)(r:aV Hs ps vs)(hH:H=upd H₀ a (.ins C dx [])):SR Hs H₀ Hs H (L2.start N (.ref a::vs)) (uV N.length a C ps):=by
 have hs:Hs a=none:=by
  cases q:Hs a with
  | none=>rfl
  | some o=>have:=s _ _ q;rw[ha] at this;cases this
 have ne:∀ c u,H₀ c=some u->c≠a:=λc u e z=>by rw[z,ha] at e;cases e
 have s0:=SR.start (N:=N.tail) s r
 have e1:L2.start N (.ref a::vs)=some (.ref a)::L2.start N.tail vs:=by
  unfold L2.start
  simp only[List.map_cons,List.cons_append,List.length_cons,List.length_tail]
  rw[Nat.sub_sub,Nat.add_comm]
 have e2:uV N.length a C ps=some (.bd a C [])::k9 N.tail.length ps:=by unfold uV;rw[List.length_tail]
 have al:bu H₀ H:=λc u q=>by rw[hH,aw (ne c u q)];exact q
 rw[e1,e2]
 refine⟨⟨λ_ _ e=>e,al,λc u q=>al c u (s c u q),λc u q _=>q⟩,by simp[s0.len],λj q ej=>?_,λj zs ej=>?_,λj k y1 y2 b nj e1 e2 e3 e4=>?_,λj ba D PD ej=>?_,λj k a1 a2 C' D PD gs' e1 e2=>?_⟩
 ·cases j with
  | zero=>cases ej
  | succ j=>exact s0.sh j q (by simpa using ej)
 ·cases j with
  | zero=>cases ej
  | succ j=>exact absurd (s0.ow j zs (by simpa using ej)) (λ⟨b,ws,q1,q2,q3,q4,q5⟩=>by rw[q4] at q2;cases q2)
 ·cases j with
  | zero=>cases e1
  | succ j=>exact absurd (s0.ow j y1 (by simpa using e1)) (λ⟨b,ws,q1,q2,q3,q4,q5⟩=>by rw[q4] at q2;cases q2)
 ·cases j with
  | zero=>cases ej;exact⟨dx,[],rfl,by rw[hH];exact aB,hs,ha,.nil⟩
  | succ j=>exact absurd (s0.bd j ba D PD (by simpa using ej)) (λ⟨b,ws,q1,q2,q3,q4,q5⟩=>by rw[q4] at q2;cases q2)
 ·cases j with
  | zero=>cases k with
   | zero=>rfl
   | succ k=>exact absurd (s0.bd k a2 D gs' (by simpa using e2)) (λ⟨b,ws,q1,q2,q3,q4,q5⟩=>by rw[q4] at q2;cases q2)
  | succ j=>exact absurd (s0.bd j a1 C' PD (by simpa using e1)) (λ⟨b,ws,q1,q2,q3,q4,q5⟩=>by rw[q4] at q2;cases q2)
theorem DG{P:Program}{w:World}{K:PySem.W.Frag}{mg:Str->Option Value}{base:Heap}{k:Nat}{f C:Addr}{name qual:Str}{params:Arguments}{body:List Stmt}{scope:Scope}{dV kV doc pm M5 ct oc:Value}{an od:Option Addr}
  {OV:Array (Option Value)} {N ps:List Str} {g:af->M Out} (lk:K.lookup f=some ⟨oc,od,.func (PySem.W.fnOf name qual params body scope dV kV doc pm an M5 ct),OV⟩) (N2:PySem.W.codeIn K M5 qual=true) (S:cv N ps scope) (hN:0<N.length)
  (hb:∀ (A:Around) (outer:List Env) (s:Shared) (H:Hp) (E:XK),cx k (A.deeper (envOfC qual scope s.heap.objs.size f M5))->lZ ((lq (bF P w) P w K mg base N qual scope f M5 A outer s H E).out λ_=>E) body (tS E g)) :
  aJ P w K mg base (bF P w) (k+1) f (PySem.W.fnOf name qual params body scope dV kV doc pm an M5 ct) ps (CL ps.length C (qL N.length g C)):=by
 refine w_ lk N2 S (λvs H Q E h=>h.1) λA outer s H vs Q E hr hs=>⟨_,hb A outer s H E hr,?_⟩
 obtain⟨_,a,dx,us,Hs,H1,N9,rfl,ha,hdx,OC,hH,sm,r,h⟩:=hs
 have ne:∀ c u,H1 c=some u->c≠dx:=λc u e z=>by rw[z,hdx] at e;cases e
 have s0:bu H1 (upd H1 dx (.own a)):=λc u q=>by rw[aw (ne c u q)];exact q
 have g0:bS Hs H1 Hs (upd H1 dx (.own a)):=⟨λ_ _ e=>e,s0,λc u q=>s0 c u (sm c u q),λ_ _ e _=>e⟩
 refine⟨Hs,_,Hs,_,SR.Gj (dx:=dx) g0.sub hN (by rw[aw (Ne.symm OC)];exact ha) r hH,(az.bind h).imp (λo ho=>?_) λe he=>he.grow g0⟩
 cases o with
 | rt p=>exact ho.elim
 | bk env=>exact ho.elim
 | ct env=>exact ho.elim
 | nx env =>
  intro σ ML H' sr
  have OD:az (A6 a C env) _ _:=ho
  unfold A6 at OD
  split at OD
  ·rename_i b D fs ex
   obtain⟨⟨rfl,rfl⟩,hp⟩:=az.cD OD
   obtain⟨P5,ws,h1,h2,h3,h4,h5⟩:=sr.bd 0 _ _ fs ex
   exact hp P5 ws ML H' (g0.trans sr.gr) h2 h3 h5
  ·exact OD.elim
def cY(C:Addr)(sem:Addr->List PV->M (List (Str×PV)))(Ob:List PV)(ps:List PV):M PV:=(Fx λa=>sem a (ps++Ob)).bind λfs=>M.ok (.obj C fs)
section
variable{X:Cx}{E:St->XK}{k n:Nat}{f C:Addr}{fd:FuncData}{ns:List Str}{sem:Addr->List PV->M (List (Str×PV))}{x:Str}{p pos:Pos}{e:Expr}{es:List Expr}{fs:af->M (List PV)}
theorem C0{ds:List Value}{Nu:List V}{Ob:List PV}(Mk:Mk X.K C f)(F:aJ X.prog X.w X.K X.mg X.base (bF X.prog X.w) k f fd ns (CL n C sem))(hr:cx (k+1) X.A)(hg:Gl X x)(hm:X.mg x=some (.ref C))(hb:Binds X.K fd ns ds)(hd:Vals Nu ds)(hdp:∀ H,aV H Ob Nu)(O:fv X E)
  (hl:∀ a ps,sem a (ps++Ob)≠none->ps.length+Ob.length+1=n)
  (ha:PA X (e::es) (tL E fs)) (NN:autoParam ((x==("__debug__" : Str))=false) aD._auto_1) (he:autoParam (starEach (e::es) X.env=(false,eval e X.env)::starEach es X.env) aR._auto_1) (Nh:autoParam ((backTo pos (starEach es X.env)).any (·.1)=false) aR._auto_1) :
  PE X (.Call (.Name x p) (e::es) [] pos) (tE E (ai (cY C sem Ob) fs)):=by
 refine(AV Mk F hr hg hm hb hd O ha NN he Nh).imp fun σ H Q q=>dD (K:=jZ Q) jZ.g q λB H₀ Hs H1 env N9 v sr rp hp=>?_
 intro a dx ha hdx OC
 have r2:aV Hs (N9++Ob) (v++Nu):=rp.append (hdp Hs)
 have PK:=(az.bind hp).Fx a
 have hn:sem a (N9++Ob)≠none:=λz=>by
  rw[z] at PK;exact PK
 refine⟨?_,a,dx,v++Nu,Hs,H1,N9++Ob,rfl,ha,hdx,OC,rfl,sr.gr.sub,r2,PK.imp (λfl hfl P5 ws ML H' g hw Qs Om=>⟨rfl,?_⟩) λe he=>he⟩
 ·show (v++Nu).length+1=n
  rw[← r2.length,List.length_append]
  exact hl a N9 hn
 ·have ne:∀ c u,ML c=some u->c≠a:=λc u q z=>by rw[z,Qs] at q;cases q
  have Nc:bu ML (upd ML a (.ins C P5 ws)):=λc u q=>by rw[aw (ne c u q)];exact q
  refine hfl (.ref a) (upd ML a (.ins C P5 ws)) H' ⟨λc u q=>Nc c u (g.st c u q),g.al,λc u q=>?_,λc u q1 q2=>?_⟩ (.obj aB (Om.mono Nc))
  ·by_cases z:c=a
   ·subst z;rw[aB] at q;cases q;exact hw
   ·rw[aw z] at q;exact g.sub c u q
  ·have z:c≠a:=λz=>by rw[z,ha] at q2;cases q2
   rw[aw z];exact g.nw c u q1 q2
end
end L2
namespace L2
open PySem PySem.Spec PyProof.Rows
section
variable{X:Cx}{E:St->XK}{a b c e:Expr}{pos:Pos}{f g h:af->M PV}
theorem mS{n m:Nat}(h:n.log2<m):n<2^m:=by
 by_cases z:n=0
 ·subst z;exact Nat.two_pow_pos m
 ·exact(Nat.log2_lt z).mp h
theorem aV.rep{H:Hp}{xs:List PV}{vs:List V}(r:aV H xs vs):∀ k:Nat,aV H (List.replicate k xs).flatten (List.replicate k vs).flatten
 | 0=>.nil
 | k+1=>by rw[List.replicate_succ,List.replicate_succ,List.flatten_cons,List.flatten_cons];exact r.append (r.rep k)
def bY:PV->PV->M PV
 | .int i,.int j=>cD (i.natAbs.log2<67108864/\j.natAbs.log2<67108864) (M.ok (.int (i*j)))
 | .tup xs,.int k=>cD (xs.isEmpty=false/\-(2^63)<=k/\k<2^63/\xs.length*k.toNat<=sizeLine) (M.ok (.tup (List.replicate k.toNat xs).flatten))
 | .lst xs,.int k=>cD (-(2^63)<=k/\k<2^63/\xs.length*k.toNat<=sizeLine) (M.ok (.lst (List.replicate k.toNat xs).flatten))
 | _,_=>none
def EY(K:PySem.W.Frag):R2:=λx y H Q=>(rI (λi j=>IntMulOk i j) λi j=>.int (i*j)) x y H Q\/EU K x y H Q\/Jr x y H Q
theorem Ey:iu X (binaryOp .Mult) (EY X.K):=iu.or DN (iu.or Dk Ak)
theorem Gx{K:PySem.W.Frag}:l4 E (EY K) bY:=by
 intro σ Hs H p q v u Q s rp rq h
 cases rp with
 | int i=>cases rq with
  | int j =>
   obtain⟨hz,h⟩:=az.cD h
   exact .inl ⟨i,j,rfl,rfl,B_ (mS hz.1) (mS hz.2) (Nat.le_refl _),eM.flat h s (.int _)⟩
  | _=>exact h.elim
 | @tup a xs vs ha hx=>cases rq with
  | int k =>
   obtain⟨⟨h0,h1,h2,h3⟩,h⟩:=az.cD h
   have n1:vs≠[]:=λz=>by
    have:=hx.length
    rw[z] at this
    cases xs with
    | nil=>cases h0
    | cons _ _=>cases this
   refine .inr (.inl ⟨a,k,vs,rfl,rfl,h_.of (s _ _ ha),n1,h1,h2,by rw[← hx.length];exact h3,λz=>?_,λz=>eM.tup h s (hx.rep _)⟩)
   subst z
   rw[show (1:Int).toNat=1 from rfl,List.replicate_succ,List.replicate_zero,List.flatten_cons,List.flatten_nil,List.append_nil] at h
   exact eM.flat h s (.tup ha hx)
  | _=>exact h.elim
 | @lst a xs vs ha hx=>cases rq with
  | int k =>
   obtain⟨⟨h1,h2,h3⟩,h⟩:=az.cD h
   exact .inr (.inr ⟨a,k,vs,rfl,rfl,s _ _ ha,h1,h2,by rw[← hx.length];exact h3,eM.lst h s (hx.rep _)⟩)
  | _=>exact h.elim
 | _=>exact h.elim
theorem Dl:l4 E (rI Co λi j=>.int (i.fdiv j)) (xj (λ_ j=>decide (j≠0/\j.natAbs.log2<9000)) λi j=>i.fdiv j):=xh λi j z=>(of_decide_eq_true z:j≠0/\j.natAbs.log2<9000)
theorem Gw:l4 E (rI (λ_ j=>j≠0) λi j=>.int (i.fmod j)) (xj (λ_ j=>decide (j≠0)) λi j=>i.fmod j):=xh λi j z=>of_decide_eq_true z
theorem HJ:l4 E (rI Gu λi j=>.int (i^j.toNat)) (xj (λi j=>decide (0<=j/\j<=1000000/\i.natAbs<2^64)) λi j=>i^j.toNat):=xh λi j z=>(of_decide_eq_true z:0<=j/\j<=1000000/\i.natAbs<2^64)
def IJ:PV->M PV
 | .int i=>M.ok (.int (-i))
 | _=>none
def j8(f:af->M PV):af->M PV:=λenv=>(f env).bind IJ
theorem Fz(ha:PE X a (tE E f)):PE X (.UnaryOp .USub a pos) (tE E (j8 f)) :=
 (JT FD ha).imp fun σ H Q q=>JH q λHs H1 p v s rp h=>by
  cases rp with
  | int i=>exact⟨i,rfl,eM.flat h s (.int _)⟩
  | _=>exact h.elim
def r0:PV->Bool
 | .cR=>true
 | _=>false
theorem vy{H:Hp}{p:PV}{v:V}(r:Rep H p v):decide (v=.cR)=r0 p:=by
 cases r <;> rfl
def w6:PV->PV->M PV
 | p,.cR=>M.ok (.bl (r0 p))
 | _,_=>none
def kn:PV->PV->M PV
 | p,.cR=>M.ok (.bl (!r0 p))
 | _,_=>none
theorem Cm:l4 E (λx y H Q=>y=.cR/\Q (.bl (decide (x=.cR))) H) w6:=by
 intro σ Hs H p q v u Q s rp rq h
 cases rq with
 | cR =>
  have h':az (M.ok (PV.bl (r0 p))) (eM Hs H Q) (XW (E σ) Hs H):=by cases p <;> exact h
  exact⟨rfl,by rw[vy rp];exact eM.flat h' s (.bl _)⟩
 | _=>cases p <;> exact h.elim
theorem xR:l4 E (λx y H Q=>y=.cR/\Q (.bl (!decide (x=.cR))) H) kn:=by
 intro σ Hs H p q v u Q s rp rq h
 cases rq with
 | cR =>
  have h':az (M.ok (PV.bl (!r0 p))) (eM Hs H Q) (XW (E σ) Hs H):=by cases p <;> exact h
  exact⟨rfl,by rw[vy rp];exact eM.flat h' s (.bl _)⟩
 | _=>cases p <;> exact h.elim
def k4(o o':PV->PV->M PV)(f g h:af->M PV):af->M PV:=λenv=>(f env).bind λp=>(g env).bind λq=>(o p q).bind λz=>(vZ z).bind λk=>if k=true then (h env).bind λr=>o' q r else M.ok (.bl false)
theorem Bo{r r':R2}{o o':PV->PV->M PV}(hv:l4 E r o)(P_:l4 E r' o'){σ:St}{H:Hp}{Q:VK}(q:tE E (k4 o o' f g h) σ H Q):Bs r r' (tE E f) (tE E g) (tE E h) σ H Q:=by
 refine cq (K:=jZ Q) jZ.g q λB H₀ Hs H1 env p v sr rp hp=>?_
 refine⟨B,H₀,Hs,env,sr,(az.bind hp).imp (λq hq u MT H2 g2 ru=>?_) λe he=>he⟩
 have Ng:=sr.grow g2
 refine hv σ MT H2 p q v u _ Ng.gr.sub (rp.mono g2.st) ru ((az.bind hq).imp (λz hz w Oa H3 g3 Om=>?_) λe he=>he.grow g2)
 obtain⟨k,ek,hk⟩:=az.Ke (az.bind hz)
 subst ek
 cases Om
 refine⟨k,rfl,?_⟩
 have OB:=Ng.grow g3
 cases k with
 | false=>exact hk _ _ _ (g2.trans g3) (.bl _)
 | true =>
  have PJ:az ((h env).bind λr=>o' q r) (jZ Q Hs H1) (XW (E σ) Hs H1):=hk
  refine⟨B,H₀,Oa,env,OB,(az.bind PJ).imp (λr hr w Hs4 H4 g4 rw4=>?_) λe he=>he.grow (g2.trans g3)⟩
  exact P_ σ Hs4 H4 q r u w Q (OB.grow g4).gr.sub ((ru.mono g3.st).mono g4.st) rw4 (hr.imp (λz hz w' P4 H5 g5 r5=>hz w' P4 H5 ((g2.trans g3).trans (g4.trans g5)) r5) λe he=>he.grow ((g2.trans g3).trans g4))
theorem uv{op P1:CmpOp}{r r':R2}{o o':PV->PV->M PV}(ho:iu X (compareOp op) r)(hv:l4 E r o)(OD:iu X (compareOp P1) r')(P_:l4 E r' o')(ha:PE X a (tE E f))(hb:PE X b (tE E g))(hc:PE X c (tE E h))
  (hm:autoParam (lastMarks [op,P1] [b,c]=false) aU._auto_1):PE X (.Compare a [op,P1] [b,c] pos) (tE E (k4 o o' f g h)) :=
 (AW ho OD ha hb hc hm).imp fun σ H Q q=>Bo hv P_ q
def cU(u:af->M Bool)(b:af->M Out):Nat->af->M Out
 | 0,_=>none
 | n+1,env=>(u env).bind λt=>if t=true then (b env).bind λo=>match o with
   | .nx MI=>cU u b n MI
   | .ct MI=>cU u b n MI
   | .bk MI=>M.ok (.nx MI)
   | .rt p=>M.ok (.rt p)
  else M.ok (.nx env)
theorem yX{E:XK}{u:af->M Bool}{g:af->M Out}{body:List Stmt}(n:af->Nat)(O:fv X λ_=>E)(hc:PT X c (tT (λ_=>E) u))(hb:lZ X body (tS E g)):PS X (.While c body [] pos) (tS E λenv=>cU u g (n env) env):=by
 refine(Cc O.own hc hb).imp λD σ H q=>?_
 obtain⟨B,H₀,Hs,env,sr,q⟩:=q
 refine⟨λm σ H=>∃ Hs env,SR B H₀ Hs H σ env/\az (cU u g m env) (KS D B H₀) (XW E B H₀),⟨n env,Hs,env,sr,q⟩,?_⟩
 rintro m σ1 H1 ⟨MQ,env1,PC,q1⟩
 cases m with
 | zero=>exact q1.elim
 | succ m =>
  refine⟨B,H₀,MQ,env1,PC,(az.bind q1).imp (λt ht MT H2 g2=>?_) λe he=>he.grow PC.gr⟩
  have Ng:=PC.grow g2
  cases t with
  | false=>exact ht σ1 MT H2 Ng
  | true =>
   refine⟨fun σ' H'=>∃ ML MI,SR B H₀ ML H' σ' MI/\az (cU u g m MI) (KS D B H₀) (XW E B H₀),fun σ' H' z=>⟨m,Nat.lt_succ_self m,z⟩,B,H₀,MT,env1,Ng,(az.bind ht).imp (λo ho=>?_) λe he=>he⟩
   cases o with
   | nx MI=>exact fun σ' ML H' Ot=>⟨ML,MI,Ot,ho⟩
   | ct MI=>exact fun σ' ML H' Ot=>⟨ML,MI,Ot,ho⟩
   | bk MI=>exact ho
   | rt p=>exact ho
theorem jF{u:af->M Bool}{g:af->M Out}:∀ (n k:Nat) (env:af),cU u g n env≠none->cU u g (n+k) env=cU u g n env
 | 0,_,_,h=>(h rfl).elim
 | n+1,k,env,h=>by
  rw[show n+1+k=(n+k)+1 by omega]
  unfold cU at h ⊢
  cases hu:u env with
  | none=>rfl
  | some z =>
   cases z with
   | error e=>rfl
   | ok t =>
    rw[hu] at h
    cases t with
    | false=>rfl
    | true =>
     show M.bind (g env) _=M.bind (g env) _
     have h':M.bind (g env) (λo=>match o with
      | .nx MI=>cU u g n MI
      | .ct MI=>cU u g n MI
      | .bk MI=>M.ok (.nx MI)
      | .rt p=>M.ok (.rt p))≠none:=h
     cases hg:g env with
     | none=>rfl
     | some z =>
      cases z with
      | error e=>rfl
      | ok o =>
       rw[hg] at h'
       cases o with
       | nx MI=>exact jF n k MI h'
       | ct MI=>exact jF n k MI h'
       | bk MI=>rfl
       | rt p=>rfl
def kW(u:af->M Bool)(b:af->M Out)(env:af):M Out:=open Classical in cU u b (if h:∃ n,cU u b n env≠none then h.choose else 0) env
theorem zy{u:af->M Bool}{b:af->M Out}{n:Nat}{env:af}(h:cU u b n env≠none):kW u b env=cU u b n env:=by
 have hx:∃ n,cU u b n env≠none:=⟨n,h⟩
 unfold kW
 rw[dif_pos hx]
 have h1:=hx.choose_spec
 rw[← jF _ n env h1,← jF n hx.choose env h,Nat.add_comm]
theorem vR{E:XK}{u:af->M Bool}{g:af->M Out}{body:List Stmt}(O:fv X λ_=>E)(hc:PT X c (tT (λ_=>E) u))(hb:lZ X body (tS E g)):PS X (.While c body [] pos) (tS E (kW u g)) :=
 yX (λenv=>open Classical in if h:∃ n,cU u g n env≠none then h.choose else 0) O hc hb
end
end L2
namespace L2
open PySem PySem.Spec PyProof.Rows
def Iz:PV->Option String
 | .cR=>some "NoneType"
 | .bl _=>some "bool"
 | .int _=>some "int"
 | .str _=>some "str"
 | .lst _=>some "list"
 | .jO _=>some "list"
 | .tup _=>some "tuple"
 | .emp=>some "dict"
 | _=>none
def oa(a t:String):Bool:=a==t||(a == "bool" && t == "int")
theorem n8(K:PySem.W.Frag):PySem.W.kitOne K (.type "NoneType") (.type "int")=some false:=by with_unfolding_all kernel_rfl
theorem vL(K:PySem.W.Frag):PySem.W.kitOne K (.type "bool") (.type "int")=some true:=by with_unfolding_all kernel_rfl
def tys:List String:=["int", "bool", "str", "list", "tuple"]
theorem JF(K:PySem.W.Frag){p:PV}{a t:String}(ha:Iz p=some a)(ht:t∈tys):PySem.W.kitOne K (.type a) (.type t)=some (oa a t):=by
 have ht2:t = "int" \/ t = "bool" \/ t = "str" \/ t = "list" \/ t = "tuple" := by simpa [tys] using ht
 cases p <;> cases ha <;> rcases ht2 with rfl | rfl | rfl | rfl | rfl <;> first
  | exact n8 K
  | exact kt_NoneType_bool K
  | exact kt_NoneType_str K
  | exact kt_NoneType_list K
  | exact kt_NoneType_tuple K
  | exact vL K
  | exact kt_bool_bool K
  | exact kt_bool_str K
  | exact kt_bool_list K
  | exact kt_bool_tuple K
  | exact kt_int_int K
  | exact kt_int_bool K
  | exact kt_int_str K
  | exact kt_int_list K
  | exact kt_int_tuple K
  | exact kt_str_int K
  | exact kt_str_bool K
  | exact kt_str_str K
  | exact kt_str_list K
  | exact kt_str_tuple K
  | exact kt_list_int K
  | exact kt_list_bool K
  | exact kt_list_str K
  | exact kt_list_list K
  | exact kt_list_tuple K
  | exact kt_tuple_int K
  | exact kt_tuple_bool K
  | exact kt_tuple_str K
  | exact kt_tuple_list K
  | exact kt_tuple_tuple K
  | exact kt_dict_int K
  | exact kt_dict_bool K
  | exact kt_dict_str K
  | exact kt_dict_list K
  | exact kt_dict_tuple K
theorem BN{K:PySem.W.Frag}{Hs H:Hp}{p:PV}{v:V}{a:String}(s:bu Hs H)(r:Rep Hs p v)(ha:Iz p=some a):j4 K H v (.type a):=by
 cases r with
 | cR=>cases ha;exact .cR
 | bl b=>cases ha;exact .bl b
 | int i=>cases ha;exact .int i
 | str x=>cases ha;exact .str x
 | tup h _=>cases ha;exact .tup (s _ _ h)
 | lst h _=>cases ha;exact .lst (s _ _ h)
 | jO h _=>cases ha;exact .qB (s _ _ h)
 | emp h=>cases ha;exact .dK (s _ _ h)
 | _=>cases ha
theorem xF(K:PySem.W.Frag){p:PV}{a:String}(ha:Iz p=some a):∀ {Ts:List String},(∀ t∈Ts,t∈tys)->PySem.W.kitAny K (.type a) (Ts.map Value.type)=some (Ts.any λt=>oa a t)
 | [],_=>rfl
 | t::r,h=>by
  have h1:=JF K ha (h t List.mem_cons_self)
  have h2:=xF K ha (Ts:=r) λt q=>h t (List.mem_cons_of_mem _ q)
  simp only[List.map_cons,PySem.W.kitAny,h1,List.any_cons]
  cases oa a t with
  | true=>rfl
  | false=>exact h2
structure GX (K:PySem.W.Frag) (C:Addr):Prop where
 cls:jT K C
 ha:PySem.W.findIn K (.ref C) "__class__" = some (some (.builtin "object.__class__"))
 hn:PySem.W.specialIn K (.builtin "object.__class__") "__get__" = some (some (.builtin "getset_descriptor.__get__"))
 Ip:PySem.W.takesIn K (.builtin "object.__class__")=some true
 hm:PySem.W.mroIn K C (.type "object")=some true
def AF(b:String->Bool)(ob oe:Addr->Option Bool):PV->M PV
 | .obj C _=>fe ((ob C).map .bl)
 | .exc C _=>fe ((oe C).map .bl)
 | p=>fe ((Iz p).map λa=>.bl (b a))
section
variable{X:Cx}{E:St->XK}{e:Expr}{pos p px pt:Pos}{f:af->M PV}{T:String}{x:Str}{C:Addr}{ob oe:Addr->Option Bool}
theorem HA{H:Hp}{C:Addr}{fo:Option (List (Str×PV))}{Hs:Hp}{v:V}(s:bu Hs H)(r:Rep Hs (.exc C fo) v):∃ a fo',v=.ref a/\ExcAt H a C fo':=by
 cases r with
 | @zF a _ h=>exact⟨a,none,rfl,s _ _ h⟩
 | @yY a _ d _ vs h h2 _=>exact⟨a,some vs,rfl,d,s _ _ h,s _ _ h2⟩
def CP(b:String->Bool)(ob oe:Addr->Option Bool)(f:af->M PV):af->M PV:=λenv=>(f env).bind (AF b ob oe)
theorem uH{b:String->Bool}{p:PV}{Q:PV->Prop}{F:EX->Prop}(h:az (AF b ob oe p) Q F):(∃ a,Iz p=some a/\Q (.bl (b a)))\/(∃ C fs k,p=.obj C fs/\ob C=some k/\Q (.bl k))\/∃ C fo k,p=.exc C fo/\oe C=some k/\Q (.bl k):=by
 cases p with
 | obj C fs =>
  obtain⟨z,e,q⟩:=az.opt h
  obtain⟨k,e2,rfl⟩:=Option.map_eq_some_iff.mp e
  exact .inr (.inl ⟨C,fs,k,rfl,e2,q⟩)
 | exc C fo =>
  obtain⟨z,e,q⟩:=az.opt h
  obtain⟨k,e2,rfl⟩:=Option.map_eq_some_iff.mp e
  exact .inr (.inr ⟨C,fo,k,rfl,e2,q⟩)
 | cR=>exact .inl ⟨_,rfl,h⟩
 | bl _=>exact .inl ⟨_,rfl,h⟩
 | int _=>exact .inl ⟨_,rfl,h⟩
 | str _=>exact .inl ⟨_,rfl,h⟩
 | tup _=>exact .inl ⟨_,rfl,h⟩
 | lst _=>exact .inl ⟨_,rfl,h⟩
 | jO _=>exact .inl ⟨_,rfl,h⟩
 | emp=>exact .inl ⟨_,rfl,h⟩
theorem Ca{K:PySem.W.Frag}{Hs H:Hp}{C:Addr}{fs:List (Str×PV)}{v:V}(s:bu Hs H)(r:Rep Hs (.obj C fs) v)(c:GX K C):j4 K H v (.ref C):=by
 cases r with
 | obj h _=>exact .ins (s _ _ h) c.cls c.ha c.hn c.Ip c.hm
theorem oW(hg:Gl X "isinstance")(hm:X.mg "isinstance" = none)(hT:PE X (.Name x pt) (tC (.ty T)))(ht:T∈tys)(Qp:∀ C b,ob C=some b->GX X.K C/\PySem.W.kitOne X.K (.ref C) (.type T)=some b)(Oo:∀ C b,oe C=some b->jI X.K C/\PySem.W.kitOne X.K (.ref C) (.type T)=some b)(he:PE X e (tE E f))
  (h1:autoParam (starEach [e,.Name x pt] X.env=(false,eval e X.env)::starEach [.Name x pt] X.env) aR._auto_1) (h2:autoParam (starEach [.Name x pt] X.env=(false,eval (.Name x pt) X.env)::starEach [] X.env) aR._auto_1) (Nh:autoParam ((backTo pos (starEach [.Name x pt] X.env)).any (·.1)=false) aR._auto_1) :
  PE X (.Call (.Name "isinstance" p) [e,.Name x pt] [] pos) (tE E (CP (λa=>oa a T) ob oe f)):=by
 refine(qk (dQ.or Av BI) hg hm zY (gN he (gN hT mK h2) h1) (by decide) (by decide) h1 Nh).imp fun σ H Q q=>cq (K:=jZ Q) jZ.g q λB H₀ Hs H1 env p v sr rp hp=>?_
 rcases uH hp with ⟨a,ha,q⟩ | ⟨C,fs,k,rfl,e,q⟩ | ⟨C,fo,k,rfl,e,q⟩
 ·exact .inl ⟨v,T,_,_,rfl,BN sr.gr.sub rp ha,JF X.K ha ht,eM.flat q sr.gr.sub (.bl _)⟩
 ·exact .inl ⟨v,T,_,_,rfl,Ca sr.gr.sub rp (Qp C k e).1,(Qp C k e).2,eM.flat q sr.gr.sub (.bl _)⟩
 ·obtain⟨a,fo',rfl,hx⟩:=HA sr.gr.sub rp
  exact .inr ⟨a,C,fo',k,(Oo C k e).1,hx,.inl ⟨T,rfl,(Oo C k e).2⟩,eM.flat q sr.gr.sub (.bl _)⟩
theorem DS{e2:Expr}{t2:TE}{Ts:List String}(hg:Gl X "isinstance")(hm:X.mg "isinstance" = none)(hT:PE X e2 t2)(ht2:∀ σ H R,(∀ p,H p=none->R (.ref p) (upd H p (.tup (Ts.map V.ty))))->t2 σ H R)(ht:∀ t∈Ts,t∈tys)(Qp:∀ C b,ob C=some b->GX X.K C/\PySem.W.kitAny X.K (.ref C) (Ts.map Value.type)=some b)(he:PE X e (tE E f))
  (h1:autoParam (starEach [e,e2] X.env=(false,eval e X.env)::starEach [e2] X.env) aR._auto_1) (h2:autoParam (starEach [e2] X.env=(false,eval e2 X.env)::starEach [] X.env) aR._auto_1) (Nh:autoParam ((backTo pos (starEach [e2] X.env)).any (·.1)=false) aR._auto_1) :
  PE X (.Call (.Name "isinstance" p) [e,e2] [] pos) (tE E (CP (λa=>Ts.any λt=>oa a t) ob (λ_=>none) f)):=by
 refine(qk zR hg hm zY (gN he (gN hT mK h2) h1) (by decide) (by decide) h1 Nh).imp fun σ H Q q=>cq (K:=jZ Q) jZ.g q λB H₀ Hs H1 env p v sr rp hp=>?_
 refine ht2 σ H1 _ λtp hn=>?_
 have g:=bS.new (o:=.tup (Ts.map V.ty)) sr.gr.sub hn
 rcases uH hp with ⟨a,ha,q⟩ | ⟨C,fs,k,rfl,e,q⟩ | ⟨C,fo,k,rfl,e,q⟩
 ·exact⟨v,tp,Ts,_,_,rfl,aB,BN g.sub (rp.mono g.st) ha,xF X.K ha ht,q _ _ _ g (.bl _)⟩
 ·exact⟨v,tp,Ts,_,_,rfl,aB,Ca g.sub (rp.mono g.st) (Qp C k e).1,(Qp C k e).2,q _ _ _ g (.bl _)⟩
 ·cases e
end
end L2
namespace L2
open PySem PySem.Spec PyProof.Rows
open PySem.SeqAt (shaped noMix noMixAll)
mutual
def dat:PV->Option PyData
 | .cR=>some .none
 | .bl b=>some (.bool b)
 | .int i=>some (.int i)
 | .str x=>some (.str x)
 | .tup xs=>(pv xs).map .tuple
 | .lst xs=>(pv xs).map .list
 | .jO xs=>(pv xs).map .list
 | .obj _ _=>none
 | .exc _ _=>none
 | .emp=>none
def pv:List PV->Option (List PyData)
 | []=>some []
 | p::r=>(dat p).bind λd=>(pv r).map (d::·)
end
section
variable{X:Cx}{MG:List (Addr×Obj)}{σ:St}{H:Hp}{s:Shared}
mutual
theorem Rep.reads{Hs:Hp}(I:Inv X MG σ H s)(sm:bu Hs H):∀ {p:PV} {v:V} {u:Value} {d:PyData},Rep Hs p v->RelV v u->dat p=some d->∃ as,Reads s.heap u d as
 | _,_,u,d,.cR,r,e=>by
  cases e;cases (show u=Value.none from r);exact⟨_,.none⟩
 | _,_,u,d,.bl b,r,e=>by
  cases e;cases (show u=Value.bool b from r);exact⟨_,.bool b⟩
 | _,_,u,d,.int i,r,e=>by
  cases e;obtain⟨t,rfl⟩:=(show ∃ t,u=Value.int i t from r);exact⟨_,.int i t⟩
 | _,_,u,d,.str i,r,e=>by
  cases e;obtain⟨t,rfl⟩:=(show ∃ t,u=Value.str i t from r);exact⟨_,.str i t⟩
 | _,_,u,d,.tup (a:=a) ha hx,r,e=>by
  obtain⟨ds,e2,rfl⟩:=Option.map_eq_some_iff.mp (show (pv _).map PyData.tuple=some d from e)
  cases (show u=Value.ref a from r)
  obtain⟨MJ,r1,⟨o,ho,hc,n,hd⟩,_⟩:=I.tuple (h_.of (sm _ _ ha))
  obtain⟨as,ra⟩:=aV.reads I sm hx r1 e2
  exact⟨_,.tuple ho hc hd (by simpa using ra)⟩
 | _,_,u,d,.lst (a:=a) ha hx,r,e=>by
  obtain⟨ds,e2,rfl⟩:=Option.map_eq_some_iff.mp (show (pv _).map PyData.list=some d from e)
  cases (show u=Value.ref a from r)
  obtain⟨MJ,r1,⟨o,n,ho,hc,_,hd⟩,_⟩:=I.list (ir.of (sm _ _ ha))
  obtain⟨as,ra⟩:=aV.reads I sm hx r1 e2
  exact⟨_,.list ho hc hd (by simpa using ra)⟩
 | _,_,u,d,.jO (a:=a) (o:=ob) ha hx,r,e=>by
  obtain⟨ds,e2,rfl⟩:=Option.map_eq_some_iff.mp (show (pv _).map PyData.list=some d from e)
  cases (show u=Value.ref a from r)
  obtain⟨MJ,r1,⟨o,n,ho,hc,_,hd⟩,_⟩:=I.list (.inl (.inr ⟨ob,sm _ _ ha⟩))
  obtain⟨as,ra⟩:=aV.reads I sm hx r1 e2
  exact⟨_,.list ho hc hd (by simpa using ra)⟩
 | _,_,u,d,.obj _ _,r,e=>by cases e
 | _,_,u,d,.zF _,r,e=>by cases e
 | _,_,u,d,.yY _ _ _,r,e=>by cases e
 | _,_,u,d,.emp _,r,e=>by cases e
theorem aV.reads{Hs:Hp}(I:Inv X MG σ H s)(sm:bu Hs H):∀ {p:List PV} {v:List V} {u:List Value} {d:List PyData},aV Hs p v->Vals v u->pv p=some d->∃ as,ReadsAll s.heap u d as
 | _,_,_,_,.nil,.nil,e=>by cases e;exact⟨_,.nil⟩
 | _,_,_,d,.cons (p:=p) (ps:=ps) h hr,.cons r rr,e=>by
  obtain⟨d1,e1,e2⟩:=Option.bind_eq_some_iff.mp (show (dat p).bind (λd=>(pv ps).map (d::·))=some d from e)
  obtain⟨ds,e3,rfl⟩:=Option.map_eq_some_iff.mp e2
  obtain⟨as,ra⟩:=Rep.reads I sm h r e1
  obtain⟨bs,rb⟩:=aV.reads I sm hr rr e3
  exact⟨_,.cons ra rb⟩
end
end
def E2(d e:PyData):M Bool:=cD (shaped d=true/\shaped e=true/\noMix d e=true) (M.ok (same d e))
def qi(o:Bool->PV)(p q:PV):M PV:=match dat p,dat q with
 | some d,some e=>(E2 d e).bind λb=>M.ok (o b)
 | _,_=>none
def kr:PV->PV->M PV:=qi λb=>.bl b
def mM:PV->PV->M PV:=qi λb=>.bl (!b)
def Ai(o:Bool->Bool):R2:=λx y H Q=>∃ Hs p q d e,bu Hs H/\Rep Hs p x/\Rep Hs q y/\dat p=some d/\dat q=some e/\shaped d=true/\shaped e=true/\noMix d e=true/\Q (.bl (o (same d e))) H
section
variable{X:Cx}{E:St->XK}
theorem CC(hu:X.A.units+64<cLine):iu X (compareOp .Eq) (Ai id):=by
 intro MG s σ H x y v u Q I rx ry h
 obtain⟨Hs,p,q,d,e,sm,rp,rq,hd,he,h1,h2,h3,hq⟩:=h
 obtain⟨as,ra⟩:=Rep.reads I sm rp rx hd
 obtain⟨bs,rb⟩:=Rep.reads I sm rq ry he
 exact eq_dataH_same ra rb h1 h2 hu h3 (sJ I hq rfl)
theorem Bh(hu:X.A.units+64<cLine):iu X (compareOp .NotEq) (Ai not):=by
 intro MG s σ H x y v u Q I rx ry h
 obtain⟨Hs,p,q,d,e,sm,rp,rq,hd,he,h1,h2,h3,hq⟩:=h
 obtain⟨as,ra⟩:=Rep.reads I sm rp rx hd
 obtain⟨bs,rb⟩:=Rep.reads I sm rq ry he
 exact ne_dataH_same ra rb h1 h2 hu h3 (sJ I hq rfl)
theorem Cw{o:Bool->Bool}:l4 E (Ai o) (qi λb=>.bl (o b)):=by
 intro σ Hs H p q v u Q s rp rq h
 unfold qi at h
 split at h
 ·rename_i d e hd he
  have h':=az.bind h
  obtain⟨⟨h1,h2,h3⟩,h⟩:=az.cD h'
  exact⟨Hs,p,q,d,e,s,rp,rq,hd,he,h1,h2,h3,eM.flat h s (.bl _)⟩
 ·exact h.elim
theorem Fi:l4 E (Ai id) kr:=Cw
theorem E7:l4 E (Ai not) mM:=Cw
end
def nQ(xs:List PV)(lo hi:Option Int):List PV:=(xs.drop (HT.dr xs.length 0 lo)).take (HT.dr xs.length xs.length hi-HT.dr xs.length 0 lo)
theorem aV.cut{H:Hp}{xs:List PV}{vs:List V}(r:aV H xs vs)(lo hi:Option Int):aV H (nQ xs lo hi) (u4 vs lo hi):=by
 unfold nQ u4
 rw[r.length]
 exact(r.drop _).take _
abbrev JV(Q:Option Int->Hp->Prop):Hp->Hp->Option Int->Prop:=λHs H k=>∀ ML H',bS Hs H ML H'->Q k H'
def Kn(E:St->XK)(g:af->M (Option Int)):TO:=fun σ H Q=>tG E g (JV Q) σ H
theorem PO.imp{X:Cx}{e:Option Expr}{t t':TO}(h:PO X e t)(i:∀ σ H Q,t' σ H Q->t σ H Q):PO X e t':=λMG s σ H Q I q=>h MG s σ H Q I (i σ H Q q)
def Ie:PV->M (Option Int)
 | .int i=>M.ok (some i)
 | _=>none
def Hh:af->M (Option Int):=λ_=>M.ok none
def mE(f:af->M PV):af->M (Option Int):=λenv=>(f env).bind Ie
section
variable{X:Cx}{E:St->XK}{e:Expr}{lo hi:Option Expr}{pos p2:Pos}{f:af->M PV}{gl gh:af->M (Option Int)}
theorem JV.g{Q:Option Int->Hp->Prop}:KG (JV Q):=λHs H ML H' b k g MT H2 g2=>k MT H2 (g.trans g2)
theorem Er:PO X none (Kn E Hh):=Di.imp fun σ H Q q=>by
 obtain⟨B,H₀,Hs,env,sr,q⟩:=q
 exact q Hs H (.refl sr.gr.sub)
theorem t5(he:PE X e (tE E f)):PO X (some e) (Kn E (mE f)):=(DJ he).imp fun σ H Q q=>cq (K:=JV Q) JV.g q λB H₀ Hs H1 env p v sr rp hp=>by
 cases rp with
 | int i=>exact⟨i,rfl,hp Hs H1 (.refl sr.gr.sub)⟩
 | _=>exact hp.elim
end
def iK(xs:List PV):List PV:=xs.mapIdx λi x=>.tup [.int (i:Nat),x]
section
variable{E:St->XK}{K:PySem.W.Frag}{fs:af->M (List PV)}
theorem rD{a:Addr}{MQ:Hp}{xs:List PV}{vs:List V}(hq:∀ ML H',bu MQ ML->bu ML H'->ir K H' a vs)(hr:aV MQ xs vs):jW (Ik K a) MQ (iK xs) where
 stop:=λi Hs H s1 s2 hi=>by
  unfold iK at hi
  rw[List.length_mapIdx,hr.length] at hi
  exact⟨vs,hq Hs H s1 s2,hi⟩
 go:=λi Hs H s1 s2 hi=>by
  unfold iK at hi
  rw[List.length_mapIdx] at hi
  obtain⟨v,e,_⟩:=hr.get (List.getElem?_eq_getElem hi)
  exact⟨vs,v,hq Hs H s1 s2,e⟩
 uq:=λi Hs H x H2 s1 s2 hi y=>by
  unfold iK at hi
  rw[List.length_mapIdx] at hi
  obtain⟨v,e,r⟩:=hr.get (List.getElem?_eq_getElem hi)
  obtain⟨pa,v',hn,rfl,rfl,y1⟩:=y
  have z1:=y1 vs (hq Hs H s1 s2)
  rw[e] at z1;cases z1
  have gr:=bS.new (o:=.tup [.int (i:Nat),v]) s2 hn
  refine⟨.tup [.int (i:Nat),xs[i]],_,?_,gr,.tup aB (.cons (.int _) (.cons ((r.mono s1).mono gr.st) .nil))⟩
  unfold iK
  rw[List.getElem?_mapIdx,List.getElem?_eq_getElem hi]
  rfl
end
end L2
namespace L2
open PySem PySem.Spec PyProof.Rows
def Dx(lo st:Int)(n:Nat):It:=⟨λi _=>i<n,λi H x H'=>H'=H/\x=.int (lo+(i:Nat)*st),λi _=>n<=i⟩
theorem vF{P:Program}{w:World}{K:PySem.W.Frag}{tg:Expr}(it:Addr)(lo st:Int)(n:Nat):Turn P w K tg (Dx lo st n) [it] it (λi h=>IsRangeIter h it (lo+(i:Nat)*st) ((n:Int)-(i:Nat)) st) where
 mem:=by simp
 obj:=λi h st b hb=>by
  have e:b=it:=by simpa using hb
  subst e
  exact⟨_,st,λv z=>by
   have z':Data.fields _=Data.cell v:=z
   cases z'⟩
 keep:=λi h h' st k=>k it (by simp) _ st
 item:=by
  intro X hP hw hK hc i MG s σ H E I hf NO hg
  subst hP hw hK
  obtain⟨f0,f1,f2,f3,f4,f5⟩:=hf it (by simp)
  have W:=Walks.range (prog:=X.prog) (w:=X.w) (I.ok.hd hc) it lo st n
  refine W.item i s _ _ hg NO λv h' tk hv QD kk=>?_
  obtain⟨t,rfl⟩:=hv
  have I1:Inv X MG σ H { s with heap:=h',toks:=tk }:=I.turned (λb o hb e=>kk b o (by simpa using hb) e) f0 f1 f3 f4 f5
  exact⟨_,rfl,yd (s:={ s with heap:=h',toks:=tk }) (n := "range_iterator") QD rfl rfl (by decide) ⟨.int (lo+(i:Nat)*st),H,I1,⟨t,rfl⟩,⟨rfl,rfl⟩,QD,λb hb=>(hf b hb).1⟩⟩
 done:=by
  intro X hP hw hK hc i MG s σ H E I hf NO hg
  subst hP hw hK
  obtain⟨f0,f1,f2,f3,f4,f5⟩:=hf it (by simp)
  exact wpAny_pyNext_range_end (I.ok.hd hc) NO (by have:n<=i:=hg;omega) λh' eb=>⟨rfl,I.turned (t':=s.toks) (λb o hb e=>eb b o hb e) f0 f1 f3 f4 f5⟩
 self:=λ_ _ _ _ _ st h=>wpAny_pyIter_rangeiter st h
theorem tU(a b c:Int):0<=Builtin.Range.rangeSize a b c:=by
 unfold Builtin.Range.rangeSize
 split
 ·split
  ·have:=Int.ediv_nonneg (a:=b-a-1) (b:=c) (by omega) (by omega);omega
  ·omega
 ·split
  ·have:=Int.ediv_nonneg (a:=a-b-1) (b:=-c) (by omega) (by omega);omega
  ·omega
section
variable{X:Cx}{tg:Expr}
theorem zJ{MG:List (Addr×Obj)}{σ:St}{H:Hp}{s:Shared}{R:It->Hp->Prop}{E:Value->Shared->Prop}{lo hi st:Int}{t u v:Tok}{tk:Nat}(I:Inv X MG σ H s)(hsm:Builtin.Range.small lo hi st=true)
  (q:R (Dx lo st (Builtin.Range.rangeSize lo hi st).toNat) H):wpAny (model X.prog X.w) X.A (pyIter (.ref s.heap.objs.size)) (Kv X MG σ tg R) E { s with heap:=s.heap.push { cls:=.type "range", data:=.fields #[.int lo t,.int hi u,.int st v] },toks:=tk }:=by
 refine wpAny_pyIter_range (IsRange.new ..) hsm ?_
 have I1:Inv X MG σ H { s with heap:=s.heap.push { cls:=.type "range", data:=.fields #[.int lo t,.int hi u,.int st v] },toks:=tk }:=I.kept λb o e=>Heap.get?_push_of_some _ e
 refine⟨(s.heap.push { cls:=.type "range", data:=.fields #[.int lo t,.int hi u,.int st v] }).objs.size,[(s.heap.push { cls:=.type "range", data:=.fields #[.int lo t,.int hi u,.int st v] }).objs.size],_,_,H,rfl,
  I1.kept (t':=tk) λb o e=>Heap.get?_push_of_some _ e,vF _ lo st (Builtin.Range.rangeSize lo hi st).toNat,?_,λb hb=>?_,q⟩
 ·have e1:lo+((0:Nat):Int)*st=lo:=by simp
  have e2:(((Builtin.Range.rangeSize lo hi st).toNat:Nat):Int)-((0:Nat):Int)=Builtin.Range.rangeSize lo hi st:=by have:=tU lo hi st;omega
  show IsRangeIter _ _ (lo+((0:Nat):Int)*st) ((((Builtin.Range.rangeSize lo hi st).toNat:Nat):Int)-((0:Nat):Int)) st
  rw[e1,e2]
  exact Heap.get?_push_size _ rfl
 ·have e:b=(s.heap.push { cls:=.type "range", data:=.fields #[.int lo t,.int hi u,.int st v] }).objs.size:=by simpa using hb
  subst e
  exact I1.t6 (Nat.le_refl _) (I1.bM.fresh (Nat.le_refl _))
def C3(i j k:Int):Bool:=decide (k≠0)&&decide (k.natAbs<1073741824)&&Builtin.Range.small i j k
def EN(ta:TA):TI:=fun σ H R=>ta σ H λvs H1=>∃ i j k:Int,vs=[.int i,.int j,.int k]/\C3 i j k=true/\R (Dx i k (Builtin.Range.rangeSize i j k).toNat) H1
theorem rX{a b c:Expr}{ta:TA}{p pos:Pos}(hg:Gl X "range")(hm:X.mg "range" = none)(ha:PA X [a,b,c] ta)(hs:autoParam (starEach [a,b,c] X.env=[(false,eval a X.env),(false,eval b X.env),(false,eval c X.env)]) aR._auto_1)(N8:autoParam (starEach [b,c] X.env=[(false,eval b X.env),(false,eval c X.env)]) aR._auto_1) :
  PI X tg (.Call (.Name "range" p) [a,b,c] [] pos) (EN ta):=by
 intro MG s σ H R I h
 refine Call_ (jH I hg hm boot_range (PyProof.Rows.callWith_type1 (c6 (ha pos MG s σ H _ I h) λus s1 ⟨vs,H1,I1,r1,q1⟩=>?_) (by rw[hs,N8]) (by rw[N8];rfl)))
 obtain⟨i,j,k,e,hc,q⟩:=q1
 subst e
 cases r1 with
 | cons r rr =>
  cases rr with
  | cons r' rr =>
   cases rr with
   | cons QC rr =>
    cases rr
    obtain⟨t,rfl⟩:=r
    obtain⟨t',rfl⟩:=r'
    obtain⟨t'',rfl⟩:=QC
    unfold C3 at hc
    rw[Bool.and_eq_true,Bool.and_eq_true] at hc
    exact call_range_3 (of_decide_eq_true hc.1.1) (zJ I1 hc.2 q) (.inl (PyProof.noPylong_small (of_decide_eq_true hc.1.2)))
end
def zq:List PV->M (List PV)
 | [.int i,.int j,.int k]=>cD (C3 i j k=true) (M.ok ((List.range (Builtin.Range.rangeSize i j k).toNat).map λ(n:Nat)=>.int (i+n*k)))
 | _=>none
section
variable{E:St->XK}{K:PySem.W.Frag}{fs:af->M (List PV)}
theorem yM{lo st:Int}{n:Nat}{MQ:Hp}:jW (Dx lo st n) MQ ((List.range n).map λ(i:Nat)=>PV.int (lo+(i:Int)*st)) where
 stop:=λi Hs H s1 s2 hi=>show n<=i by simpa using hi
 go:=λi Hs H s1 s2 hi=>show i<n by simpa using hi
 uq:=λi Hs H x H2 s1 s2 hi y=>by
  obtain⟨rfl,rfl⟩:=y
  have P8:i<n:=by simpa using hi
  exact⟨.int (lo+(i:Int)*st),Hs,by simp[P8],.refl s2,.int _⟩
theorem yO{ps:List PV}{Q:List PV->Prop}{F:EX->Prop}(h:az (zq ps) Q F):∃ i j k,ps=[.int i,.int j,.int k]/\C3 i j k=true/\Q ((List.range (Builtin.Range.rangeSize i j k).toNat).map λ(n:Nat)=>.int (i+n*k)):=by
 unfold zq at h
 split at h
 ·obtain⟨hc,h⟩:=az.cD h
  exact⟨_,_,_,rfl,hc,h⟩
 ·exact h.elim
theorem aV.three{H:Hp}{p q r:PV}{vs:List V}(h:aV H [p,q,r] vs):∃ v u w,vs=[v,u,w]/\Rep H p v/\Rep H q u/\Rep H r w:=by
 cases h with
 | cons h r=>obtain⟨u,w,rfl,h2,h3⟩:=r.two;exact⟨_,_,_,rfl,h,h2,h3⟩
theorem uz:zU E (EN (tL E fs)) (jS zq fs):=by
 intro σ H R q
 refine dD (K:=KI R) KI.g q λB H₀ Hs H1 env ps v sr rp hp=>?_
 obtain⟨i,j,k,rfl,hc,hp⟩:=yO hp
 obtain⟨w,u,z,rfl,Om,ru,rz⟩:=rp.three
 cases Om
 cases ru
 cases rz
 exact⟨i,j,k,rfl,hc,hp _ Hs H1 (.refl sr.gr.sub) yM⟩
end
end L2
namespace L2
open PySem PySem.Spec PyProof.Rows
def jM:List PV->List PV->List PV->List PV
 | x::xs,y::ys,z::zs=>.tup [x,y,z]::jM xs ys zs
 | _,_,_=>[]
theorem rP:∀ {xs ys zs:List PV} {i:Nat} (h1:i<xs.length) (h2:i<ys.length) (h3:i<zs.length),(jM xs ys zs)[i]?=some (.tup [xs[i],ys[i],zs[i]])
 | x::xs,y::ys,z::zs,0,_,_,_=>rfl
 | x::xs,y::ys,z::zs,i+1,h1,h2,h3=>by
  show (jM xs ys zs)[i]?=_
  exact rP (xs:=xs) (ys:=ys) (zs:=zs) (i:=i) (by simpa using h1) (by simpa using h2) (by simpa using h3)
 | [],_,_,_,h1,_,_=>by simp at h1
 | _::_,[],_,_,_,h2,_=>by simp at h2
 | _::_,_::_,[],_,_,_,h3=>by simp at h3
theorem kz:∀ {xs ys zs:List PV},(jM xs ys zs).length=min xs.length (min ys.length zs.length)
 | x::xs,y::ys,z::zs=>by
  show (jM xs ys zs).length+1=_
  rw[kz]
  simp only[List.length_cons]
  omega
 | [],_,_=>by simp[jM]
 | _::_,[],_=>by simp[jM]
 | _::_,_::_,[]=>by simp[jM]
def wW:List PV->M (List PV)
 | [p,q,r]=>match bL p,bL q,bL r with
  | some xs,some ys,some zs=>M.ok (jM xs ys zs)
  | _,_,_=>none
 | _=>none
section
variable{E:St->XK}{K:PySem.W.Frag}{fs:af->M (List PV)}
theorem yZ{b1 b2 b3:Bool}{a1 a2 a3:Addr}{MQ:Hp}{xs ys zs:List PV}{vs us ws:List V}(Nt:∀ ML H',bu MQ ML->bu ML H'->kI K H' b1 a1 vs)(O_:aV MQ xs vs)(Nk:∀ ML H',bu MQ ML->bu ML H'->kI K H' b2 a2 us)(Pa:aV MQ ys us)
  (OI:∀ ML H',bu MQ ML->bu ML H'->kI K H' b3 a3 ws) (Qq:aV MQ zs ws):jW (Ln K b1 b2 b3 a1 a2 a3) MQ (jM xs ys zs) where
 stop:=λi Hs H s1 s2 hi=>by
  rw[kz,O_.length,Pa.length,Qq.length] at hi
  exact⟨vs,us,ws,Nt Hs H s1 s2,Nk Hs H s1 s2,OI Hs H s1 s2,by omega⟩
 go:=λi Hs H s1 s2 hi=>by
  rw[kz] at hi
  obtain⟨v,e,_⟩:=O_.get (List.getElem?_eq_getElem (show i<xs.length by omega))
  obtain⟨u,e',_⟩:=Pa.get (List.getElem?_eq_getElem (show i<ys.length by omega))
  obtain⟨w,e'',_⟩:=Qq.get (List.getElem?_eq_getElem (show i<zs.length by omega))
  exact⟨vs,us,ws,v,u,w,Nt Hs H s1 s2,Nk Hs H s1 s2,OI Hs H s1 s2,e,e',e''⟩
 uq:=λi Hs H x H2 s1 s2 hi y=>by
  rw[kz] at hi
  have l1:i<xs.length:=by omega
  have l2:i<ys.length:=by omega
  have l3:i<zs.length:=by omega
  obtain⟨v,e,r⟩:=O_.get (List.getElem?_eq_getElem l1)
  obtain⟨u,e',r'⟩:=Pa.get (List.getElem?_eq_getElem l2)
  obtain⟨w,e'',QC⟩:=Qq.get (List.getElem?_eq_getElem l3)
  obtain⟨pa,v',u',w',hn,rfl,rfl,y1,y2,y3⟩:=y
  have z1:=y1 vs (Nt Hs H s1 s2)
  have z2:=y2 us (Nk Hs H s1 s2)
  have z3:=y3 ws (OI Hs H s1 s2)
  rw[e] at z1;cases z1
  rw[e'] at z2;cases z2
  rw[e''] at z3;cases z3
  have gr:=bS.new (o:=.tup [v,u,w]) s2 hn
  exact⟨_,_,rP l1 l2 l3,gr,.tup aB (.cons ((r.mono s1).mono gr.st) (.cons ((r'.mono s1).mono gr.st) (.cons ((QC.mono s1).mono gr.st) .nil)))⟩
theorem zN{ps:List PV}{Q:List PV->Prop}{F:EX->Prop}(h:az (wW ps) Q F):∃ p q r xs ys zs,ps=[p,q,r]/\bL p=some xs/\bL q=some ys/\bL r=some zs/\Q (jM xs ys zs):=by
 unfold wW at h
 split at h
 ·split at h
  ·exact⟨_,_,_,_,_,_,rfl,by assumption,by assumption,by assumption,h⟩
  ·exact h.elim
 ·exact h.elim
theorem vj:zU E (EJ K (tL E fs)) (jS wW fs):=by
 intro σ H R q
 refine dD (K:=KI R) KI.g q λB H₀ Hs H1 env ps v sr rp hp=>?_
 obtain⟨p,q,r,xs,ys,zs,rfl,e1,e2,e3,hp⟩:=zN hp
 obtain⟨w,u,z,rfl,Om,ru,rz⟩:=rp.three
 obtain⟨b1,a1,vs,rfl,Nt,O_⟩:=kC (K:=K) sr.gr.sub Om e1
 obtain⟨b2,a2,us,rfl,Nk,Pa⟩:=kC (K:=K) sr.gr.sub ru e2
 obtain⟨b3,a3,ws,rfl,OI,Qq⟩:=kC (K:=K) sr.gr.sub rz e3
 exact⟨b1,b2,b3,a1,a2,a3,rfl,⟨vs,Nt Hs H1 (λ_ _ z=>z) sr.gr.sub⟩,⟨us,Nk Hs H1 (λ_ _ z=>z) sr.gr.sub⟩,⟨ws,OI Hs H1 (λ_ _ z=>z) sr.gr.sub⟩,hp _ Hs H1 (.refl sr.gr.sub) (yZ Nt O_ Nk Pa OI Qq)⟩
end
end L2
namespace L2
open PySem PySem.Spec PyProof.Rows
def nh(i j k:Nat):PV->af->M af
 | .tup [p,q,r],env=>M.ok (((env.set i (some (.sh p))).set j (some (.sh q))).set k (some (.sh r)))
 | _,_=>none
theorem xX{E:XK}{K:PySem.W.Frag}{i j k:Nat}:CJ E (iq K 3 (bq (aH i) (bq (aH j) (bq (aH k) ip)))) (nh i j k):=by
 intro B H₀ Hs H σ env p v Q Z sr r h
 cases r with
 | @tup a xs vs ha hx =>
  match xs,hx with
  | [p,q,r],hx =>
   obtain⟨v,u,w,rfl,rp,rq,rr⟩:=hx.three
   exact⟨a,[v,u,w],rfl,h_.of (sr.gr.sub _ _ ha),rfl,v,[u,w],rfl,u,[w],rfl,w,[],rfl,rfl,h _ (((sr.set rp).set rq).set rr)⟩
  | [],_=>exact h.elim
  | [_],_=>exact h.elim
  | [_,_],_=>exact h.elim
  | _::_::_::_::_,_=>exact h.elim
 | _=>exact h.elim
theorem vY{i j k:Nat}:pG (nh i j k):=λp env e h n=>by
 unfold nh at h
 split at h
 ·cases h;exact ky (ky (ky n))
 ·cases h
def CW(set:PV->af->M af)(f:af->M PV):af->M Out:=λenv=>(f env).bind λp=>(set p env).bind λMI=>M.ok (.nx MI)
section
variable{X:Cx}{E:XK}{e:Expr}{es:List Expr}{pos pos' px:Pos}{fs:af->M (List PV)}{f h:af->M PV}{i:Nat}{x:Str}
theorem H0{tg:Expr}{g:TG}{set:PV->af->M af}(hg:PG X tg g)(Po:CJ E g set)(he:PE X e (tE (λ_=>E) f))(hs:autoParam (swapsWithSole [tg] e pos.line X.env=pure false) aR._auto_1)(hw:autoParam (swappedStores [tg] e X.env=pure none) aR._auto_1)
  (h1:autoParam ((assignEach [tg] X.env).map (·.2)=[assign tg X.env]) aR._auto_1):PS X (.Assign [tg] e pos) (tS E (CW set f)):=by
 refine(BV he hg hs hw h1).imp λD σ H q=>i9 q λB H₀ Hs H1 env p v sr rp hp=>?_
 exact Po B H₀ Hs H1 σ env p v _ _ sr rp ((az.bind hp).imp (λMI he' σ' Ot=>he' σ' Hs H1 Ot) λ_ z=>z)
def ownAt(i:Nat)(env:af):M (List PV):=match env[i]? with
 | some (some (.ow xs))=>M.ok xs
 | _=>none
theorem az.own{i:Nat}{env:af}{Q:List PV->Prop}{F:EX->Prop}(h:az (ownAt i env) Q F):∃ xs,env[i]?=some (some (.ow xs))/\Q xs:=by
 unfold ownAt at h
 split at h
 ·exact⟨_,by assumption,h⟩
 ·exact h.elim
def EV(i:Nat)(xs:List PV)(p:PV)(env:af):PV->M Out
 | .int n=>match zV xs.length n with
  | some j=>M.ok (.nx (env.set i (some (.ow (xs.set j p)))))
  | none=>none
 | _=>none
def JO(i:Nat)(g f:af->M PV):af->M Out:=λenv=>(f env).bind λp=>(ownAt i env).bind λxs=>(g env).bind (EV i xs p env)
theorem Fj{ie:Expr}(hi:X.N[i]?=some x)(hv:CS X.env.scope x)(hk:PE X ie (tE (λ_=>E) h))(he:PE X e (tE (λ_=>E) f))(hd:autoParam ((x==("__debug__" : Str))=false) aD._auto_1)(N2:autoParam ((x==("__classdict__" : Str))=false) aD._auto_1)
  (ha:autoParam (∀ v,assign (.Subscript (.Name x px) ie pos') X.env v=(do
   let ov ← holding [v] (eval (.Name x px) X.env)
   let iv ← holding [v,ov] (eval ie X.env)
   standAt pos'
   holding [v,ov,iv] (setItem ov iv v)
   release [v,ov,iv] [])) aI._auto_1)
  (hs:autoParam (swapsWithSole [.Subscript (.Name x px) ie pos'] e pos.line X.env=pure false) aR._auto_1) (hw:autoParam (swappedStores [.Subscript (.Name x px) ie pos'] e X.env=pure none) aR._auto_1)
  (h1:autoParam ((assignEach [.Subscript (.Name x px) ie pos'] X.env).map (·.2)=[assign (.Subscript (.Name x px) ie pos') X.env]) aR._auto_1):PS X (.Assign [.Subscript (.Name x px) ie pos'] e pos) (tS E (JO i h f)):=by
 refine(BV he (F8 (mw hi hv hd N2) hk set_list ha) hs hw h1).imp λD σ H q=>i9 q λB H₀ Hs H1 env p v sr rp hp=>?_
 obtain⟨xs,ex,hp⟩:=az.own (az.bind hp)
 obtain⟨a,vs,h1,h2,h3,h4,h5⟩:=sr.ow i xs ex
 refine⟨.ref a,h1,B,H₀,Hs,env,sr,(az.bind hp).imp (λk hk w MT H2 g2 rk=>?_) λe he=>he.grow sr.gr⟩
 have Ng:=sr.grow g2
 cases rk with
 | int n =>
  have PJ:az (match zV xs.length n with | some j=>M.ok (Out.nx (env.set i (some (.ow (xs.set j p))))) | none=>none) (KS D B H₀) (XW E B H₀):=hk
  split at PJ
  ·rename_i j ej
   exact⟨a,vs,n,j,rfl,rfl,g2.al _ _ h2,by rw[← h5.length];exact ej,PJ σ MT _ (Ng.put ex h1 ((h5.mono g2.st).set (rp.mono g2.st) j))⟩
  ·exact PJ.elim
 | _=>exact hk.elim
end
theorem KO.gr{Q:VK}:KG (KO Q):=λHs H ML H' b k g vs p MT H2 g2 r n=>k vs p MT H2 (g.trans g2) r n
section
variable{X:Cx}{E:St->XK}{k n:Nat}{f C:Addr}{fd:FuncData}{ps:List Str}{sem:List PV->M (List PV)}{m:Str}{p pos apos MX:Pos}{e o:Expr}{es:List Expr}{fs:af->M (List PV)}{g:af->M PV}
end
end L2
namespace L2
open PySem PySem.Spec PyProof.Rows
mutual
def pq:PV->Bool
 | .cR=>true
 | .bl _=>true
 | .int _=>true
 | .str _=>true
 | .tup xs=>my xs
 | _=>false
def my:List PV->Bool
 | []=>true
 | p::r=>pq p&&my r
end
mutual
theorem Rep.away{Hs:Hp}{a:Addr}{ws:List V}(ha:Hs a=some (.lst ws)):∀ {p:PV} {v:V},Rep Hs p v->pq p=true->Rep (rem Hs a) p v
 | _,_,.cR,_=>.cR
 | _,_,.bl b,_=>.bl b
 | _,_,.int b,_=>.int b
 | _,_,.str b,_=>.str b
 | _,_,.tup (a:=c) h r,n=>by
  have nc:c≠a:=λz=>by subst z;rw[ha] at h;cases h
  exact .tup (by unfold rem;rw[if_neg nc];exact h) (r.away ha n)
 | _,_,.lst _ _,n=>by cases n
 | _,_,.jO _ _,n=>by cases n
 | _,_,.obj _ _,n=>by cases n
 | _,_,.zF _,n=>by cases n
 | _,_,.yY _ _ _,n=>by cases n
theorem aV.away{Hs:Hp}{a:Addr}{ws:List V}(ha:Hs a=some (.lst ws)):∀ {p:List PV} {v:List V},aV Hs p v->my p=true->aV (rem Hs a) p v
 | _,_,.nil,_=>.nil
 | _,_,.cons h r,n=>by
  have n':=Bool.and_eq_true_iff.mp (show (pq _&&my _)=true from n)
  exact .cons (h.away ha n'.1) (r.away ha n'.2)
end
def B8:M PV->M PV
 | some (.ok p)=>cD (pq p=true) (M.ok p)
 | _=>none
theorem az.B8{r:M PV}{Q:PV->Prop}{E:EX->Prop}(h:az (L2.B8 r) Q E):az r (λp=>pq p=true/\Q p) (λ_=>False):=by
 cases r with
 | none=>exact h
 | some r=>cases r with
  | error e=>exact h
  | ok p =>
   obtain⟨n,h⟩:=az.cD h
   exact⟨n,h⟩
theorem bS.back{Hs H ML H':Hp}{a:Addr}{ws:List V}(h1:Hs a=none)(hH:H a=some (.lst ws))(s:bu Hs H)(g:bS (upd Hs a (.lst ws)) H ML H'):bS Hs H (rem ML a) H'/\ML a=some (.lst ws):=by
 have e:ML a=some (.lst ws):=g.st _ _ aB
 refine⟨⟨λc u q=>?_,g.al,λc u q=>?_,λc u q1 q2=>?_⟩,e⟩
 ·have nc:c≠a:=λz=>by subst z;rw[h1] at q;cases q
  unfold rem;rw[if_neg nc]
  exact g.st c u (by rw[aw nc];exact q)
 ·unfold rem at q
  split at q
  ·cases q
  ·exact g.sub c u q
 ·unfold rem
  by_cases nc:c=a
  ·rw[if_pos nc]
  ·rw[if_neg nc]
   exact g.nw c u (by rw[aw nc];exact q1) q2
theorem SR.lend{B H₀ Hs H:Hp}{σ:St}{env:af}{i:Nat}{xs:List PV}(r:SR B H₀ Hs H σ env)(e:env[i]?=some (some (.ow xs))):∃ a vs,Hs a=none/\H a=some (.lst vs)/\SR B H₀ (upd Hs a (.lst vs)) H σ (sA i env):=by
 obtain⟨a,vs,h1,h2,h3,h4,h5⟩:=r.ow i xs e
 refine⟨a,vs,h3,h2,?_⟩
 have ne:∀ c u,Hs c=some u->c≠a:=λc u q z=>by rw[z,h3] at q;cases q
 have Nc:bu Hs (upd Hs a (.lst vs)):=λc u q=>by rw[aw (ne c u q)];exact q
 unfold sA
 rw[e]
 refine⟨⟨λc u q=>Nc c u (r.gr.st c u q),r.gr.al,λc u q=>?_,λc u q1 q2=>?_⟩,by rw[List.length_set];exact r.len,λj q ej=>?_,λj ys ej=>?_,λj k ys zs b nj e1 e2 e3 e4=>?_,λj ba C fs ej=>?_,λj k _ _ C D fs gs e1 e2=>?_⟩
 ·by_cases z:c=a
  ·subst z;rw[aB] at q;cases q;exact h2
  ·rw[aw z] at q;exact r.gr.sub c u q
 ·have z:c≠a:=λz=>by rw[z,h4] at q2;cases q2
  rw[aw z];exact r.gr.nw c u q1 q2
 ·rw[List.getElem?_set] at ej
  by_cases z:i=j
  ·subst z
   rw[if_pos rfl] at ej
   split at ej
   ·cases ej
    exact⟨.ref a,h1,.lst aB (h5.mono Nc)⟩
   ·cases ej
  ·rw[if_neg z] at ej
   obtain⟨v,q1,q2⟩:=r.sh j q ej
   exact⟨v,q1,q2.mono Nc⟩
 ·rw[List.getElem?_set] at ej
  by_cases z:i=j
  ·subst z
   rw[if_pos rfl] at ej
   split at ej <;> cases ej
  ·rw[if_neg z] at ej
   obtain⟨b,us,q1,q2,q3,q4,q5⟩:=r.ow j ys ej
   have nb:b≠a:=λw=>by subst w;exact r.sep i j xs ys b z e ej h1 q1
   exact⟨b,us,q1,q2,by rw[aw nb];exact q3,q4,q5.mono Nc⟩
 ·rw[List.getElem?_set] at e1 e2
  by_cases z:i=j
  ·subst z
   rw[if_pos rfl] at e1
   split at e1 <;> cases e1
  ·by_cases z2:i=k
   ·subst z2
    rw[if_pos rfl] at e2
    split at e2 <;> cases e2
   ·rw[if_neg z] at e1
    rw[if_neg z2] at e2
    exact r.sep j k ys zs b nj e1 e2 e3 e4
 ·rw[List.getElem?_set] at ej
  by_cases z:i=j
  ·subst z
   rw[if_pos rfl] at ej
   split at ej <;> cases ej
  ·rw[if_neg z] at ej
   obtain⟨dx,us,q1,q2,q3,q4,q5⟩:=r.bd j ba C fs ej
   have nb:ba≠a:=λw=>by subst w;rw[h2] at q2;cases q2
   exact⟨dx,us,q1,q2,by rw[aw nb];exact q3,q4,q5.mono Nc⟩
 ·rw[List.getElem?_set] at e1 e2
  by_cases z:i=j
  ·subst z
   rw[if_pos rfl] at e1
   split at e1 <;> cases e1
  ·by_cases z2:i=k
   ·subst z2
    rw[if_pos rfl] at e2
    split at e2 <;> cases e2
   ·rw[if_neg z] at e1
    rw[if_neg z2] at e2
    exact r.one j k _ _ C D fs gs e1 e2
def vt(i:Nat)(f:af->M PV):af->M PV:=λenv=>(ownAt i env).bind λ_=>B8 (f (sA i env))
section
variable{X:Cx}{E:St->XK}{e:Expr}{f:af->M PV}{u:af->M Bool}
theorem xI(i:Nat)(he:PE X e (tE E f)):PE X e (tE E (vt i f)):=he.imp fun σ H Q q=>by
 obtain⟨B,H₀,Hs,env,sr,q⟩:=q
 obtain⟨xs,ex,q⟩:=az.own (az.bind q)
 obtain⟨a,vs,h3,h2,Ng⟩:=sr.lend ex
 refine⟨B,H₀,_,_,Ng,(az.B8 q).imp (λp hp v ML H' g r=>?_) λ_ z=>z.elim⟩
 obtain⟨g2,ea⟩:=bS.back h3 h2 sr.gr.sub g
 exact hp.2 v _ _ g2 (r.away ea hp.1)
end
end L2
namespace L2
open PySem PySem.Spec PyProof.Rows
def bw:PV->PV->M PV:=xj (λ_ j=>decide (j≠0/\j.natAbs.log2<9000)) λi j=>i.fdiv j
def cP:PV->PV->M PV:=xj (λ_ j=>decide (j≠0)) λi j=>i.fmod j
def vC:PV->PV->M PV:=xj (λi j=>decide (0<=j/\j<=1000000/\i.natAbs<2^64)) λi j=>i^j.toNat
def CO:PV->PV->M PV:=BE λi j=>decide (i<j)
def C8:PV->PV->M PV:=BE λi j=>decide (i<=j)
def Iq:PV->PV->M PV:=BE λi j=>decide (j<i)
def Iu:PV->PV->M PV:=BE λi j=>decide (j<=i)
section
variable{E:St->XK}
theorem Bf:l4 E (rI Co λi j=>.int (i.fdiv j)) bw:=Dl
theorem De:l4 E (rI (λ_ j=>j≠0) λi j=>.int (i.fmod j)) cP:=Gw
theorem CY:l4 E (rI Gu λi j=>.int (i^j.toNat)) vC:=HJ
theorem wy:l4 E (xv λi j=>.bl (decide (i<j))) CO:=sS
theorem pE:l4 E (xv λi j=>.bl (decide (i<=j))) C8:=sS
theorem z8:l4 E (xv λi j=>.bl (decide (j<i))) Iq:=sS
theorem AR:l4 E (xv λi j=>.bl (decide (j<=i))) Iu:=sS
end
def a_(n:Nat)(s:List PV->M PV):List PV->M PV:=λps=>cD (ps.length=n) (s ps)
theorem lH{n:Nat}{s:List PV->M PV}{ps:List PV}(h:a_ n s ps≠none):ps.length=n:=by
 unfold a_ cD at h
 split at h
 ·assumption
 ·exact(h rfl).elim
section
variable{P:Program}{w:World}{K:PySem.W.Frag}{mg:Str->Option Value}{base:Heap}
theorem CF{k n:Nat}{f:Addr}{fd:FuncData}{ps:List Str}{s:List PV->M PV}(F:aJ P w K mg base (bF P w) k f fd ps (cQ n s)):aJ P w K mg base (bF P w) k f fd ps (cQ n (a_ n s)) where
 len:=λvs H Q E h=>by
  obtain⟨h0,Hs,qs,sm,r,h⟩:=h
  exact F.len vs H Q E ⟨h0,Hs,qs,sm,r,(az.cD h).2⟩
 run:=λA outer s H args us vs Q E hr e hb rv h=>by
  obtain⟨h0,Hs,qs,sm,r,h⟩:=h
  exact F.run A outer s H args us vs Q E hr e hb rv ⟨h0,Hs,qs,sm,r,(az.cD h).2⟩
structure cy (P:Program) (w:World) (K:PySem.W.Frag) (mg:Str->Option Value) (base:Heap) (n:Nat) (x:Str) (m:Nat) (sem:List PV->M PV):Prop where
 ex:∃ (f:Addr) (fd:FuncData) (ps:List Str),mg x=some (.ref f)/\PySem.W.keepIn K (.ref f)=true/\ps.length=m/\Binds K fd ps []/\aJ P w K mg base (bF P w) n f fd ps (cQ m (a_ m sem))
theorem aY.ME{x qual:Str}{st:Stmt}{dv:Value}{f:Addr}{fd:FuncData}{N ps:List Str}{k:Nat}{g:af->M Out}(F:aY K x qual st dv f fd)(S:cv N ps (bc st))
  (hb:∀ (M5:Value) (A:Around) (outer:List Env) (s:Shared) (H:Hp) (E:XK),cx k (A.deeper (envOfC qual (bc st) s.heap.objs.size f M5))->fv ((lq (bF P w) P w K mg base N qual (bc st) f M5 A outer s H E).out λ_=>E) (λ_=>E)->lZ ((lq (bF P w) P w K mg base N qual (bc st) f M5 A outer s H E).out λ_=>E) (fq st) (tS E g)) :
  aJ P w K mg base (bF P w) (k+1) f fd ps (cQ ps.length (a_ ps.length (ax N.length g))):=by
 obtain⟨oc,od,kV,doc,pm,an,M5,ct,OV,rfl,lk,N2⟩:=F.ex
 exact CF (G2 lk N2 S λA outer s H E hr=>hb M5 A outer s H E hr (E4 rfl rfl))
end
section
variable{X:Cx}{E:St->XK}{n m k:Nat}{x:Str}{sem:List PV->M PV}{e:Expr}{es:List Expr}{fs:af->M (List PV)}{p pos:Pos}
theorem cy.call(F:cy X.prog X.w X.K X.mg X.base n x m sem)(hr:cx k X.A)(hn:n<=k)(hg:Gl X x)(O:fv X E)(ha:PA X (e::es) (tL E fs))(NN:autoParam ((x==("__debug__" : Str))=false) aD._auto_1)(he:autoParam (starEach (e::es) X.env=(false,eval e X.env)::starEach es X.env) aR._auto_1)(Nh:autoParam ((backTo pos (starEach es X.env)).any (·.1)=false) aR._auto_1) :
  PE X (.Call (.Name x p) (e::es) [] pos) (tE E (ai (a_ m sem) fs)):=by
 obtain⟨f,fd,ps,h1,h2,h3,h4,h5⟩:=F.ex
 have:=DI (p:=p) (Ob:=[]) h5 (hr.mono hn) hg h1 h2 h4 .nil (λ_=>.nil) O (λN9 hp=>by rw[List.append_nil] at hp;exact lH hp) ha NN he Nh
 refine this.imp fun σ H Q q=>?_
 have e:(λps=>a_ m sem (ps++[]))=a_ m sem:=by funext ps;rw[List.append_nil]
 rw[e];exact q
structure iJ (P:Program) (w:World) (K:PySem.W.Frag) (mg:Str->Option Value) (base:Heap) (C:Addr) (n:Nat) (x:Str) (m:Nat) (sem:List PV->M PV):Prop where
 ex:∃ (f:Addr) (fd:FuncData) (ps:List Str),jT K C/\Meth K C x f/\Binds K fd ps []/\aJ P w K mg base (bF P w) n f fd ps (cQ m (a_ m sem))
theorem iJ.call{C:Addr}{o:Expr}{g:af->M PV}{apos:Pos}{pl:Sem Bool}(F:iJ X.prog X.w X.K X.mg X.base C n x m sem)(hr:cx k X.A)(hn:n<=k)(O:fv X E)(ho:PE X o (tE E g))(ha:PA X (e::es) (tL E fs))
  (Nc:autoParam (starEach (e::es) X.env=(false,eval e X.env)::starEach es X.env) aR._auto_1) (Nh:autoParam ((backTo pos (starEach es X.env)).any (·.1)=false) aR._auto_1)
  (ht:autoParam (eval (.Call (.Attribute o x apos) (e::es) [] pos) X.env=(do
   let ov ← eval o X.env
   standAt apos.atName
   let (f,first) ← holding [ov] (getMethod ov x pl)
   callWith pos f first (backTo pos (starEach (e::es) X.env)) (backToKw pos (keywordEach [] X.env)))) aR._auto_1) :
  PE X (.Call (.Attribute o x apos) (e::es) [] pos) (tE E (bo C x (a_ m sem) g fs)):=by
 obtain⟨f,fd,ps,h1,h2,h3,h4⟩:=F.ex
 exact Df ho h1 h2 h4 (hr.mono hn) h3 O (λN9 hp=>lH hp) ha Nc Nh ht
theorem iJ.z0{C:Addr}{o:Expr}{g:af->M PV}{apos:Pos}{pl:Sem Bool}(F:iJ X.prog X.w X.K X.mg X.base C n x m sem)(hr:cx k X.A)(hn:n<=k)(O:fv X E)(ho:PE X o (tE E g))
  (ht:autoParam (eval (.Call (.Attribute o x apos) [] [] pos) X.env=(do
   let ov ← eval o X.env
   standAt apos.atName
   let (f,first) ← holding [ov] (getMethod ov x pl)
   callWith pos f first (backTo pos (starEach [] X.env)) (backToKw pos (keywordEach [] X.env)))) aR._auto_1) :
  PE X (.Call (.Attribute o x apos) [] [] pos) (tE E (bo C x (a_ m sem) g ao)):=by
 obtain⟨f,fd,ps,h1,h2,h3,h4⟩:=F.ex
 exact Aj ho h1 h2 h4 (hr.mono hn) h3 O (λN9 hp=>lH hp) ht
end
structure r9 (P:Program) (w:World) (K:PySem.W.Frag) (mg:Str->Option Value) (base:Heap) (C:Addr) (n:Nat) (x:Str) (m:Nat) (Ob:List PV) (sem:Addr->List PV->M (List (Str×PV))):Prop where
 ex:∃ (f:Addr) (fd:FuncData) (ps:List Str) (ds:List Value) (Nu:List V),mg x=some (.ref C)/\Mk K C f/\Binds K fd ps ds/\Vals Nu ds/\(∀ H,aV H Ob Nu)/\aJ P w K mg base (bF P w) n f fd ps (CL m C sem)
def l7(m:Nat)(sem:Addr->List PV->M (List (Str×PV))):Addr->List PV->M (List (Str×PV)):=λa ps=>cD (ps.length+1=m) (sem a ps)
theorem zo{P:Program}{w:World}{K:PySem.W.Frag}{mg:Str->Option Value}{base:Heap}{k n:Nat}{f C:Addr}{fd:FuncData}{ps:List Str}{s:Addr->List PV->M (List (Str×PV))}(F:aJ P w K mg base (bF P w) k f fd ps (CL n C s)):aJ P w K mg base (bF P w) k f fd ps (CL n C (l7 n s)) where
 len:=λvs H Q E h=>by
  obtain⟨h0,a,dx,us,Hs,H1,qs,e1,e2,e3,e4,e5,sm,r,h⟩:=h
  exact F.len vs H Q E ⟨h0,a,dx,us,Hs,H1,qs,e1,e2,e3,e4,e5,sm,r,(az.cD h).2⟩
 run:=λA outer s H args us vs Q E hr e hb rv h=>by
  obtain⟨h0,a,dx,us',Hs,H1,qs,e1,e2,e3,e4,e5,sm,r,h⟩:=h
  exact F.run A outer s H args us vs Q E hr e hb rv ⟨h0,a,dx,us',Hs,H1,qs,e1,e2,e3,e4,e5,sm,r,(az.cD h).2⟩
theorem aY.Km{P:Program}{w:World}{K:PySem.W.Frag}{mg:Str->Option Value}{base:Heap}{x qual:Str}{st:Stmt}{dv:Value}{f C:Addr}{fd:FuncData}{N ps:List Str}{k:Nat}{g:af->M Out}(F:aY K x qual st dv f fd)(S:cv N ps (bc st))(hN:0<N.length)
  (hb:∀ (M5:Value) (A:Around) (outer:List Env) (s:Shared) (H:Hp) (E:XK),cx k (A.deeper (envOfC qual (bc st) s.heap.objs.size f M5))->fv ((lq (bF P w) P w K mg base N qual (bc st) f M5 A outer s H E).out λ_=>E) (λ_=>E)->lZ ((lq (bF P w) P w K mg base N qual (bc st) f M5 A outer s H E).out λ_=>E) (fq st) (tS E g)) :
  aJ P w K mg base (bF P w) (k+1) f fd ps (CL ps.length C (l7 ps.length (qL N.length g C))):=by
 obtain⟨oc,od,kV,doc,pm,an,M5,ct,OV,rfl,lk,N2⟩:=F.ex
 exact zo <| DG lk N2 S hN λA outer s H E hr=>hb M5 A outer s H E hr (E4 rfl rfl)
section
variable{X:Cx}{E:St->XK}{n m k:Nat}{x:Str}{e:Expr}{es:List Expr}{fs:af->M (List PV)}{p pos:Pos}
theorem r9.make{C:Addr}{Ob:List PV}{sem:Addr->List PV->M (List (Str×PV))}(F:r9 X.prog X.w X.K X.mg X.base C n x m Ob (l7 m sem))(hr:cx k X.A)(hn:n+1<=k)(hg:Gl X x)(O:fv X E)(ha:PA X (e::es) (tL E fs))(NN:autoParam ((x==("__debug__" : Str))=false) aD._auto_1)(he:autoParam (starEach (e::es) X.env=(false,eval e X.env)::starEach es X.env) aR._auto_1)(Nh:autoParam ((backTo pos (starEach es X.env)).any (·.1)=false) aR._auto_1) :
  PE X (.Call (.Name x p) (e::es) [] pos) (tE E (ai (cY C (l7 m sem) Ob) fs)):=by
 obtain⟨f,fd,ps,ds,Nu,h1,h2,h4,h5,h6,h7⟩:=F.ex
 refine C0 (p:=p) h2 h7 (hr.mono hn) hg h1 h4 h5 h6 O (λa N9 hp=>?_) ha NN he Nh
 unfold l7 cD at hp
 split at hp
 ·rename_i h;rwa [List.length_append] at h
 ·exact(hp rfl).elim
end
def t8:Addr->Option Bool:=λ_=>none
theorem o7{P:Addr->Bool->Prop}:∀ C b,t8 C=some b->P C b:=λ_ _ h=>by cases h
theorem vr{X:Cx}{E:St->XK}{x:Str}{pos:Pos}(i:Nat)(hN:autoParam (X.N[i]?=some x) aR._auto_1)(hv:CS X.env.scope x:=by first | exact .inl rfl | exact .inr (.inl rfl) | exact .inr (.inr rfl))(hd:autoParam ((x==("__debug__" : Str))=false) aD._auto_1)(N2:autoParam ((x==("__classdict__" : Str))=false) aD._auto_1):PE X (.Name x pos) (tE E (ae i)):=Hw hN hv hd N2
end L2
namespace L2
open PySem PySem.Spec PyProof.Rows
theorem Fc{env:Env}{e:Expr}{es:List Expr}(h:(match e with | .Starred ..=>true | _=>false)=false):starEach (e::es) env=(false,eval e env)::starEach es env:=by
 cases e <;> first | rfl | cases h
def ko:List Expr->Option (List Int)
 | []=>some []
 | .Constant (.int i) _ _::r=>(ko r).map (i::·)
 | _=>none
section
variable{X:Cx}{E:St->XK}{pos:Pos}
theorem xV:∀ {es:List Expr} {ns:List Int},ko es=some ns->PA X es (tL E λ_=>M.ok (ns.map PV.int))
 | [],_,h=>by cases h;exact Ax
 | .Constant (.int i) j p::r,ns,h=>by
  obtain⟨ms,h1,rfl⟩:=Option.map_eq_some_iff.mp (show (ko r).map (i::·)=some ns from h)
  exact xW BM (xV h1) (Fc rfl)
theorem xo{es:List Expr}(ns:List Int)(h:autoParam (ko es=some ns) aR._auto_1)(hz:autoParam (ns.length<=1000) aD._auto_1):PE X (.List es pos) (tE E λ_=>M.ok (.lst (ns.map PV.int))):=by
 refine(B0 (E:=E) (xV h)).imp fun σ H Q q=>?_
 have e:(rh λ_=>M.ok (ns.map PV.int))=λ_=>M.ok (.lst (ns.map PV.int)):=by
  funext env
  show cD _ _=_
  unfold cD
  rw[if_pos (by rw[List.length_map];exact Nat.le_trans hz (by decide))]
 rw[e];exact q
end
end L2
namespace L2
open PySem PySem.Spec PyProof.Rows
def Ac:PV->PV->M (List PV)
 | .lst xs,.int k=>cD (-(2^63)<=k/\k<2^63/\xs.length*k.toNat<=sizeLine) (M.ok (List.replicate k.toNat xs).flatten)
 | _,_=>none
def Ho(f g:af->M PV):af->M (List PV):=λenv=>(f env).bind λp=>(g env).bind λq=>Ac p q
section
variable{X:Cx}{E:St->XK}{a b:Expr}{pos:Pos}{f g:af->M PV}
theorem G8(ha:PE X a (tE E f))(hb:PE X b (tE E g)):PE X (.BinOp a .Mult b pos) (tO E (Ho f g)):=by
 refine(EK Ak ha hb).imp fun σ H Q q=>cq (K:=KO Q) KO.gr q λB H₀ Hs H1 env p v sr rp hp=>?_
 refine⟨B,H₀,Hs,env,sr,(az.bind hp).imp (λq hq u ML H' g' ru=>?_) λe he=>he⟩
 have Ot:=sr.grow g'
 have rp':=rp.mono g'.st
 cases rp' with
 | @lst l xs vs ha hx=>cases ru with
  | int k =>
   obtain⟨⟨h1,h2,h3⟩,h⟩:=az.cD hq
   exact⟨l,k,vs,rfl,rfl,Ot.gr.sub _ _ ha,h1,h2,by rw[← hx.length];exact h3,λp n=>h _ p ML H' g' (hx.rep _) n⟩
  | _=>exact hq.elim
 | _=>exact hq.elim
end
end L2
namespace L2
open PySem PySem.Spec PyProof.Rows
structure Ay (K:PySem.W.Frag) (mg:Str->Option Value) (C:Addr) (x:Str):Prop where
 hc:PySem.W.excIn K C fy "ValueError.__new__" = true
 c:jI K C
 ht:PySem.W.typeIn K (.ref C)=some (.type "type")
 kp:PySem.W.keepIn K (.ref C)=true
 m:mg x=some (.ref C)
structure qW (P:Program) (w:World) (K:PySem.W.Frag) (mg:Str->Option Value) (base:Heap) (C:Addr) (x fl:Str):Prop where
 ex:∃ (f:Addr) (fd:FuncData) (ps:List Str),o6 K C "ValueError.__new__" f=true/\PySem.W.isFn K (.ref f)=true/\aJ P w K mg base (bF P w) 1 f fd ps (zI K C fl)/\Binds K fd ps []
 c:jI K C
 ht:PySem.W.typeIn K (.ref C)=some (.type "type")
 kp:PySem.W.keepIn K (.ref C)=true
 m:mg x=some (.ref C)
section
variable{X:Cx}{E:XK}{e:Expr}{es:List Expr}{pos p MX:Pos}{x fl:Str}{C:Addr}{k:Nat}{fs:af->M (List PV)}
theorem Ay.raise(F:Ay X.K X.mg C x)(O:fv X λ_=>E)(MS:X.calm=true)(hg:Gl X x)(ha:PA X (e::es) (tL (λ_=>E) fs))
  (NN:autoParam ((x==("__debug__" : Str))=false) aD._auto_1) (he:autoParam (starEach (e::es) X.env=(false,eval e X.env)::starEach es X.env) aR._auto_1) (Nh:autoParam ((backTo MX (starEach es X.env)).any (·.1)=false) aR._auto_1) :
  PS X (.Raise (some (.Call (.Name x p) (e::es) [] MX)) none pos) (tS E (mC C fs)):=yw O MS F.hc F.c F.ht F.kp hg F.m ha NN he Nh
theorem qW.raise(F:qW X.prog X.w X.K X.mg X.base C x fl)(hr:cx k X.A)(hn:2<=k)(O:fv X λ_=>E)(MS:X.calm=true)(hg:Gl X x)(ha:PA X [e] (tL (λ_=>E) fs))
  (NN:autoParam ((x==("__debug__" : Str))=false) aD._auto_1) (he:autoParam (starEach [e] X.env=(false,eval e X.env)::starEach [] X.env) aR._auto_1) (Nh:autoParam ((backTo MX (starEach [] X.env)).any (·.1)=false) aR._auto_1) :
  PS X (.Raise (some (.Call (.Name x p) [e] [] MX)) none pos) (tS E (jA C fl fs)):=by
 obtain⟨f,fd,ps,h1,h2,h3,h4⟩:=F.ex
 exact yx O MS h1 h2 F.c F.ht F.kp h3 (hr.mono hn) h4 hg F.m ha NN he Nh
end
end L2
namespace L2
open PySem PySem.Spec PyProof.Rows
section
variable{X:Cx}{E:St->XK}
end
end L2
namespace L2
open PySem PySem.Spec PyProof.Rows
end L2
namespace L2
open PySem PySem.Spec PyProof.Rows
def Iy(i j:Nat)(env:af):List PV->M Out
 | [p,q]=>M.ok (.nx ((env.set i (some (.sh p))).set j (some (.sh q))))
 | _=>none
def Cj(i j:Nat)(fs:af->M (List PV)):af->M Out:=λenv=>(fs env).bind (Iy i j env)
theorem Bz{X:Cx}{E:XK}{i j:Nat}{x y:Str}{a b:Expr}{fs:af->M (List PV)}{px py pt pos:Pos}{kt k2:Nat}{P2:Pos}(hc:X.calm=true)(hN:X.N.Nodup)(hi:X.N[i]?=some x)(hj:X.N[j]?=some y)(hij:i≠j)
  (hx:X.env.scope.names.lookup x=some .local) (hy:X.env.scope.names.lookup y=some .local) (ha:PA X [a,b] (tL (λ_=>E) fs))
  (hw:swappedStores [.Tuple [.Name x px,.Name y py] kt pt] (.Tuple [a,b] k2 P2) X.env=pure (some [x,y]))
  (hs:autoParam (swapsWithSole [.Tuple [.Name x px,.Name y py] kt pt] (.Tuple [a,b] k2 P2) pos.line X.env=pure false) aR._auto_1) :
  PS X (.Assign [.Tuple [.Name x px,.Name y py] kt pt] (.Tuple [a,b] k2 P2) pos) (tS E (Cj i j fs)):=by
 refine(G_ hc hN hi hj hij hx hy ha hw hs).imp λD σ H q=>pY q λB H₀ Hs H1 env ps v sr rp hp=>?_
 match ps,rp,hp with
 | [],_,hp=>exact hp.elim
 | [_],_,hp=>exact hp.elim
 | _::_::_::_,_,hp=>exact hp.elim
 | [p,q],rp,hp =>
  obtain⟨v,u,rfl,r1,r2⟩:=rp.two
  exact⟨v,u,rfl,hp _ Hs H1 ((sr.set r1).set r2)⟩
end L2
namespace L2
open PySem PySem.Spec PyProof.Rows
section
variable{X:Cx}{E:St->XK}{pos:Pos}
end
end L2
namespace L2
open PySem PySem.Spec PyProof.Rows
section
variable{X:Cx}{tg elt iter c:Expr}{scope:Scope}{cl:List (Str×Addr)}{pos:Pos}{wi:TI}{it:af->M (List PV)}{g:TG}{set:PV->af->M af}{f:af->M PV}{ts fs:List Str}{js:List Nat}
theorem z6{E:St->XK}{σ:St}{H:Hp}{Q:VK}(hv:zU E wi it)(Po:∀ E,CJ E g set)(so:pG set)(q:tO E (cA it set none f ts.length js) σ H Q):wq wi g (tE EF f) ts js σ H Q:=by
 refine hv σ H _ ?_
 obtain⟨B,H₀,Hs,env,sr,q⟩:=q
 refine⟨B,H₀,Hs,env,sr,(az.bind q).imp (λxs hp J MQ H1 gr ok D hD=>?_) λe he=>he⟩
 obtain⟨hz,hp⟩:=az.cD hp
 have hp:=az.G5 hp
 have PC:=sr.grow gr
 refine⟨λi m σ H=>m=xs.length-i/\i<=xs.length/\Jc set none f Q MQ H1 D xs i σ H,⟨xs.length,by simp,Nat.zero_le _,MQ,_,[],[],PC.block hD,eD,aB,?_,.nil,Nat.le_refl _,hp.imp (λzs hz vs p MT H2 g2 r n=>hz vs p MT H2 (gr.trans g2) r n) λ_ z=>z⟩,?_⟩
 ·cases z:MQ D with
  | none=>rfl
  | some o=>have:=gr.sub _ _ z;rw[hD] at this;cases this
 rintro i m σ' H2 ⟨rfl,hi,MT,env2,ys,vs,Ng,n2,d1,d2,r2,l2,h2⟩
 by_cases ND:i<xs.length
 ·refine .inr ⟨ok.go i MT H2 Ng.gr.st Ng.gr.sub ND,Jc set none f Q MQ H1 D xs (i+1),fun σ3 H3 j=>⟨xs.length-(i+1),by omega,rfl,ND,j⟩,λx H3 y=>?_⟩
  obtain⟨p,Oa,ep,g3,r3⟩:=ok.uq i MT H2 x H3 Ng.gr.st Ng.gr.sub ND y
  have hd:xs.drop i=p::xs.drop (i+1):=by
   rw[List.drop_eq_getElem_cons ND]
   rw[List.getElem?_eq_getElem ND] at ep
   rw[Option.some.inj ep]
  rw[hd] at h2
  have h3:=az.bind h2
  have OB:=Ng.grow g3
  refine Po (λ_ _ _=>False) MQ H1 Oa H3 σ' env2 p x _ (λ_=>False) OB r3 ?_
  cases hset:set p env2 with
  | none=>rw[hset] at h3;exact h3
  | some z=>cases z with
   | error e=>rw[hset] at h3;exact h3
   | ok e3 =>
    rw[hset] at h3
    intro σ4 sr4
    have n4:=so p env2 e3 hset n2
    refine⟨MQ,H1,Oa,e3,sr4,(az.bind h3).imp (λy hy v P4 H5 g5 r5=>?_) λ_ z=>z.elim⟩
    exact Jc.put (set:=set) (t:=none) (f:=f) hD (sr4.grow g5) n4 (g5.al _ _ (g3.al _ _ d1)) (g5.nw _ _ (g3.nw _ _ d2 d1) (g3.al _ _ d1)) ((r2.mono g3.st).mono g5.st) l2 (by omega) r5 hy
 ·refine .inl ⟨ok.stop i MT H2 Ng.gr.st Ng.gr.sub (by omega),?_⟩
  exact Jc.done (set:=set) (t:=none) (f:=f) (xs:=xs) (MQ:=MQ) (H1:=H1) (i:=i) hD ⟨MT,env2,ys,vs,Ng,n2,d1,d2,r2,l2,h2⟩ (by omega)
variable{E:XK}{i:Nat}{y:Str}{py Pn:Pos}
theorem tF(MS:X.calm=true)
  (Nd:closureFor scope X.env=pure cl) (hk:scope.kind=.function) (nc:gu scope.names=true) (lo:iB scope.names=true) (fh:iG cl scope.names=true) (ag:e8 X cl) (fr:i6 X scope cl fs js)
  (hi:PI X tg iter wi) (hv:zU (λ_=>E) wi it) (hg:∀ C s₀ H₀ ex MG,PG (qy X scope cl (ts++fs) C s₀ H₀ ex MG) tg g) (Po:∀ E,CJ E g set) (so:pG set) (he:∀ C s₀ H₀ ex MG,PE (qy X scope cl (ts++fs) C s₀ H₀ ex MG) elt (tE EF f))
  (hN:X.N.Nodup) (hiy:X.N[i]?=some y) (hy:Loc X.env.scope y)
  (hs:autoParam (∀ x,foldedSetIterable iter X.env x=pure x) aI._auto_1) (Qs:autoParam (swapsWith (.ListComp elt [⟨tg,iter,[],0⟩] scope pos) (some (.Name y py)) Pn.line X.env=pure true) aR._auto_1)
  (hf:autoParam (X.fn y=true\/X.env.scope.names.lookup y=some .local) aF._auto_1) :
  PS X (.Assign [.Name y py] (.ListComp elt [⟨tg,iter,[],0⟩] scope pos) Pn) (tS E (bb i (cS (cA it set none f ts.length js)))):=by
 refine(CU hN hiy hy MS Nd hk nc lo fh ag fr hi hg he hs Qs hf).imp λD σ H q=>?_
 refine z6 hv Po so ?_
 obtain⟨B,H₀,Hs,env,sr,q⟩:=q
 refine⟨B,H₀,Hs,env,sr,(az.bind (az.bind q)).imp (λps hp vs p ML H' g r n=>?_) λe he=>he.grow sr.gr⟩
 have gn:=bS.new (o:=.lst vs) g.sub n
 exact hp _ _ _ ((sr.grow (g.trans gn)).set (.lst aB (r.mono gn.st)))
end
end L2
namespace L2
open PySem PySem.Spec PyProof.Rows
section
variable{X:Cx}{tg:Expr}{a:Expr}{ta:TA}{p pos:Pos}
end
section
variable{E:St->XK}{X:Cx}{fs:af->M (List PV)}{a tg:Expr}{p p2 pos pos2:Pos}
end
end L2
namespace L2
open PySem PySem.Spec PyProof.Rows
open AutoSeq1 (wpAny_loadPart')
theorem zL(l:Addr)(items:Array Value)(n:Nat)(dct:Option Addr)(sl:Array (Option Value)) :
  Meets (Builtin.«enumerate.__new__» ⟨[.type "enumerate", .ref l],[]⟩) (λ_ R s=>s.heap.get? l=some { cls:=.type "tuple", dict:=dct,data:=.seq items n,slots:=sl } ∧
   R (.ok (.ret (.ref (s.heap.push { cls:=.type "tuple_iterator", data:=.fields #[.ref l,.int 0 0] }).objs.size)))
    { s with heap:=(s.heap.push { cls:=.type "tuple_iterator", data:=.fields #[.ref l,.int 0 0] }).push { cls:=.type "enumerate", data:=.fields #[.none,.bool false,.ref s.heap.objs.size,rawInt 0,.none,.none] } }) :=
 .of_wp λprog w A R s h=>by
  obtain⟨hp,g,d,tk,os⟩:=s;obtain⟨hl,h⟩:=h
  have Qr:=sub_enumerate
  have hL:Heap.IsTuple (Shared.heap ⟨hp,g,d,tk,os⟩) l items:=⟨_,hl,rfl,n,rfl⟩
  wp_walk using wpAny_loadPart' hl
  refine wpAny_stack_any λst=>wpAny_pure ?_
  split
  ·rename_i c _ _ _ _ _
   cases (c==Value.type "enumerate")
   ·wp_walk using wpAny_loadPart' hl,wpAny_pyIter_tuple hL
    exact⟨_,rfl,h⟩
   ·wp_walk using wpAny_loadPart' hl,wpAny_pyIter_tuple hL
    exact⟨_,rfl,h⟩
  ·wp_walk using wpAny_loadPart' hl,wpAny_pyIter_tuple hL
   exact⟨_,rfl,h⟩
section
variable{prog:Program}{w:World}{A:Around}{E:Value->Shared->Prop}{s:Shared}
theorem wQ{l:Addr}{items:Array Value}{Q:Value->Shared->Prop}(hL:s.heap.IsTuple l items)
  (h:∀ h',IsEnum h' (s.heap.objs.size+1) s.heap.objs.size 0 .none->h'.IsTupleIter s.heap.objs.size l 0->h'.objs.size=s.heap.objs.size+2 ->
   (∀ b o,s.heap.get? b=some o->h'.get? b=some o)->Q (.ref (s.heap.objs.size+1)) { s with heap:=h' }) :
  wpAny (model prog w) A (call (.type "enumerate") [.ref l]) Q E s:=by
 obtain⟨⟨c,dct,dt,sl⟩,hl,hc,n,hd⟩:=hL
 replace hc:c=.type "tuple" := hc
 replace hd:dt=.seq items n:=hd
 subst hc hd
 refine callType_new F.called_enumerate (by decide) (F.typeCall_enumerate_1 _) (F.newCall_enumerate_1 _) (λobj=>F.args_object_init_2 obj _) F.entry_enumerate_new
  (zL l items n dct sl) ⟨hl,?_⟩
 have hz:(s.heap.push { cls:=.type "tuple_iterator", data:=.fields #[.ref l,.int 0 0] }).objs.size=s.heap.objs.size+1:=Heap.size_push ..
 show _/\_
 rw[hz]
 have he:IsEnum ((s.heap.push { cls:=.type "tuple_iterator", data:=.fields #[.ref l,.int 0 0] }).push
   { cls:=.type "enumerate", data:=.fields #[.none,.bool false,.ref s.heap.objs.size,rawInt 0,.none,.none] }) (s.heap.objs.size+1) s.heap.objs.size 0 .none:=by
  have:=Heap.get?_push_size (s.heap.push { cls:=.type "tuple_iterator", data:=.fields #[.ref l,.int 0 0] })
   (o:={ cls:=.type "enumerate", data:=.fields #[.none,.bool false,.ref s.heap.objs.size,rawInt 0,.none,.none] }) rfl
  rw[hz] at this;exact this
 refine⟨⟨_,he,rfl⟩,h _ he ⟨_,Heap.get?_push_of_some _ (Heap.get?_push_size _ rfl),rfl,rfl⟩ (by rw[Heap.size_push,hz]) λb o x=>Heap.get?_push_of_some _ (Heap.get?_push_of_some _ x)⟩
end
theorem G9{prog:Program}{w:World}{A:Around}(hh:A.handled=none)(it t:Addr)(items:Array Value) :
  Draws prog w A it [it,t] items.size (λi v=>items[i]?=some v) (λi h=>h.IsTupleIter it t i/\h.IsTuple t items) where
 live:=λ_ _ st=>let ⟨⟨o,ho,_⟩,_⟩:=st;⟨o,ho⟩
 frame:=λ_ _ _ st hk=>by
  obtain⟨⟨o,ho,r⟩,⟨o2,OZ,r2⟩⟩:=st
  exact⟨⟨o,hk it (by simp) o ho,r⟩,⟨o2,hk t (by simp) o2 OZ,r2⟩⟩
 item:=λi s Q E hi st hQ=>by
  obtain⟨st,tt⟩:=st
  refine iC st tt (x:=items[i]) (by simp[hi]) λh' PQ P9=>?_
  refine hQ _ h' s.toks (by simp[hi]) ⟨PQ,?_⟩ P9
  obtain⟨o,ho,c1,_⟩:=st
  obtain⟨o2,OZ,c2,r2⟩:=tt
  refine⟨o2,(P9.2 t λz=>?_).trans OZ,c2,r2⟩
  rw[z,ho] at OZ;cases OZ
  rw[c1] at c2;exact absurd c2 (by decide)
 done:=λs Q E st hE=>fx hh st.1 st.2 (by simp) hE
section
variable{X:Cx}
def HC (K : PySem.W.Frag) (a : Addr) : It :=
  ⟨λi H => ∃ xs x, h_ K H a xs /\ xs[i]? = some x,
   λi H y H' => ∃ p x, H p = none /\ y = .ref p /\ H' = upd H p (.tup [.int i, x]) /\ ∀ xs, h_ K H a xs -> xs[i]? = some x,
   λi H => ∃ xs, h_ K H a xs /\ xs.length <= i⟩
theorem wJ{P:Program}{w:World}{K:PySem.W.Frag}{elts:List Expr}{x1:Nat}{tp:Pos}(a e it:Addr)(OC:e≠it):Turn P w K (.Tuple elts x1 tp) (HC K a) [e,it] e (λi h=>(∃ old,IsEnum h e it i old)/\h.IsTupleIter it a i) where
 mem:=by simp
 obj:=λi h st b hb=>by
  obtain⟨⟨old,he⟩,⟨o,e1,c,d⟩⟩:=st
  rcases List.mem_cons.mp hb with z | z
  ·subst z
   exact⟨_,he,λv z=>by cases z⟩
  ·have z':b=it:=by simpa using z
   subst z'
   exact⟨o,e1,λv z=>by rw[d] at z;cases z⟩
 keep:=λi h h' st k=>by
  obtain⟨⟨old,he⟩,⟨o,ho,r⟩⟩:=st
  exact⟨⟨old,k e (by simp) _ he⟩,⟨o,k it (by simp) o ho,r⟩⟩
 item:=by
  intro X hP hw hK hc i MG s σ H E I hf st hg
  subst hP hw hK
  obtain⟨xs,x,hq,hx⟩:=hg
  obtain⟨MJ,rv,p,hz⟩:=I.tuple hq
  obtain⟨u,hu,ru⟩:=rv.get hx
  obtain⟨⟨old,he⟩,hit⟩:=st
  have O6:e<s.heap.objs.size:=Heap.lt_size he
  have PN:it<s.heap.objs.size:=by obtain⟨_,z,_⟩:=hit;exact Heap.lt_size z
  have hea:e ∉ [it,a]:=λz=>by
   rcases List.mem_cons.mp z with z | z
   ·exact OC z
   ·obtain⟨o,ho,c,_⟩:=p
    rw[← List.mem_singleton.mp z,he] at ho
    cases ho;exact absurd (show Value.type "enumerate" = Value.type "tuple" from c) (by decide)
  have P8:i<MJ.toArray.size:=by
   have:=(List.getElem?_eq_some_iff.mp hu).1
   simpa using this
  refine wpAny_pyNext_enum_itemD (G9 (A:=X.A.in1) (I.ok.hd hc) it a MJ.toArray) he ⟨hit,p⟩ P8 OC hea λu' h' tk hu' ho Nc hT Oe hk=>⟨_,rfl,?_⟩
  have eu:u'=u:=by
   rw[List.getElem?_toArray,hu] at hu';exact(Option.some.inj hu').symm
  subst eu
  refine wpAny_letOwnedTupleGo_enum (s:={ s with heap:=h',toks:=tk+1 }) ho λh2 he2 N8=>?_
  have Pe:∀ b o,b ∉ [e,it]->s.heap.get? b=some o->h2.get? b=some o:=λb o hb q=>by
   have n1:b≠e:=λz=>hb (by simp[z])
   have n2:b≠it:=λz=>hb (by simp[z])
   exact(N8.2 b n1).trans (hk b o n1 n2 q)
  have Pq:h2.get? s.heap.objs.size=some { cls:=.type "tuple", data:=.seq #[.int i tk,u'] }:=(N8.2 _ (Nat.ne_of_gt O6)).trans hT
  have I2:Inv X MG σ (upd H s.heap.objs.size (.tup [.int i,x])) { s with heap:=h2,toks:=tk+1 } :=
   I.kf (ch:=[e,it]) Pe hf (Nat.le_refl _) (λb hb=>by
    rcases List.mem_cons.mp hb with z | z
    ·subst z;exact⟨_,he⟩
    ·have z':b=it:=by simpa using z
     subst z'
     obtain⟨o,z,_⟩:=hit
     exact⟨o,z⟩)
    ⟨by show 2<=sizeLine;decide,[.int i tk,u'],.cons ⟨_,rfl⟩ (.cons ru .nil),⟨_,Pq,rfl,_,rfl⟩⟩
  have N7:H s.heap.objs.size=none:=I.bM.fresh (Nat.le_refl _)
  obtain⟨oi,hoi,ri⟩:=Nc.1
  refine⟨.ref s.heap.objs.size,_,I2,rfl,⟨_,x,N7,rfl,rfl,λys hy=>by rw[I.mx hy hq];exact hx⟩,⟨⟨u',by simpa using he2⟩,⟨oi,(N8.2 it (Ne.symm OC)).trans hoi,ri⟩⟩,λb hb=>?_⟩
  have nb:b≠s.heap.objs.size:=by
   rcases List.mem_cons.mp hb with z | z
   ·rw[z];exact Nat.ne_of_lt O6
   ·have z':b=it:=by simpa using z
    rw[z'];exact Nat.ne_of_lt PN
  rw[aw nb]
  exact(hf b hb).1
 done:=by
  intro X hP hw hK hc i MG s σ H E I hf st hg
  subst hP hw hK
  obtain⟨xs,hq,hx⟩:=hg
  obtain⟨MJ,rv,p,hz⟩:=I.tuple hq
  have hl:=rv.length
  obtain⟨⟨old,he⟩,hit⟩:=st
  obtain⟨f0,f1,f2,f3,f4,f5⟩:=hf it (by simp)
  have hT:s.TypeIs (.ref e) "enumerate" := ⟨_,he,rfl⟩
  unfold pyNext
  refine wpAny_bind (wpAny_attempt (wpAny_callSpecial?_slot (name:=Str.ofString "__next__") hT F.slot_enumerate_next
   (wpAny_call_entry F.slot_enumerate_next hT F.entry_enumerate_next ?_ (F.args_enumerate_next_1 _))))
  show wpAny _ _ (field (.ref e) 2 >>= _) _ _ _
  refine wpAny_bind (wpAny_field he rfl (x:=.ref it) rfl ?_)
  refine wpAny_bind (fx (I.ok.hd hc) hit p (by simp;omega) λh' x he' PY=>?_)
  obtain⟨o,ho,Pt⟩:=PY
  refine wpAny_bind (wpAny_isInstance (T := "StopIteration") (b:=true) ⟨o,ho,Pt⟩ isSubtype_stop ?_)
  exact wpAny_pure ⟨rfl,I.turned (t':=s.toks) (λb o hb e=>he' b o hb e) f0 f1 f3 f4 f5⟩
 self:=λ_ _ _ _ _ st h=>by
  obtain⟨⟨old,he⟩,_⟩:=st
  exact wpAny_pyIter_enum he h
def JE(K:PySem.W.Frag)(tl:TA):TI:=fun σ H R=>tl σ H λvs H1=>∃ a,vs=[.ref a]/\(((∃ xs,ir K H1 a xs)/\R (Ik K a) H1)\/((∃ xs,h_ K H1 a xs)/\R (HC K a) H1))
theorem l_{elts:List Expr}{x1:Nat}{tp:Pos}{l:Expr}{tl:TA}{p pos:Pos}(hg:Gl X "enumerate")(hm:X.mg "enumerate" = none)(hl:PA X [l] tl)(hs:autoParam (starEach [l] X.env=[(false,eval l X.env)]) aR._auto_1) :
  PI X (.Tuple elts x1 tp) (.Call (.Name "enumerate" p) [l] [] pos) (JE X.K tl):=by
 intro MG s σ H R I h
 refine Call_ (jH I hg hm PyProof.Rows.boot_enumerate (PyProof.Rows.callWith_type1 (c6 (hl pos MG s σ H _ I h) λus s1 ⟨vs,H1,I1,r1,q1⟩=>?_) hs rfl))
 obtain⟨a,e,q⟩:=q1
 subst e
 cases r1 with
 | cons r rr =>
  cases rr
  cases (show _=Value.ref a from r)
  have fp:∀ b∈[s1.heap.objs.size+1,s1.heap.objs.size],lF X MG H1 b:=λb hb=>by
   rcases List.mem_cons.mp hb with z | z
   ·subst z
    exact I1.t6 (Nat.le_succ _) (I1.bM.fresh (Nat.le_succ _))
   ·have z':b=s1.heap.objs.size:=by simpa using z
    subst z'
    exact I1.t6 (Nat.le_refl _) (I1.bM.fresh (Nat.le_refl _))
  rcases q with ⟨⟨xs,hq⟩,q⟩ | ⟨⟨xs,hq⟩,q⟩
  ·obtain⟨MJ,rv,pl,hz⟩:=I1.list hq
   refine call_enumerate_list pl.isList λh' he hit Oe hk=>?_
   refine wpAny_pyIter_enum (s:={ s1 with heap:=h' }) he ?_
   exact⟨s1.heap.objs.size+1,[s1.heap.objs.size+1,s1.heap.objs.size],_,_,H1,rfl,I1.kept (t':=s1.toks) hk,yu a _ _ (Nat.succ_ne_self _),⟨⟨_,he⟩,hit⟩,fp,q⟩
  ·obtain⟨MJ,rv,pl,hz⟩:=I1.tuple hq
   refine wQ pl λh' he hit Oe hk=>?_
   refine wpAny_pyIter_enum (s:={ s1 with heap:=h' }) he ?_
   exact⟨s1.heap.objs.size+1,[s1.heap.objs.size+1,s1.heap.objs.size],_,_,H1,rfl,I1.kept (t':=s1.toks) hk,wJ a _ _ (Nat.succ_ne_self _),⟨⟨_,he⟩,hit⟩,fp,q⟩
end
def Lj(p:PV):M (List PV):=match bL p with
 | some xs=>M.ok (iK xs)
 | none=>none
def CK:List PV->M (List PV)
 | [p]=>Lj p
 | _=>none
section
variable{E:St->XK}{K:PySem.W.Frag}{fs:af->M (List PV)}
theorem AU{a:Addr}{MQ:Hp}{xs:List PV}{vs:List V}(hq:∀ ML H',bu MQ ML->bu ML H'->h_ K H' a vs)(hr:aV MQ xs vs):jW (HC K a) MQ (iK xs) where
 stop:=λi Hs H s1 s2 hi=>by
  unfold iK at hi
  rw[List.length_mapIdx,hr.length] at hi
  exact⟨vs,hq Hs H s1 s2,hi⟩
 go:=λi Hs H s1 s2 hi=>by
  unfold iK at hi
  rw[List.length_mapIdx] at hi
  obtain⟨v,e,_⟩:=hr.get (List.getElem?_eq_getElem hi)
  exact⟨vs,v,hq Hs H s1 s2,e⟩
 uq:=λi Hs H x H2 s1 s2 hi y=>by
  unfold iK at hi
  rw[List.length_mapIdx] at hi
  obtain⟨v,e,r⟩:=hr.get (List.getElem?_eq_getElem hi)
  obtain⟨pa,v',hn,rfl,rfl,y1⟩:=y
  have z1:=y1 vs (hq Hs H s1 s2)
  rw[e] at z1;cases z1
  have gr:=bS.new (o:=.tup [.int (i:Nat),v]) s2 hn
  refine⟨.tup [.int (i:Nat),xs[i]],_,?_,gr,.tup aB (.cons (.int _) (.cons ((r.mono s1).mono gr.st) .nil))⟩
  unfold iK
  rw[List.getElem?_mapIdx,List.getElem?_eq_getElem hi]
  rfl
theorem kB:zU E (JE K (tL E fs)) (jS CK fs):=by
 intro σ H R q
 refine dD (K:=KI R) KI.g q λB H₀ Hs H1 env ps v sr rp hp=>?_
 match ps,rp,hp with
 | [],_,hp=>exact hp.elim
 | _::_::_,_,hp=>exact hp.elim
 | [p],rp,hp =>
  obtain⟨w,rfl,Om⟩:=rp.one
  cases Om with
  | lst ha hx=>exact⟨_,rfl,.inl ⟨⟨_,ir.of (sr.gr.sub _ _ ha)⟩,hp _ Hs H1 (.refl sr.gr.sub) (rD (λML H' s1 s2=>ir.of (s2 _ _ (s1 _ _ ha))) hx)⟩⟩
  | jO ha hx=>exact⟨_,rfl,.inl ⟨⟨_,.inl (.inr ⟨_,sr.gr.sub _ _ ha⟩)⟩,hp _ Hs H1 (.refl sr.gr.sub) (rD (λML H' s1 s2=>.inl (.inr ⟨_,s2 _ _ (s1 _ _ ha)⟩)) hx)⟩⟩
  | tup ha hx=>exact⟨_,rfl,.inr ⟨⟨_,h_.of (sr.gr.sub _ _ ha)⟩,hp _ Hs H1 (.refl sr.gr.sub) (AU (λML H' s1 s2=>h_.of (s2 _ _ (s1 _ _ ha))) hx)⟩⟩
  | _=>exact hp.elim
end
end L2
namespace L2
open PySem PySem.Spec PyProof.Rows
section
variable{X:Cx}{E:St->XK}{e:Expr}{pos pos':Pos}{f:af->M PV}{i:Nat}{x:Str}
end
section
variable{X:Cx}{E:St->XK}{e:Expr}{pos pos':Pos}{f:af->M PV}{i:Nat}{x:Str}
end
section
variable{X:Cx}{MG Pm:List (Addr×Obj)}{σ:St}{H:Hp}{s:Shared}{ea:Addr}
end
section
variable{X:Cx}{MG:List (Addr×Obj)}{σ:St}{H Hc B H₀ Hs:Hp}{s:Shared}{ea T C:Addr}{dd:Option Addr}{E:XK}{env:af}{fo:Option (List (Str×PV))}{D:Ends}{Z:EX->Prop}{F:Value->Shared->Prop}
end
end L2
namespace L2
open PySem PySem.Spec PyProof.Rows
section
variable{X:Cx}{E:St->XK}{e:Expr}{pos p px pt:Pos}{f:af->M PV}{x:Str}{D:Addr}{ys ns yo no:List Addr}
end
end L2
namespace L2
open PySem PySem.Spec PyProof.Rows
section
variable{X:Cx}{E:St->XK}{e o:Expr}{pos apos MX:Pos}{f g:af->M PV}
def Fo:List V->Hp->VK->Prop:=λxs H Q=>∃ b,xs=[.bl b]/\Q (.int (if b then 1 else 0)) H
theorem yh:dQ X (.type "int") Fo:=by
 intro MG s σ H xs us Q I r h
 obtain⟨b,rfl,q⟩:=h
 obtain⟨u,rfl,rx⟩:=vals1 r
 cases rx
 exact call_int_bool ⟨.int _,H,I.kept (t':=s.toks+1) λ_ _ z=>z,⟨_,rfl⟩,q⟩
def IM:PV->M PV
 | .bl b=>M.ok (.int (if b then 1 else 0))
 | _=>none
def sx:List PV->M PV
 | [p]=>IM p
 | _=>none
theorem DH:kL E Fo sx:=by
 intro σ Hs H ps vs Q s rp h
 match ps,rp,h with
 | [],_,h=>exact h.elim
 | _::_::_,_,h=>exact h.elim
 | [p],rp,h =>
  obtain⟨w,rfl,Om⟩:=rp.one
  cases Om with
  | bl b=>exact⟨b,rfl,eM.flat h s (.int _)⟩
  | _=>exact h.elim
def IL(K:PySem.W.Frag):V->List V->Hp->VK->Prop:=λx vs H Q=>∃ (l:Addr) (bs:List Bool) (b:Bool) (j:Nat),x=.ref l/\vs=[.bl b]/\ir K H l (bs.map V.bl)/\bs.findIdx? (·==b)=some j/\Q (.int j) H
theorem Vals.IC{bs:List Bool}{us:List Value}(r:Vals (bs.map V.bl) us):us=bs.map Value.bool:=by
 induction bs generalizing us with
 | nil=>cases r;rfl
 | cons a t ih =>
  cases r with
  | cons h r =>
   cases (show _=Value.bool a from h)
   rw[ih r];rfl
theorem Ba:Mb X "list.index" (IL X.K):=by
 intro MG s σ H x vs v us Q I rx rv h
 obtain⟨l,bs,b,j,rfl,rfl,hq,hj,q⟩:=h
 cases rx
 obtain⟨u,rfl,ru⟩:=rv.one
 cases ru
 obtain⟨MJ,r,⟨ob,n,e,c,hdd,hd⟩,hz⟩:=I.list hq
 obtain rfl:=r.IC
 obtain⟨oc,od,dt,sl⟩:=ob
 simp only at c hd
 subst c hd
 obtain⟨hj1,hj2,hj3⟩:=List.findIdx?_eq_some_iff_getElem.mp hj
 have hl:j<(bs.map Value.bool).toArray.size:=by simpa using hj1
 have OE:bs.length<=sizeLine:=by simpa using hz
 have hs:(j:Int)<2^63-1:=by
  have:sizeLine<2^40:=by decide
  omega
 refine call_meets F.slot_list_index ⟨_,e,rfl⟩ F.entry_list_index (F.args_list_index_2 _ _) (SeqAt.list_indexAt l (bs.map Value.bool).toArray n od sl (.bool b) (λy=>y==.bool b) j hl hs ?_ ?_) ⟨e,λy hy=>?_,?_⟩
 ·have:=eq_of_beq hj2
  simp[this]
 ·intro m hm h2
  have:=hj3 m h2
  simpa using this
 ·obtain⟨a,ha,rfl⟩:∃ a,a∈bs/\Value.bool a=y:=by simpa using hy
  have:=SeqAt.EqAt.bool_bool (A:=X.A.in1) (s:=s) a b
  have e2:(Value.bool a==Value.bool b)=(a==b):=by cases a <;> cases b <;> rfl
  rw[e2];exact this
 ·exact⟨.int j,H,I.kept (t':=s.toks+1) λ_ _ z=>z,⟨_,rfl⟩,q⟩
def Fp(p q:PV):M PV:=match p,q with
 | .lst xs,.bl b=>fe ((wm xs).bind λbs=>(bs.findIdx? (·==b)).map λ(j:Nat)=>.int (j:Int))
 | _,_=>none
def J4(p:PV)(k:M PV):M PV:=match p with
 | .lst xs=>k.bind λq=>Fp (.lst xs) q
 | _=>none
def zW(f g:af->M PV):af->M PV:=λenv=>(f env).bind λp=>J4 p (g env)
theorem AN(ho:PE X o (tE E f))(ha:PE X e (tE E g))(Ox:autoParam (attributeBase o "index" X.env (eval o X.env)=eval o X.env) aR._auto_1)
  (O7:autoParam (((backTo MX (starEach [e] X.env)).all (λx=>!x.1)&&(backToKw MX (keywordEach [] X.env)).all (λx=>x.1.isSome)&&decide ([e].length+([]:List Keyword).length+(if ([]:List Keyword).isEmpty then 0 else 1)<30))=true) aR._auto_1)
  (Oy:autoParam ((apos.endLine==MX.line)=true) aR._auto_1) (hs:autoParam (starEach [e] X.env=(false,eval e X.env)::starEach [] X.env) aR._auto_1) (Od:autoParam ((backTo MX (starEach [] X.env)).any (·.1)=false) aR._auto_1) :
  PE X (.Call (.Attribute o "index" apos) [e] [] MX) (tE E (zW f g)):=by
 refine(E1 PySem.F.plainAttrs_list PySem.F.slot_list_index PySem.F.type_list_index Ba ho (gN ha mK hs) Ox O7 Oy hs Od).imp fun σ H Q q=>?_
 refine t7 q λB H₀ Hs H1 env p v sr rp hp=>?_
 cases rp with
 | @lst a _ vs ha' hx =>
  refine⟨.inl ⟨rfl,_,ir.of (sr.gr.sub _ _ ha')⟩,B,H₀,Hs,env,sr,(az.bind hp).imp (λq2 hq u ML H' g' ru=>?_) λe he=>he⟩
  cases ru with
  | bl b =>
   obtain⟨z,ez,Nk⟩:=az.opt hq
   obtain⟨bs,e1,e2⟩:=Option.bind_eq_some_iff.mp ez
   obtain⟨j,e3,rfl⟩:=Option.map_eq_some_iff.mp e2
   obtain rfl:=wF e1
   obtain rfl:=hx.IC
   exact⟨a,bs,b,j,rfl,rfl,ir.of ((sr.grow g').gr.sub _ _ (g'.st _ _ ha')),e3,Nk _ _ _ g' (.int _)⟩
  | _=>exact hq.elim
 | _=>exact hp.elim
end
end L2
namespace L2
open PySem PySem.Spec PyProof.Rows _root_.HT
section
variable{prog:Program}{w:World}{A:Around}{E:Value->Shared->Prop}{s:Shared}
theorem lC{t sl:Addr}{items:Array Value}{vl vu:Value}{lo hi:Option Int}{Q:Value->Shared->Prop}(ht:IsTup s.heap t items)(hs:s.heap.IsSliceOf sl vl vu .none)(pl:IsPart vl lo)(pu:IsPart vu hi)
  (hw:dr items.size 0 lo=0/\dr items.size items.size hi=items.size) (h:Q (.ref t) s):wpAny (model prog w) A (getItem (.ref t) (.ref sl)) Q E s:=by
 obtain⟨os,PU,hcs,Qj⟩:=id hs
 have hTs:s.TypeIs (.ref sl) "slice" := ⟨os,PU,hcs⟩
 unfold getItem
 try with_reducible refine wpAny_holding ?_
 first | refine wpAny_bind (wpAny_pure ?_) | skip
 refine wpAny_bind (wpAny_sequenceKey ht.typeIs (by decide) ?_)
 refine wpAny_bind (wpAny_callSpecial?_slot (name:=Str.ofString "__getitem__") ht.typeIs PyProof.Rows.slot_tuple_getitem
  (wpAny_call_entry PyProof.Rows.slot_tuple_getitem ht.typeIs entry_tuple_getitem ?_ (args_tuple_getitem _ _)))
 show wpAny _ _ (Builtin.Tuple.tupleItemsOf (.ref t) >>= _) _ _ s
 refine wpAny_bind (tupleItemsOf_ ht ?_)
 refine wpAny_bind (wpAny_typeOf hTs ?_)
 rw[if_pos (by decide)]
 refine wpAny_bind (iY hs pl pu ?_)
 have hyes:(((dr items.size 0 lo:Nat):Int)==0&&(1:Int)==1&&(dr items.size items.size hi-dr items.size 0 lo)==items.size)=true:=by
  rw[hw.1,hw.2];simp
 show wpAny _ _ (if (((dr items.size 0 lo:Nat):Int)==0&&(1:Int)==1&&(dr items.size items.size hi-dr items.size 0 lo)==items.size)=true then _ else _) _ _ s
 rw[if_pos hyes]
 unfold Builtin.Tuple.tupleIsExact
 refine wpAny_bind (wpAny_bind (wpAny_typeOf ht.typeIs (wpAny_pure ?_)))
 rw[if_pos (show ((Value.type "tuple" == Value.type "tuple")=true) from beq_self_eq_true _)]
 refine wpAny_bind (wpAny_rule ?_)
 first
  | exact wpAny_bind (wpAny_pure (wpAny_pure ⟨_,rfl,wpAny_pure h⟩))
  | exact wpAny_bind (wpAny_pure ⟨_,rfl,wpAny_pure h⟩)
  | exact wpAny_pure ⟨_,rfl,wpAny_pure h⟩
end
section
variable{X:Cx}{E:St->XK}{e:Expr}{lo hi:Option Expr}{pos p2:Pos}{f:af->M PV}{gl gh:af->M (Option Int)}
def Lb(K:PySem.W.Frag):V->Option Int->Option Int->Hp->VK->Prop:=λx lo hi H Q=>∃ a xs,x=.ref a/\h_ K H a xs/\(dr xs.length 0 lo=0/\dr xs.length xs.length hi=xs.length)/\Q (.ref a) H
theorem Et:CH X (Lb X.K):=by
 intro MG s σ H x v vl vu lo hi sl Q I rx hs pl pu h
 obtain⟨a,xs,rfl,hx,hw,q⟩:=h
 cases rx
 obtain⟨MJ,r,ht,hz⟩:=I.tuple hx
 have hlen:MJ.toArray.size=xs.length:=by rw[List.size_toArray];exact r.length.symm
 refine⟨"tuple", _,PyProof.Rows.slot_tuple_getitem.lookup,ht.typeIs,?_⟩
 exact lC ht hs pl pu (by rw[hlen];exact hw) ⟨.ref a,H,I,rfl,q⟩
def J5(p:PV)(lo hi:Option Int):M PV:=match p with
 | .tup xs=>M.ok (.tup (nQ xs lo hi))
 | .lst xs=>M.ok (.lst (nQ xs lo hi))
 | .jO xs=>M.ok (.lst (nQ xs lo hi))
 | _=>none
def pf(f:af->M PV)(lo hi:af->M (Option Int)):af->M PV:=λenv=>(f env).bind λp=>(lo env).bind λl=>(hi env).bind λh=>J5 p l h
theorem rJ(he:PE X e (tE E f))(hl:PO X lo (Kn E gl))(hh:PO X hi (Kn E gh)):PE X (.Subscript e (.Slice lo hi none p2) pos) (tE E (pf f gl gh)):=by
 refine(A9 (CH.or Ha (CH.or Et DT)) he hl hh).imp fun σ H Q q=>cq (K:=jZ Q) jZ.g q λB H₀ Hs H1 env p v sr rp hp=>?_
 refine⟨B,H₀,Hs,env,sr,(az.bind hp).imp (λl hl MT H2 g2=>?_) λe he=>he⟩
 have Ng:=sr.grow g2
 refine⟨B,H₀,MT,env,Ng,(az.bind hl).imp (λh hh Oa H3 g3=>?_) λe he=>he.grow g2⟩
 have OB:=Ng.grow g3
 have hz:az (J5 p l h) (eM Oa H3 Q) (λ_=>True):=hh.imp (λz hz w Hs4 H4 g4 r=>hz w Hs4 H4 ((g2.trans g3).trans g4) r) λ_ _=>trivial
 have rp3:=(rp.mono g2.st).mono g3.st
 cases rp3 with
 | @tup a xs vs ha hx =>
  by_cases hn:dr xs.length 0 l=0/\dr xs.length xs.length h=xs.length
  ·refine .inr (.inl ⟨_,_,rfl,h_.of (OB.gr.sub _ _ ha),by rw[← hx.length];exact hn,?_⟩)
   have e:nQ xs l h=xs:=by
    unfold nQ;rw[hn.1,hn.2,List.drop_zero,Nat.sub_zero,List.take_length]
   have OE:eM Oa H3 Q (.tup xs):=by
    have z:eM Oa H3 Q (.tup (nQ xs l h)):=hz
    rw[e] at z;exact z
   exact eM.flat OE OB.gr.sub (.tup ha hx)
  ·exact .inl ⟨_,_,rfl,h_.of (OB.gr.sub _ _ ha),by rw[← hx.length];exact hn,eM.tup hz OB.gr.sub (hx.cut l h)⟩
 | lst ha hx=>exact .inr (.inr ⟨_,_,rfl,ir.of (OB.gr.sub _ _ ha),eM.lst hz OB.gr.sub (hx.cut l h)⟩)
 | jO ha hx=>exact .inr (.inr ⟨_,_,rfl,.inl (.inr ⟨_,OB.gr.sub _ _ ha⟩),eM.lst hz OB.gr.sub (hx.cut l h)⟩)
 | _=>exact hz.elim
end
end L2
namespace L2
open PySem PySem.Spec PyProof.Rows
end L2
namespace L2
open PySem PySem.Spec PyProof.Rows
section
variable{X:Cx}{E:St->XK}
end
section
variable{X:Cx}{E:St->XK}{o e:Expr}{es:List Expr}{pos apos:Pos}{m:Str}{k:Nat}{g:af->M PV}{fs:af->M (List PV)}{L:List (Addr×(List PV->M PV))}{P:Program}{w:World}{K:PySem.W.Frag}{mg:Str->Option Value}{base:Heap}
structure y0 (P:Program) (w:World) (K:PySem.W.Frag) (mg:Str->Option Value) (base:Heap) (m:Str) (k:Nat) (L:List (Addr×(List PV->M PV))):Prop where
 ex:∀ C sem,L.lookup C=some sem->∃ n f fd ps j,n<=k/\jT K C/\Meth K C m f/\Binds K fd ps []/\aJ P w K mg base (bF P w) n f fd ps (cQ j sem)/\∀ ps,sem ps≠none->ps.length=j
theorem y0.nil:y0 P w K mg base m k []:=⟨λC sem h=>by cases h⟩
theorem y0.cons{C:Addr}{n j:Nat}{sem:List PV->M PV}(F:iJ P w K mg base C n m j sem)(hn:n<=k)(r:y0 P w K mg base m k L):y0 P w K mg base m k ((C,a_ j sem)::L):=⟨λC' sem' h=>by
 rw[List.lookup_cons] at h
 by_cases e:C'=C
 ·rw[e,beq_self_eq_true] at h
  cases h
  obtain⟨f,fd,ps,h1,h2,h3,h4⟩:=F.ex
  exact⟨n,f,fd,ps,j,hn,by rw[e];exact h1,by rw[e];exact h2,h3,h4,λN9 hp=>lH hp⟩
 ·rw[beq_false_of_ne e] at h
  exact r.ex C' sem' h⟩
def Ky(L:List (Addr×(List PV->M PV)))(C:Addr)(ps:List PV):M PV:=match L.lookup C with
 | some sem=>sem ps
 | none=>none
def p4(L:List (Addr×(List PV->M PV)))(m:Str)(p:PV)(x:M (List PV)):M PV:=match p with
 | .obj B fl=>cD ((L.lookup B).isSome/\fl.lookup m=none) (x.bind λps=>Ky L B (.obj B fl::ps))
 | _=>none
def j3(L:List (Addr×(List PV->M PV)))(m:Str)(g:af->M PV)(fs:af->M (List PV)):af->M PV:=λenv=>(g env).bind λp=>p4 L m p (fs env)
def G1(L:List (Addr×(List PV->M PV)))(m:Str)(E:St->XK)(ta:TE)(t:TA):TE:=fun σ H Q=>ta σ H λx H1 =>
 ∃ C sem a dx fs,L.lookup C=some sem/\x=V.ref a/\H1 a=some (HO.ins C dx fs)/\List.lookup m fs=none/\t σ H1 λvs H2=>∀ j,(∀ ps,sem ps≠none->ps.length=j)->cQ j sem (x::(vs++[])) H2 Q (E σ)
theorem yG{σ:St}{H:Hp}{Q:VK}(q:tE E (j3 L m g fs) σ H Q):G1 L m E (tE E g) (tL E fs) σ H Q:=by
 refine cq (K:=jZ Q) jZ.g q λB H₀ Hs H1 env p v sr rp hp=>?_
 cases rp with
 | @obj a C' dx fl fvs ho hx =>
  obtain⟨⟨e1,hn⟩,CI⟩:=az.cD hp
  obtain⟨sem,es⟩:=Option.isSome_iff_exists.mp e1
  refine⟨C',sem,a,dx,fvs,es,rfl,sr.gr.sub _ _ ho,hx.none hn,B,H₀,Hs,env,sr,(az.bind CI).imp (λN9 O0 vs ML H' g' r j hl=>?_) λe he=>he⟩
  unfold Ky at O0
  rw[es] at O0
  have r2:aV ML (.obj C' fl::N9) (V.ref a::(vs++[])):=by rw[List.append_nil];exact .cons ((Rep.obj ho hx).mono g'.st) r
  have hn:sem (.obj C' fl::N9)≠none:=λz=>by rw[show (some sem:Option (List PV->M PV))=some sem from rfl] at O0;simp only[z] at O0;exact O0
  exact⟨by rw[← r2.length];exact hl _ hn,ML,_,g'.sub,r2,O0.imp (λz hz w MT H2 g2 r2=>hz w MT H2 (g'.trans g2) r2) λe he=>he.grow g'⟩
 | _=>exact hp.elim
theorem y0.z0{pl:Sem Bool}(hr:cx k X.A)(F:y0 X.prog X.w X.K X.mg X.base m k L)(O:fv X E)(he:PE X o (tE E g))
  (ht:autoParam (eval (.Call (.Attribute o m apos) [] [] pos) X.env=(do
   let ov ← eval o X.env
   standAt apos.atName
   let (f,first) ← holding [ov] (getMethod ov m pl)
   callWith pos f first (backTo pos (starEach [] X.env)) (backToKw pos (keywordEach [] X.env)))) aR._auto_1) :
  PE X (.Call (.Attribute o m apos) [] [] pos) (tE E (j3 L m g ao)):=by
 intro MG s σ H Q I h
 refine PySem.W.methodCall_KW (pl:=pl) (c6 (he MG s σ H _ I (yG h)) λu s1 ⟨x,H1,I1,rx,q⟩=>?_) ht
 obtain⟨C,sem,a,dx,fs,ex,rfl,ea,l,B,H₀,Hs,env,sr,q⟩:=q
 obtain⟨n,f,fd,ps,j,hn,c,hm,hb,F',hl⟩:=F.ex C sem ex
 obtain rfl:u=Value.ref a:=rx
 refine kS I1 ea c hm l ?_
 exact PySem.W.callWith_K0 (first:=[.ref a]) I1.jR hm.kp (oC (us:=[.ref a]) (vs:=[.ref a]) F' (hr.mono hn) hb .nil O I1 (.cons rfl .nil) (q [] Hs H1 (.refl sr.gr.sub) .nil j hl))
end
end L2
namespace L2
open PySem PySem.Spec PyProof.Rows
end L2
namespace L2
open PySem PySem.Spec PyProof.Rows
open PySem.SeqAt (shaped EqAt RcAt RcNeAt)
section
variable{X:Cx}{E:St->XK}{MG:List (Addr×Obj)}{σ:St}{H:Hp}{s:Shared}{a b:Addr}{A:Around}
end
section
variable{X:Cx}{E:St->XK}
end
end L2
namespace L2
open PySem PySem.Spec PyProof.Rows
open PySem.SeqAt (shaped noMix noMixAll)
section
variable{α β:Type}
theorem M.aO(a:α)(f:α->M β):M.bind (M.ok a) f=f a:=Eq.trans rfl rfl
theorem M.BU(e:EX)(f:α->M β):M.bind (some (Except.error e)) f=some (.error e):=Eq.trans rfl rfl
theorem M.bind_none(f:α->M β):M.bind none f=none:=Eq.trans rfl rfl
theorem M.bind_some(a:α)(f:α->M β):M.bind (some (Except.ok a)) f=f a:=Eq.trans rfl rfl
theorem M.bind_assoc{γ:Type}(x:M α)(f:α->M β)(g:β->M γ):M.bind (M.bind x f) g=M.bind x λa=>M.bind (f a) g:=by
 cases x with
 | none=>rfl
 | some x=>cases x <;> rfl
theorem av{c:Prop}[Decidable c]{x:M α}(h:c):cD c x=x:=if_pos h
theorem FR(a:α):G5 (M.ok a)=M.ok a:=Eq.trans rfl rfl
end
theorem yj(x:PV):fe (some x)=M.ok x:=Eq.trans rfl rfl
theorem vA(g:af->M Out)(env:af):Be g (.nx env)=g env:=Eq.trans rfl rfl
theorem ux(g:af->M Out)(p:PV):Be g (.rt p)=M.ok (.rt p):=Eq.trans rfl rfl
theorem DM(b:Bool):vZ (.bl b)=M.ok b:=Eq.trans rfl rfl
theorem DE(p:PV):FV (.rt p)=M.ok p:=Eq.trans rfl rfl
theorem D4(e:af):FV (.nx e)=M.ok .cR:=Eq.trans rfl rfl
def tI(xs:List Int):PV:=.tup (xs.map PV.int)
def lI(xs:List Int):PV:=.lst (xs.map PV.int)
theorem CZ(xs:List Int):bL (tI xs)=some (xs.map PV.int):=Eq.trans rfl rfl
theorem DB(xs:List Int):bL (lI xs)=some (xs.map PV.int):=Eq.trans rfl rfl
theorem Cr(xs:List PV):bL (.tup xs)=some xs:=Eq.trans rfl rfl
theorem qv(xs:List PV):bL (.lst xs)=some xs:=Eq.trans rfl rfl
theorem B6(xs:List PV):bL (.jO xs)=some xs:=Eq.trans rfl rfl
theorem Ez(xs:List Int):sU (tI xs)=M.ok (.int xs.length):=by simp[sU,tI,bL,fe]
theorem DO(xs:List Int):sU (lI xs)=M.ok (.int xs.length):=by simp[sU,lI,bL,fe]
theorem Cy(xs:List PV):sU (.tup xs)=M.ok (.int xs.length):=Eq.trans rfl rfl
theorem Ci(xs:List PV):sU (.lst xs)=M.ok (.int xs.length):=Eq.trans rfl rfl
theorem Bg(xs:List PV):sU (.jO xs)=M.ok (.int xs.length):=Eq.trans rfl rfl
theorem BL(xs:List Int):yq [.lst (xs.map PV.int)]=M.ok (.int xs.sum):=by simp[yq,IY,rM,fe]
theorem uQ(xs:List Bool):uZ [.lst (xs.map PV.bl)]=M.ok (.bl (xs.all id)):=by simp[uZ,all1,o5,fe]
theorem gv{α:Type}{f:af->M PV}{inj h:α->PV}{rest:af}{x0:Option SV}(xs:List α)(H:∀ a∈xs,f (some (.sh (inj a))::rest)=M.ok (h a)):bK (bG 0) none f (xs.map inj) (x0::rest)=M.ok (xs.map h):=by
 induction xs generalizing x0 with
 | nil=>rfl
 | cons a r ih =>
  rw[List.map_cons,bK]
  show M.bind (M.ok ((x0::rest).set 0 (some (.sh (inj a))))) _=_
  rw[M.aO,List.set_cons_zero]
  show M.bind (f _) _=_
  rw[H a List.mem_cons_self,M.aO,ih λb hb=>H b (List.mem_cons_of_mem _ hb)]
  rfl
theorem iR{α:Type}{f:af->M PV}{p q h:α->PV}{rest:af}{x0 x1:Option SV}(xs:List α)(H:∀ a∈xs,f (some (.sh (p a))::some (.sh (q a))::rest)=M.ok (h a)):bK (bQ 0 1) none f (xs.map λa=>.tup [p a,q a]) (x0::x1::rest)=M.ok (xs.map h):=by
 induction xs generalizing x0 x1 with
 | nil=>rfl
 | cons a r ih =>
  rw[List.map_cons,bK]
  show M.bind (M.ok (((x0::x1::rest).set 0 (some (.sh (p a)))).set 1 (some (.sh (q a))))) _=_
  rw[M.aO,List.set_cons_zero,List.set_cons_succ,List.set_cons_zero]
  show M.bind (f _) _=_
  rw[H a List.mem_cons_self,M.aO,ih λb hb=>H b (List.mem_cons_of_mem _ hb)]
  rfl
theorem Gi{α:Type}{f:af->M PV}{p q s h:α->PV}{rest:af}{x0 x1 x2:Option SV}(xs:List α)(H:∀ a∈xs,f (some (.sh (p a))::some (.sh (q a))::some (.sh (s a))::rest)=M.ok (h a)):bK (nh 0 1 2) none f (xs.map λa=>.tup [p a,q a,s a]) (x0::x1::x2::rest)=M.ok (xs.map h):=by
 induction xs generalizing x0 x1 x2 with
 | nil=>rfl
 | cons a r ih =>
  rw[List.map_cons,bK]
  show M.bind (M.ok ((((x0::x1::x2::rest).set 0 (some (.sh (p a)))).set 1 (some (.sh (q a)))).set 2 (some (.sh (s a))))) _=_
  rw[M.aO,List.set_cons_zero,List.set_cons_succ,List.set_cons_zero,List.set_cons_succ,List.set_cons_succ,List.set_cons_zero]
  show M.bind (f _) _=_
  rw[H a List.mem_cons_self,M.aO,ih λb hb=>H b (List.mem_cons_of_mem _ hb)]
  rfl
theorem dX{α β:Type}{f:α->PV}{g:β->PV}{p q:PV}(xs:List α)(ys:List β)(hp:bL p=some (xs.map f))(hq:bL q=some (ys.map g)):zip2 [p,q]=M.ok ((xs.zip ys).map λz=>.tup [f z.1,g z.2]):=by
 simp only[zip2,hp,hq]
 congr 2
 rw[List.zipWith_map,List.zip_eq_zipWith,List.map_zipWith]
theorem uR{α β γ:Type}{f:α->PV}{g:β->PV}{h:γ->PV}{p q r:PV}(xs:List α)(ys:List β)(zs:List γ)(hp:bL p=some (xs.map f))(hq:bL q=some (ys.map g))(hr:bL r=some (zs.map h)):wW [p,q,r]=M.ok ((xs.zip (ys.zip zs)).map λz=>.tup [f z.1,g z.2.1,h z.2.2]):=by
 simp only[wW,hp,hq,hr]
 congr 2
 clear hp hq hr
 induction xs generalizing ys zs with
 | nil=>cases ys <;> cases zs <;> rfl
 | cons a r ih =>
  cases ys with
  | nil=>rfl
  | cons b s =>
   cases zs with
   | nil=>rfl
   | cons c t=>simp only[List.map_cons,jM,List.zip_cons_cons,ih]
theorem yt{α:Type}{f:α->PV}(xs:List α):iK (xs.map f)=(xs.zipIdx).map λz=>.tup [.int (z.2:Int),f z.1]:=by
 unfold iK
 rw[List.mapIdx_eq_zipIdx_map,List.zipIdx_map,List.map_map]
 rfl
theorem lK{set:PV->af->M af}{body:af->M Out}{α:Type}{inj:α->PV}(J:List α->af->Prop)
  (H:∀ a r env,J (a::r) env->∃ e' MI,set (inj a) env=M.ok e'/\body e'=M.ok (.nx MI)/\J r MI):∀ (xs:List α) (env:af),J xs env->∃ MI,i8 set body (xs.map inj) env=M.ok (.nx MI)/\J [] MI
 | [],env,h=>⟨env,rfl,h⟩
 | a::r,env,h=>by
  obtain⟨e',MI,h1,h2,h3⟩:=H a r env h
  obtain⟨O1,h4,h5⟩:=lK J H r MI h3
  refine⟨O1,?_,h5⟩
  rw[List.map_cons,i8,h1,M.aO,h2,M.aO]
  exact h4
theorem r_{u:af->M Bool}{b:af->M Out}(J:af->Prop)(m:af->Nat)
  (H:∀ env,J env->(u env=M.ok false)\/(u env=M.ok true/\∃ MI,b env=M.ok (.nx MI)/\J MI/\m MI<m env)) (env:af) (h:J env):∃ MI,kW u b env=M.ok (.nx MI)/\J MI/\u MI=M.ok false:=by
 have key:∀ (n:Nat) (env:af),J env->m env<n->∃ MI,cU u b n env=M.ok (.nx MI)/\J MI/\u MI=M.ok false:=by
  intro n
  induction n with
  | zero=>intro env _ hn;omega
  | succ n ih =>
   intro env h hn
   rcases H env h with hu | ⟨hu,MI,hb,hj,hm⟩
   ·exact⟨env,by rw[cU,hu,M.aO];rfl,h,hu⟩
   ·obtain⟨O1,h1,h2,h3⟩:=ih MI hj (by omega)
    exact⟨O1,by rw[cU,hu,M.aO,if_pos rfl,hb,M.aO];exact h1,h2,h3⟩
 obtain⟨MI,h1,h2,h3⟩:=key (m env+1) env h (Nat.lt_succ_self _)
 refine⟨MI,?_,h2,h3⟩
 rw[zy (n:=m env+1) (by rw[h1];exact λz=>nomatch z),h1]
theorem log2_small{i:Int}{k:Nat}(h:i.natAbs<2^k)(hk:k<=9000):i.natAbs.log2<67108864:=by
 by_cases z:i.natAbs=0
 ·rw[z];decide
 ·have:=(Nat.log2_lt z).mpr h
  omega
theorem bg{i j:Int}{k l:Nat}(hi:i.natAbs<2^k)(hj:j.natAbs<2^l)(hk:autoParam (k<=9000) aD._auto_1)(hl:autoParam (l<=9000) aD._auto_1):bY (.int i) (.int j)=M.ok (.int (i*j)):=by
 rw[bY,av ⟨log2_small hi hk,log2_small hj hl⟩]
theorem mq{i j:Int}(h0:j≠0)(h:j.natAbs<2^9000):bw (.int i) (.int j)=M.ok (.int (i.fdiv j)):=by
 show cD _ _=_
 refine av (decide_eq_true ⟨h0,(Nat.log2_lt (by omega)).mpr h⟩)
theorem BS{i j:Int}(h0:j≠0):cP (.int i) (.int j)=M.ok (.int (i.fmod j)):=by
 show cD _ _=_
 exact av (decide_eq_true h0)
theorem aL{i j:Int}(h0:0<j)(h:j<2^64):bw (.int i) (.int j)=M.ok (.int (i/j)):=by
 rw[mq (by omega) (Nat.lt_of_lt_of_le (show j.natAbs<2^64 by omega) (Nat.pow_le_pow_right (by decide) (by decide))),Int.fdiv_eq_ediv_of_nonneg _ (by omega)]
theorem aW{i j:Int}(h0:0<j):cP (.int i) (.int j)=M.ok (.int (i%j)):=by
 rw[BS (by omega),Int.fmod_eq_emod_of_nonneg _ (by omega)]
theorem bD{xs:List PV}{p:PV}{j:Nat}{x:PV}(hs:bL p=some xs)(h:xs[j]?=some x):aT p (.int (j:Int))=M.ok x:=by
 cases p with
 | tup ys=>cases hs;simp only[aT,tN h,fe]
 | lst ys=>cases hs;simp only[aT,tN h,fe]
 | jO ys=>cases hs;simp only[aT,tN h,fe]
 | _=>cases hs
section
variable{b:String->Bool}{ob oe:Addr->Option Bool}
theorem HX(xs:List Int):AF b ob oe (tI xs)=M.ok (.bl (b "tuple")):=Eq.trans rfl rfl
theorem Hj(xs:List Int):AF b ob oe (lI xs)=M.ok (.bl (b "list")):=Eq.trans rfl rfl
theorem Dr(xs:List PV):AF b ob oe (.tup xs)=M.ok (.bl (b "tuple")):=Eq.trans rfl rfl
theorem Dg(xs:List PV):AF b ob oe (.lst xs)=M.ok (.bl (b "list")):=Eq.trans rfl rfl
theorem El(i:Int):AF b ob oe (.int i)=M.ok (.bl (b "int")):=Eq.trans rfl rfl
theorem GA(i:Bool):AF b ob oe (.bl i)=M.ok (.bl (b "bool")):=Eq.trans rfl rfl
theorem EH:AF b ob oe .cR=M.ok (.bl (b "NoneType")):=Eq.trans rfl rfl
theorem Ed(x:Str):AF b ob oe (.str x)=M.ok (.bl (b "str")):=Eq.trans rfl rfl
theorem Dp:AF b ob oe .emp=M.ok (.bl (b "dict")):=Eq.trans rfl rfl
end
theorem DR(i j:Int):mM (.int i) (.int j)=M.ok (.bl (!decide (i=j))):=by
 simp only[mM,qi,dat,E2,shaped,PyData.canLay0,PyData.depth,noMix]
 rw[av ⟨rfl,rfl,trivial⟩]
 unfold same
 rw[M.aO];congr
theorem DU(i j:Int):kr (.int i) (.int j)=M.ok (.bl (decide (i=j))):=by
 simp only[kr,qi,dat,E2,shaped,PyData.canLay0,PyData.depth,noMix]
 rw[av ⟨rfl,rfl,trivial⟩]
 unfold same
 rw[M.aO];congr
theorem FE(i j:Bool):mM (.bl i) (.bl j)=M.ok (.bl (!decide (i=j))):=by
 simp only[mM,qi,dat,E2,shaped,PyData.canLay0,PyData.depth,noMix]
 rw[av ⟨rfl,rfl,trivial⟩]
 unfold same
 rw[M.aO];congr
theorem FP(i j:Bool):kr (.bl i) (.bl j)=M.ok (.bl (decide (i=j))):=by
 simp only[kr,qi,dat,E2,shaped,PyData.canLay0,PyData.depth,noMix]
 rw[av ⟨rfl,rfl,trivial⟩]
 unfold same
 rw[M.aO];congr
theorem rN(xs:List Int):pv (xs.map PV.int)=some (xs.map PyData.int):=by
 induction xs with
 | nil=>rfl
 | cons a r ih=>simp[pv,dat,ih]
theorem mQ(xs:List Int):PyData.canLayAll0 (xs.map PyData.int)=true:=by
 induction xs with
 | nil=>rfl
 | cons a r ih=>simp[PyData.canLayAll0,PyData.canLay0,ih]
theorem oQ(xs:List Int):PyData.depthAll (xs.map PyData.int)=0:=by
 induction xs with
 | nil=>rfl
 | cons a r ih=>simp[PyData.depthAll,PyData.depth,ih]
theorem noMix_ints:∀ (xs ys:List Int),noMixAll (xs.map PyData.int) (ys.map PyData.int)=true
 | [],[]=>by simp[noMixAll]
 | [],_::_=>by simp[noMixAll]
 | _::_,[]=>by simp[noMixAll]
 | a::r,b::s=>by simp[noMixAll,noMix,noMix_ints r s]
theorem same_ints:∀ (xs ys:List Int),sameAll (xs.map PyData.int) (ys.map PyData.int)=decide (xs=ys)
 | [],[]=>by simp[sameAll]
 | [],_::_=>by simp[sameAll]
 | _::_,[]=>by simp[sameAll]
 | a::r,b::s=>by
  simp only[List.map_cons,sameAll,same_ints r s]
  unfold same
  rw[Bool.eq_iff_iff];simp
theorem tD(xs ys:List Int):kr (tI xs) (tI ys)=M.ok (.bl (decide (xs=ys))):=by
 simp only[kr,qi,dat,tI,rN,Option.map_some,E2]
 rw[av (by simp[shaped,PyData.canLay0,PyData.depth,mQ,oQ,noMix,noMix_ints])]
 unfold same
 rw[same_ints];rfl
theorem ua(xs ys:List Int):mM (tI xs) (tI ys)=M.ok (.bl (!decide (xs=ys))):=by
 simp only[mM,qi,dat,tI,rN,Option.map_some,E2]
 rw[av (by simp[shaped,PyData.canLay0,PyData.depth,mQ,oQ,noMix,noMix_ints])]
 unfold same
 rw[same_ints];rfl
theorem C2(i j:Int):CO (.int i) (.int j)=M.ok (.bl (decide (i<j))):=Eq.trans rfl rfl
theorem Em(i j:Int):C8 (.int i) (.int j)=M.ok (.bl (decide (i<=j))):=Eq.trans rfl rfl
theorem Dv(i j:Int):Iq (.int i) (.int j)=M.ok (.bl (decide (j<i))):=Eq.trans rfl rfl
theorem ED(i j:Int):Iu (.int i) (.int j)=M.ok (.bl (decide (j<=i))):=Eq.trans rfl rfl
theorem AD(i j:Int):fE (.int i) (.int j)=M.ok (.int (i+j)):=Eq.trans rfl rfl
theorem Bv(i j:Int):iQ (.int i) (.int j)=M.ok (.int (i-j)):=Eq.trans rfl rfl
theorem hZ{n:Int}(h:0<=n)(h2:n<2^62):nK [.int n]=M.ok ((List.range n.toNat).map λ(i:Nat)=>.int (i:Int)):=by
 show cD (-(2^62)<=n/\n<2^62) _=_
 rw[av (by omega)]
 simp
theorem eJ{β:Type}{set:PV->af->M af}{body:af->M Out}{α:Type}{inj:α->PV}{k:Out->M β}{r:M β}(xs:List α)(J:List α->af->Prop){env:af}(h:J xs env)
  (H:∀ a r env,J (a::r) env->∃ e' MI,set (inj a) env=M.ok e'/\body e'=M.ok (.nx MI)/\J r MI) (hk:∀ MI,J [] MI->k (.nx MI)=r):M.bind (i8 set body (xs.map inj) env) k=r:=by
 obtain⟨MI,e,h'⟩:=lK J H xs env h
 rw[e,M.aO];exact hk MI h'
theorem xm{β:Type}{u:af->M Bool}{b:af->M Out}{k:Out->M β}{r:M β}(J:af->Prop)(m:af->Nat){env:af}(h:J env)
  (H:∀ env,J env->(u env=M.ok false)\/(u env=M.ok true/\∃ MI,b env=M.ok (.nx MI)/\J MI/\m MI<m env)) (hk:∀ MI,J MI->u MI=M.ok false->k (.nx MI)=r):M.bind (kW u b env) k=r:=by
 obtain⟨MI,e,h',h2⟩:=r_ J m H env h
 rw[e,M.aO];exact hk MI h' h2
theorem aX{n:Nat}(h:n<=1000):n<=sizeLine:=Nat.le_of_lt (mB h)
def tupK(ps:List PV):M PV:=cD (ps.length<=sizeLine) (M.ok (.tup ps))
def lstK(ps:List PV):M PV:=cD (ps.length<=sizeLine) (M.ok (.lst ps))
theorem C5(fs:af->M (List PV))(env:af):jm fs env=(fs env).bind tupK:=rfl
theorem D5(fs:af->M (List PV))(env:af):rh fs env=(fs env).bind lstK:=rfl
theorem F6:tupK []=M.ok (.tup []):=av (aX (show 0<=1000 by decide))
theorem FI:lstK []=M.ok (.lst []):=av (aX (show 0<=1000 by decide))
theorem GZ(a:PV):tupK [a]=M.ok (.tup [a]):=av (aX (show 1<=1000 by decide))
theorem Hl(a:PV):lstK [a]=M.ok (.lst [a]):=av (aX (show 1<=1000 by decide))
theorem HF(a b:PV):tupK [a,b]=M.ok (.tup [a,b]):=av (aX (show 2<=1000 by decide))
theorem Gr(a b:PV):lstK [a,b]=M.ok (.lst [a,b]):=av (aX (show 2<=1000 by decide))
theorem GF(a b c:PV):tupK [a,b,c]=M.ok (.tup [a,b,c]):=av (aX (show 3<=1000 by decide))
theorem Fw(a b c:PV):lstK [a,b,c]=M.ok (.lst [a,b,c]):=av (aX (show 3<=1000 by decide))
theorem Hd(a b c d:PV):tupK [a,b,c,d]=M.ok (.tup [a,b,c,d]):=av (aX (show 4<=1000 by decide))
theorem GH(a b c d:PV):lstK [a,b,c,d]=M.ok (.lst [a,b,c,d]):=av (aX (show 4<=1000 by decide))
theorem Ib(a b c d e:PV):tupK [a,b,c,d,e]=M.ok (.tup [a,b,c,d,e]):=av (aX (show 5<=1000 by decide))
theorem FN(a b c d e:PV):lstK [a,b,c,d,e]=M.ok (.lst [a,b,c,d,e]):=av (aX (show 5<=1000 by decide))
theorem Gm(a b c d e f:PV):tupK [a,b,c,d,e,f]=M.ok (.tup [a,b,c,d,e,f]):=av (aX (show 6<=1000 by decide))
theorem Gs(a b c d e f:PV):lstK [a,b,c,d,e,f]=M.ok (.lst [a,b,c,d,e,f]):=av (aX (show 6<=1000 by decide))
end L2
namespace L2
open PySem PySem.Spec PyProof.Rows
def ik{α:Type}(m:M α)(Q:α->Prop):Prop:=∃ a,m=M.ok a/\Q a
section
variable{α β γ:Type}{Q Q':α->Prop}{m:M α}
theorem ik.eq{a:α}(h:ik m λx=>x=a):m=M.ok a:=by obtain⟨b,e,rfl⟩:=h;exact e
def Tn(J:af->Prop)(B:af->Prop)(R:PV->Prop):Out->Prop
 | .nx e=>J e
 | .ct e=>J e
 | .bk e=>B e
 | .rt p=>R p
theorem ik.xA{set:PV->af->M af}{body:af->M Out}{inj:γ->PV}{B:af->Prop}{R:PV->Prop}(J:List γ->af->Prop)
  (H:∀ a r env,J (a::r) env->ik (M.bind (set (inj a) env) body) (Tn (J r) B R)):∀ (xs:List γ) (env:af),J xs env->ik (i8 set body (xs.map inj) env) λo=>(∃ e,o=.nx e/\(J [] e\/B e))\/∃ p,o=.rt p/\R p
 | [],env,h=>⟨_,rfl,.inl ⟨_,rfl,.inl h⟩⟩
 | a::r,env,h=>by
  obtain⟨o,e,q⟩:=H a r env h
  rw[List.map_cons,i8,← M.bind_assoc,e,M.aO]
  cases o with
  | nx e'=>exact ik.xA J H r e' q
  | ct e'=>exact ik.xA J H r e' q
  | bk e'=>exact⟨_,rfl,.inl ⟨_,rfl,.inr q⟩⟩
  | rt p=>exact⟨_,rfl,.inr ⟨_,rfl,q⟩⟩
theorem ik.loop{R:β->Prop}{set:PV->af->M af}{body:af->M Out}{inj:γ->PV}{k:Out->M β}{xs:List γ}{env:af}(J:List γ->af->Prop)(h:J xs env)
  (H:∀ a r env,J (a::r) env->ik (M.bind (set (inj a) env) body) (Tn (J r) (λ_=>False) λ_=>False)) (hk:∀ MI,J [] MI->ik (k (.nx MI)) R):ik (M.bind (i8 set body (xs.map inj) env) k) R:=by
 obtain⟨o,e,q⟩:=ik.xA J H xs env h
 rw[e,M.aO]
 rcases q with ⟨e',rfl,q | q⟩ | ⟨p,_,q⟩
 ·exact hk e' q
 ·exact q.elim
 ·exact q.elim
theorem ik.IA{R:β->Prop}{set:PV->af->M af}{body:af->M Out}{inj:γ->PV}{k:Out->M β}{xs:List γ}{env:af}(J:List γ->af->Prop)(h:J xs env)
  (H:∀ a r env,J (a::r) env->ik (M.bind (set (inj a) env) body) (Tn (J r) (λe=>ik (k (.nx e)) R) λp=>ik (k (.rt p)) R)) (hk:∀ MI,J [] MI->ik (k (.nx MI)) R):ik (M.bind (i8 set body (xs.map inj) env) k) R:=by
 obtain⟨o,e,q⟩:=ik.xA J H xs env h
 rw[e,M.aO]
 rcases q with ⟨e',rfl,q | q⟩ | ⟨p,rfl,q⟩
 ·exact hk e' q
 ·exact q
 ·exact q
end
def Ja(i:Nat)(env:af)(xs:List PV)(p:PV):M Out:=if xs.length<sizeLine then M.ok (.nx (env.set i (some (.ow (xs++[p]))))) else none
theorem gS(i:Nat)(f:af->M PV)(env:af):iW i f env=(ownAt i env).bind λxs=>(f env).bind λp=>Ja i env xs p:=by
 unfold iW ownAt
 rcases env[i]? with _ | _ | (_ | _ | _) <;> rfl
theorem gE{i:Nat}{env:af}{xs:List PV}{p:PV}(h:xs.length<1000):Ja i env xs p=M.ok (.nx (env.set i (some (.ow (xs++[p]))))):=if_pos (mB (Nat.le_of_lt h))
def rn(C:Addr)(m:Str)(sem:List PV->M PV)(p:PV)(x:M (List PV)):M PV:=match p with
 | .obj C' fl=>cD (C'=C/\fl.lookup m=none) (x.bind λps=>sem (.obj C' fl::ps))
 | _=>none
theorem br(C:Addr)(m:Str)(sem:List PV->M PV)(g:af->M PV)(fs:af->M (List PV))(env:af):bo C m sem g fs env=(g env).bind λp=>rn C m sem p (fs env):=rfl
theorem kA{C:Addr}{m:Str}{sem:List PV->M PV}{fl:List (Str×PV)}{x:M (List PV)}(h:fl.lookup m=none):rn C m sem (.obj C fl) x=x.bind λps=>sem (.obj C fl::ps):=av ⟨rfl,h⟩
def w8(ok:Addr->Bool)(f:Str)(p:PV):M PV:=match p with
 | .obj C fs=>cD (ok C=true) (fe (fs.lookup f))
 | _=>none
theorem gF(ok:Addr->Bool)(f:Str)(g:af->M PV)(env:af):dI ok f g env=(g env).bind (w8 ok f):=rfl
theorem jY{ok:Addr->Bool}{f:Str}{C:Addr}{fs:List (Str×PV)}{x:PV}(h:ok C=true)(hl:fs.lookup f=some x):w8 ok f (.obj C fs)=M.ok x:=by
 show cD _ _=_
 rw[av h,hl];rfl
theorem fz(xs:List Int)(x:Int):xs.map PV.int++[.int x]=(xs++[x]).map PV.int:=by simp
end L2
namespace L2
open PySem PySem.Spec PyProof.Rows
theorem um{α:Type}{f:α->PV}{p:PV}(xs:List α)(h:bL p=some (xs.map f)):CK [p]=M.ok (xs.zipIdx.map λz=>.tup [.int (z.2:Int),f z.1]):=by
 show Lj p=_
 unfold Lj
 rw[h]
 show M.ok (iK _)=_
 rw[yt]
theorem G7(xs:List Int):CK [lI xs]=M.ok (xs.zipIdx.map λz=>.tup [.int (z.2:Int),.int z.1]):=um xs rfl
theorem oj{α:Type}{f:α->PV}(xs:List α):CK [.lst (xs.map f)]=M.ok (xs.zipIdx.map λz=>.tup [.int (z.2:Int),f z.1]):=um xs rfl
end L2
namespace L2
open PySem PySem.Spec PyProof.Rows
theorem MD{α:Type}{us:List α}(h:us.length=1):∃ a,us=[a]:=by
 cases us with
 | nil=>cases h
 | cons a t=>cases t with
  | nil=>exact⟨a,rfl⟩
  | cons b t=>cases h
theorem ln2{α:Type}{us:List α}(h:us.length=2):∃ a b,us=[a,b]:=by
 cases us with
 | nil=>cases h
 | cons a t=>obtain⟨b,rfl⟩:=MD (Nat.succ.inj h);exact⟨a,b,rfl⟩
theorem MC{α:Type}{us:List α}(h:us.length=3):∃ a b c,us=[a,b,c]:=by
 cases us with
 | nil=>cases h
 | cons a t=>obtain⟨b,c,rfl⟩:=ln2 (Nat.succ.inj h);exact⟨a,b,c,rfl⟩
def xy(K:PySem.W.Frag):Bool:=K.all λp=>match p.2.cls with
 | .type t=>t != "list"
 | _=>true
theorem Ae{K:PySem.W.Frag}(h:xy K=true){a:Addr}{o:Obj}(e:K.lookup a=some o):o.cls≠.type "list" := by
 induction K with
 | nil=>cases e
 | cons p r ih =>
  obtain⟨b,u⟩:=p
  rw[xy,List.all_cons,Bool.and_eq_true] at h
  rw[List.lookup_cons] at e
  cases q:a==b with
  | true =>
   rw[q] at e;cases e
   intro z
   have h1:=h.1
   simp only[z] at h1
   exact absurd h1 (by decide)
  | false=>rw[q] at e;exact ih h.2 e
theorem sk{H:Hp}:∀ ns:List Int,aV H (ns.map PV.int) (ns.map V.int)
 | []=>.nil
 | i::r=>.cons (.int i) (sk r)
theorem xi{l:PySem.W.OpenLaw}{n k:Nat}{q:Program}{loose:List Str}{XP:(Str->Option Value)->Heap->Prop}{YP:World->Heap->Prop}{d:DefRec}{K:Params->PySem.W.Frag}{sem:List PV->M PV}{x:Str}
  (hn:l.most=some n) (Px:n<=sizeLine) (hdf:d.params.defaults=[]) (hr:cx k callerA)
  (hY:∀ (w:World) (h:Heap),YP w h->(K w.params).In h)
  (hK:∀ w:World,xy (K w.params)=true)
  (F:∀ (w:World) (mg:Str->Option Value) (fa:Addr) (h:Heap),(K w.params).In h->h.Ns mainGlobals mg->mg d.name=some (.ref fa) ->
   ∃ fd:FuncData,(∀ (s:Shared) (u:Value),BindsTo s fd ⟨[u],[]⟩ [(x,u)]) ∧
    ∀ base:Heap,(K w.params).In base->base.Ns mainGlobals mg->aJ l.prog w (K w.params) mg base (bF l.prog w) k fa fd [x] (cQ 1 sem))
  (PX:∀ ns:List Int,ns.length<=n->(∀ i∈ns,Builtin.Int.intBits i<=1048576)->sem [.jO (ns.map PV.int)]=M.ok (.bl true)) :
  PySem.W.WalkO q loose XP YP l.row.toRowW d [] (λf vs=>PySem.call f vs):=by
 intro w s₀ s₁ mg mb G Y fa o pm cd doc dV kV ho hd N2 hD hmg hg args vals as y_ hlay hrd hwl hlo
 obtain rfl:dV=.none:=PySem.W.Dflts.none hD hdf
 obtain rfl:kV=.none:=PySem.W.Dflts.noKw hD
 obtain⟨a,vs,ns,rfl,rfl,hobj,hints,hlen⟩:=Att.yL hn y_ hwl
 have Qh:∀ i∈ns,Builtin.Int.intBits i<=1048576:=λi hi=>by
  have h1:=PySem.W.layableW_arg hlay _ (List.mem_singleton.mpr rfl)
  have h2:=PySem.W.layableW_item h1 (.int i) (List.mem_map.mpr ⟨i,hi,rfl⟩)
  exact intBits_le_of_layable h2
 have KX:=hY w _ Y
 obtain⟨fd,hb,hF⟩:=F w mg fa _ KX G.T.g hmg
 have hs:=PX ns hlen Qh
 refine PySem.W.enter_call (codeAny_mono (Ck KX G.T.g G.T.b G.T.builtins G.T.nolimit hg hobj hints (Nat.le_trans hlen Px) hr hF hb (λH hO hS=>⟨rfl,H,[.jO (ns.map PV.int)],λ_ _ e=>e,?_,?_⟩) λH e s' z=>?_) λr s' hq=>?_)
 ·rcases hS with (hS | ⟨ob,hS⟩) | ⟨ob,MJ,m,e1,e2,_⟩
  ·rcases hO a with z | ⟨ob,xs,z⟩
   ·rw[z] at hS;cases hS
   ·rw[z] at hS;cases hS
  ·exact .cons (.jO hS (sk ns)) .nil
  ·exact absurd e2 (Ae (hK w) e1)
 ·rw[hs]
  intro v ML H' g r
  cases r;rfl
 ·obtain⟨ea,T,C,dd,Hc,_,_,_,_,_,_,_,_,z⟩:=z;exact z
 ·obtain⟨rfl,h2,h3,h4⟩:=hq
  exact⟨.inl ⟨.bool true,.bool true,[],rfl,λ_=>rfl,.bool true,Att.zA l _,λ_=>⟨List.Pairwise.nil,λ_ hm=>(nomatch hm)⟩⟩,h2,h3,h4⟩
end L2
namespace L2
open PySem PySem.Spec PyProof.Rows
abbrev wG(x q:Str)(t:Stmt)(s:Value)(c:Addr):FuncData:=PySem.W.fnOf x q (iF t) (fq t) (bc t) .none .none .none s none (.ref c) .none
theorem aY.of{K:PySem.W.Frag}{x q:Str}{t:Stmt}{dv kV doc pm:Value}{an:Option Addr}{M5 ct:Value}{f:Addr}(h1:K.lookup f=some ⟨.type "function", none,.func (PySem.W.fnOf x q (iF t) (fq t) (bc t) dv kV doc pm an M5 ct),⟨[]⟩⟩)(h2:PySem.W.codeIn K M5 q=true)(h3:PySem.W.keepIn K (.ref f)=true):aY K x q t dv f (PySem.W.fnOf x q (iF t) (fq t) (bc t) dv kV doc pm an M5 ct):=⟨⟨_,_,_,_,_,_,_,_,_,rfl,h1,h2⟩,h3⟩
section
variable{α:Type}{P:List α->Prop}
theorem Im(h:∀ a b,P [a,b]):∀ us,us.length=2->P us:=λus hl=>by obtain⟨a,b,rfl⟩:=ln2 hl;exact h a b
end
theorem cv.of{N P:List Str}{sc:Scope}(h1:autoParam (sc.kind=.function) aR._auto_1)(h2:autoParam (sc.isCoroutine=false) aR._auto_1)(h3:autoParam (sc.isGenerator=false) aR._auto_1)(h4:autoParam (N.Nodup) aN._auto_1)(h5:autoParam (N.take P.length=P) aR._auto_1)(h6:autoParam (∀ x∈P,sc.names.lookup x=some .local\/sc.names.lookup x=some .cell) aN._auto_1)(h7:autoParam (∀ y∈sc.names,y.2≠.free) aN._auto_1):cv N P sc:=⟨h1,h2,h3,h4,h5,h6,h7⟩
theorem aM{X:Cx}{pos:Pos}{i:Nat}{x:Str}(hN:X.N.Nodup)(hi:autoParam (X.N[i]?=some x) aR._auto_1)(hx:autoParam (Loc X.env.scope x) aG._auto_1)(hf:autoParam (X.fn x=true\/X.env.scope.names.lookup x=some .local) aG._auto_1):PG X (.Name x pos) (aH i):=EE hN hi hx hf
end L2
namespace L2
open PySem PySem.Spec PyProof.Rows
def Ea:Nat->(List Value->Prop)->Prop
 | 0,P=>P []
 | n+1,P=>∀ a,Ea n λl=>P (a::l)
theorem sL:∀ {n:Nat} {P:List Value->Prop},Ea n P->∀ us:List Value,us.length=n->P us
 | 0,_,h,[],_=>h
 | n+1,_,h,a::r,e=>sL (h a) r (Nat.succ.inj e)
section
variable{K:PySem.W.Frag}{mg:Str->Option Value}{h:Heap}{x q:Str}{t:Stmt}{n m:Nat}{ps:List Str}{sem:List PV->M PV}{tO:List PV->M (List PV)}
theorem gm(P:Program)(w:World)(base:Heap)(X:K.In h)(G:h.Ns mainGlobals mg)(a c:Addr)(s:Value)(ok:aY K x q t .none a (wG x q t s c)->aJ P w K mg base (bF P w) n a (wG x q t s c) ps (cQ m (a_ m sem)))
  (h1:autoParam (K.lookup a=some ⟨.type "function", none,.func (wG x q t s c),⟨[]⟩⟩) aK._auto_1) (h2:autoParam (PySem.W.codeIn K (.ref c) q=true) aK._auto_1) (h3:autoParam (PySem.W.keepIn K (.ref a)=true) aK._auto_1) (h4:autoParam (PySem.W.nsIn K mainGlobals x=some (some (.ref a))) aK._auto_1)
  (h5:autoParam (ps.length=m) aR._auto_1) (h6:Ea ps.length λus=>bindArgs (wG x q t s c) ⟨us,[]⟩=pure (ps.zip us):=by (repeat intro _);rfl):cy P w K mg base n x m sem :=
 ⟨⟨a,_,ps,PySem.W.mg_of X G h4,h3,h5,.all (sL h6),ok (.of h1 h2 h3)⟩⟩
theorem wu(P:Program)(w:World)(base:Heap){C:Addr}(cc:jT K C)(a c:Addr)(s:Value)(ok:aY K x q t .none a (wG x q t s c)->aJ P w K mg base (bF P w) n a (wG x q t s c) ps (cQ m (a_ m sem)))
  (h1:autoParam (K.lookup a=some ⟨.type "function", none,.func (wG x q t s c),⟨[]⟩⟩) aK._auto_1) (h2:autoParam (PySem.W.codeIn K (.ref c) q=true) aK._auto_1) (h3:autoParam (PySem.W.keepIn K (.ref a)=true) aK._auto_1) (h4:autoParam (PySem.W.findIn K (.ref C) x=some (some (.ref a))) aK._auto_1) (h5:autoParam (PySem.W.isFn K (.ref a)=true) aK._auto_1)
  (h6:Ea ps.length λus=>bindArgs (wG x q t s c) ⟨us,[]⟩=pure (ps.zip us):=by (repeat intro _);rfl):iJ P w K mg base C n x m sem :=
 ⟨⟨a,_,ps,cc,⟨h4,h5,h3⟩,.all (sL h6),ok (.of h1 h2 h3)⟩⟩
end
end L2
namespace L2
open PySem PySem.Spec PyProof.Rows
theorem aY.dR{P:Program}{w:World}{K:PySem.W.Frag}{mg:Str->Option Value}{base:Heap}{x qual:Str}{st:Stmt}{dv:Value}{f:Addr}{fd:FuncData}{ps:List Str}{k:Nat}{g:af->M Out}(F:aY K x qual st dv f fd)(N:List Str)
  (hb:N.Nodup->∀ (M5:Value) (A:Around) (outer:List Env) (s:Shared) (H:Hp) (E:XK),cx k (A.deeper (envOfC qual (bc st) s.heap.objs.size f M5))->fv ((lq (bF P w) P w K mg base N qual (bc st) f M5 A outer s H E).out λ_=>E) (λ_=>E)->lZ ((lq (bF P w) P w K mg base N qual (bc st) f M5 A outer s H E).out λ_=>E) (fq st) (tS E g))
  (S:cv N ps (bc st):=by exact .of):aJ P w K mg base (bF P w) (k+1) f fd ps (cQ ps.length (a_ ps.length (ax N.length g))):=F.ME S (hb S.nd)
end L2
namespace HD
open PySem PySem.W L2
abbrev pw:Program:=PySem.Challenge.pw_dialvault_k91_whole_pulls_and_weights
noncomputable section
noncomputable def st(s:String)(t:Nat):Value:=.str (Str.ofString s) t
def en(P:Params)(s:String)(t:Nat)(v:Value):DictEntry:=⟨PyData.keyHash P (Str.ofString s),st s t,v⟩
def tu(xs:List Value):Obj:=⟨.type "tuple", none,.seq ⟨xs⟩ 0,⟨[]⟩⟩
def di(n:Nat)(es:List DictEntry):Obj:=⟨.type "dict", none,.dict ⟨es⟩ n,⟨[]⟩⟩
def tp(i:Nat):Stmt:=pw.main.body.getD i (.Pass ⟨0,0,0,0⟩)
def mp(i j:Nat):Stmt:=inClass (tp i) j
def co(a b:String)(t:Nat)(l n:Int)(x1 x2 x3 x4 x5:Nat)(u:Nat):Obj:=⟨.type "code", none,.fields ⟨[st a t,st b (t+1),st "/claim/cut.py" (t+2),.int l 0,.int n 0,.int 0 0,.int 0 0,.int 3 0,.ref x1,.bool true,.int 181 0,.ref x2,.none,.ref x3,.ref x4,.ref x5,.int u 0,.int l 0,st "/claim/cut.py" (u+1)]⟩,⟨[]⟩⟩
def ft(a b:String)(s:Stmt):Obj:=⟨.none,none,.func ⟨Str.ofString a,Str.ofString b,iF s,.stmts (fq s),bc s,0,[],.none,.none,.none,.none,none,.none,.none,0⟩,⟨[]⟩⟩
def fo(a b:String)(s:Stmt)(df pm:Value)(cd:Nat):Obj:=⟨.type "function", none,.func ⟨Str.ofString a,Str.ofString b,iF s,.stmts (fq s),bc s,3,[],df,.none,.none,pm,none,.ref cd,.none,0⟩,⟨[]⟩⟩
def Hy:List Obj->List Obj
 | []=>[]
 | [a]=>[a]
 | a::_::r=>a::Hy r
def bt:Nat->List Obj->BT
 | 0,_=>.nil
 | _+1,[]=>.nil
 | n+1,a::r=>.node a (bt n (Hy r)) (bt n (Hy (r.drop 1)))
def S(L:Params->List Obj)(n k:Nat)(w:World)(os:OsState):SharedT:=⟨bt 14 (L w.params),n,{},⟨[]⟩,⟨0,0,0,0⟩,k,os⟩
def F(L:Params->List Obj)(k:Nat)(w:World)(os:OsState):Shared:=⟨⟨⟨L w.params⟩,{}⟩,⟨[]⟩,⟨0,0,0,0⟩,k,os⟩
def cc(a:String)(t:Nat)(l:Int)(x y u:Nat):Obj:=⟨.type "code", none,.fields ⟨[st a t,st a (t+1),st "/claim/cut.py" (t+2),.int l 0,.int 0 0,.int 0 0,.int 0 0,.int 0 0,.ref x,.bool false,.int 181 0,.ref y,.none,.none,.none,.none,.int u 0,.int l 0,st "/claim/cut.py" (u+1)]⟩,⟨[]⟩⟩
def fr(a b:Nat)(s:String)(t:Nat):Obj:=⟨.type "frame", none,.plain,⟨[some (.ref a),some (.ref 3),some (.ref b),none,some (st s t),none,some (.ref 0)]⟩⟩
def su(a:Nat):Obj:=⟨.type "super", none,.fields ⟨[.ref a,.ref a,.ref a]⟩,⟨[]⟩⟩
def ii(a:Nat):Obj:=⟨.type "builtin_function_or_method", none,.fields ⟨[.builtin "object.__init_subclass__", .ref a]⟩,⟨[]⟩⟩
def uo:List Nat->List Value
 | a::b::c::r=>.int a 0::.int b 0::.ref c::uo r
 | _=>[]
def fi(xs:List Nat):Obj:=⟨.none,none,.fields ⟨uo xs⟩,⟨[]⟩⟩
def cl(n:Str)(bs ms:List Value)(k:Nat)(ss:List Value)(sl:List (Option Value)):Obj:=⟨.type "type", none,.cls ⟨n,bs,ms,k,n,true,[],ss,false,none,false⟩,⟨sl⟩⟩
def pt(L:List Obj)(us:List (Nat×Obj))(ns:List Obj):List Obj:=us.foldl (λl u=>l.set u.1 u.2) L++ns
abbrev b0:=boot_o_0
abbrev b1:=boot_o_1
abbrev b2:=boot_o_2
abbrev b3:=boot_o_3
abbrev b4:=boot_o_4
abbrev b5:=boot_o_5
abbrev b6:=boot_o_6
abbrev b7:=boot_o_7
abbrev b8:=boot_o_8
abbrev b9:=boot_o_9
abbrev Mv:=boot_o_10
def m0:Value:=st "__main__" 164
def m1:Value:=st "dialvault.errors" 194
def m2:Value:=st "dialvault.wholes" 363
def m3:Value:=st "dialvault.vault" 420
def m4:Value:=st "dialvault.papers" 571
def m5:Value:=st "dialvault.rungs" 714
def m6:Value:=st "dialvault.classes" 898
def m7:Value:=st "dialvault.stills" 932
def m8:Value:=st "law_dialvault_k91_whole_pulls_and_weights" 946
def nl:List String->Nat->List Value
 | [],_=>[]
 | x::r,t=>st x t::nl r (t+1)
def fA(P:Params)(a t:Nat)(x q:String)(s:Stmt)(l n:Int)(vs:List String)(df pm:Value):List Obj:=[b7 P,b8 P,tu (nl vs (t+3)),b7 P,ft x q s,co x q t l n a (a+1) (a+2) (a+3) (a+4) (t+3+vs.length),fo x q s df pm (a+5)]
def fT(P:Params)(a t:Nat)(x:String)(s:Stmt)(l n:Int)(vs:List String)(pm:Value):List Obj:=fA P a t x x s l n vs .none pm
def fB(P:Params)(a t:Nat)(x q:String)(s:Stmt)(l n:Int)(df pm:Value):List Obj:=[b7 P,b8 P,ft x q s,⟨.type "code", none,.fields ⟨[st x t,st q (t+1),st "/claim/cut.py" (t+2),.int l 0,.int n 0,.int 0 0,.int 0 0,.int 3 0,.ref a,.bool true,.int 181 0,.ref (a+1),.none,.none,.none,.ref (a+2),.int (t+3) 0,.int l 0,st "/claim/cut.py" (t+4)]⟩,⟨[]⟩⟩,fo x q s df pm (a+3)]
def dB(P:Params)(n t:Nat)(m:Value)(l:Int)(r:List DictEntry):Obj:=di n (en P "__module__" t m::en P "__firstlineno__" (t+4) (.int l (t+3))::r)
def dA(P:Params)(n t:Nat)(m:Value)(x:String)(l:Int)(r:List DictEntry):Obj:=di n (en P "__module__" t m::en P "__qualname__" (t+2) (st x (t+1))::en P "__firstlineno__" (t+4) (.int l (t+3))::r)
def gw(t a:Nat):Obj:=⟨.type "getset_descriptor", none,.fields ⟨[st "__weakref__" t,.ref a,.builtin "ExceptionGroup.__weakref__", .none]⟩,⟨[]⟩⟩
def gd(t a:Nat):Obj:=⟨.type "getset_descriptor", none,.fields ⟨[st "__dict__" t,.ref a,.builtin "function.__dict__", .builtin "function.__dict__#set"]⟩,⟨[]⟩⟩
def ce(x:String)(b a k:Nat)(ss:List Value)(d t u:Nat):Obj:=cl x [.ref b] [.ref a,.ref b,.type "ValueError", .type "Exception", .type "BaseException", .type "object"] k ss [some (.ref d),none,some (st x t),some (st x u),some (.builtin "ValueError.__new__"),some (.bool true)]
def gl P:=[en P "__doc__" 166 .none,en P "__package__" 167 .none,en P "__loader__" 168 (.builtin "__main__.__loader__#opaque"),en P "__spec__" 169 .none,en P "__annotations__" 170 (.ref 6),en P "__builtins__" 171 (.ref 4),en P "__file__" 173 (st "/claim/cut.py" 172),en P "__cached__" 174 .none,en P "_wall" 193 (.ref 21),en P "VaultError" 220 (.ref 38),en P "NoDial" 252 (.ref 65),en P "NoLever" 284 (.ref 91),en P "NoPrice" 316 (.ref 117),en P "NoSetting" 339 (.ref 136),en P "TooMany" 362 (.ref 155),en P "is_whole" 371 (.ref 164),en P "is_row" 377 (.ref 169),en P "common" 389 (.ref 176),en P "multiple_of" 398 (.ref 183),en P "product_of" 407 (.ref 190),en P "unit_row" 413 (.ref 195),en P "rest_sum" 419 (.ref 200),en P "MOST_DIALS" 423 (.int 6 422),en P "LEAST_SIZE" 425 (.int 2 424),en P "MOST_SIZE" 427 (.int 360 426),en P "MOST_LEVERS" 429 (.int 8 428),en P "LEAST_PRICE" 431 (.int 1 430),en P "MOST_PRICE" 433 (.int 1000 432),en P "Vault" 491 (.ref 244),en P "is_within" 500 (.ref 255),en P "need_sizes" 509 (.ref 262),en P "need_levers" 519 (.ref 269),en P "prices_for" 528 (.ref 276),en P "rests" 534 (.ref 281),en P "nought" 541 (.ref 288),en P "is_setting" 547 (.ref 293),en P "need_setting" 555 (.ref 300),en P "added" 561 (.ref 305),en P "between" 570 (.ref 312),en P "weigh" 578 (.ref 317),en P "Paper" 622 (.ref 348),en P "Way" 671 (.ref 390),en P "Bar" 713 (.ref 423),en P "mixed" 721 (.ref 430),en P "mixed_made" 733 (.ref 437),en P "unpulled" 741 (.ref 444),en P "pulled_once" 750 (.ref 451),en P "step_size" 760 (.ref 458),en P "taken_in" 775 (.ref 465),en P "lowered" 787 (.ref 472),en P "in_spans" 797 (.ref 479),en P "Rungs" 879 (.ref 540),en P "first_turned" 885 (.ref 549),en P "bring" 897 (.ref 556),en P "together_count" 906 (.ref 563),en P "class_count" 913 (.ref 570),en P "least_of" 921 (.ref 577),en P "belong" 931 (.ref 584),en P "clear" 939 (.ref 589),en P "stills" 945 (.ref 594),en P "_law_cell" 955 (.ref 601),en P "_law_stream" 966 (.ref 608),en P "_law_digits" 977 (.ref 615),en P "_law_sizes" 983 (.ref 620),en P "_law_great" 990 (.ref 627),en P "_law_lever" 1002 (.ref 634),en P "_law_levers" 1013 (.ref 641),en P "_law_round" 1024 (.ref 648),en P "_law_added" 1030 (.ref 653),en P "_law_turned" 1043 (.ref 660),en P "_law_weighed" 1057 (.ref 667),en P "_law_setting" 1063 (.ref 672),en P "_law_pulls" 1069 (.ref 677),en P "_law_product" 1078 (.ref 684),en P "_law_alike" 1089 (.ref 691),en P "_law_barred" 1100 (.ref 698),en P "_law_two_good" 1117 (.ref 705),en P "_law_counts_good" 1128 (.ref 712),en P "law" 1134 (.ref 717)]
def LA(P:Params):List Obj:=[b0 P,b1 P,b2 P,b3 P,b4 P,b5 P,b6 P,b7 P,b8 P,b9 P,Mv P,b7 P,b8 P,cc "<module>" 182 1 11 12 185,fr 13 3 "__main__" 164]
def o9:Obj:=⟨.type "builtin_function_or_method", none,(.fields ⟨[.builtin "type.__prepare__", .type "type"]⟩),⟨[]⟩⟩
def My:Obj:=gw 216 38
def IW:=tu [.ref 38]
def L0 P:=pt (LA P) [(3,di 15 (en P "__name__" 165 m1::(gl P).take 14)),(12,fi [1,0,20,5,0,27,9,0,47,16,0,73,23,0,99,30,0,125])] (fT P 15 187 "_wall" (tp 0) 1 1 ["k"] m0++([tu [.type "ValueError"],o9,dA P 5 203 m1 "VaultError" 5 [en P "word" 214 (.ref 35),en P "__static_attributes__" 215 (.ref 36)],b7 P,fi [7,4,34],cc "VaultError" 198 5 25 26 201,fr 27 24 "dialvault.errors" 194]++(fA P 29 208 "word" "VaultError.word" (mp 2 0) 7 1 ["self"] .none m1++([b7 P,dB P 3 203 m1 5 [en P "word" 214 (.ref 35),en P "__static_attributes__" 215 (.ref 36),en P "__weakref__" 217 (.ref 39),en P "__doc__" 218 .none],cl "VaultError" [.type "ValueError"] [.ref 38,.type "ValueError", .type "Exception", .type "BaseException", .type "object"] 37 [.ref 65,.ref 91,.ref 117,.ref 136] [some (.ref 22),none,some (st "VaultError" 196),some (st "VaultError" 204),some (.builtin "ValueError.__new__"),some (.bool true)],My,su 38,ii 38,IW,o9,dA P 6 228 m1 "NoDial" 9 [en P "__init__" 240 (.ref 55),en P "word" 247 (.ref 62),en P "__static_attributes__" 249 (.ref 63)],b7 P,fi [11,4,54,14,4,61],cc "NoDial" 223 9 45 46 226,fr 47 44 "dialvault.errors" 194]++(fA P 49 233 "__init__" "NoDial.__init__" (mp 3 0) 11 2 ["self", "dial"] .none m1++(fA P 56 241 "word" "NoDial.word" (mp 3 1) 14 1 ["self"] .none m1++([tu [st "dial" 248],dB P 2 228 m1 9 [en P "__init__" 240 (.ref 55),en P "word" 247 (.ref 62),en P "__static_attributes__" 249 (.ref 63),en P "__doc__" 250 .none],ce "NoDial" 38 65 64 [] 42 221 229,su 65,ii 65,IW,o9,dA P 6 260 m1 "NoLever" 16 [en P "__init__" 272 (.ref 81),en P "word" 279 (.ref 88),en P "__static_attributes__" 281 (.ref 89)],b7 P,fi [18,4,80,21,4,87],cc "NoLever" 255 16 71 72 258,fr 73 70 "dialvault.errors" 194]++(fA P 75 265 "__init__" "NoLever.__init__" (mp 4 0) 18 2 ["self", "lever"] .none m1++(fA P 82 273 "word" "NoLever.word" (mp 4 1) 21 1 ["self"] .none m1++([tu [st "lever" 280],dB P 2 260 m1 16 [en P "__init__" 272 (.ref 81),en P "word" 279 (.ref 88),en P "__static_attributes__" 281 (.ref 89),en P "__doc__" 282 .none],ce "NoLever" 38 91 90 [] 68 253 261,su 91,ii 91,IW,o9,dA P 6 292 m1 "NoPrice" 23 [en P "__init__" 304 (.ref 107),en P "word" 311 (.ref 114),en P "__static_attributes__" 313 (.ref 115)],b7 P,fi [25,4,106,28,4,113],cc "NoPrice" 287 23 97 98 290,fr 99 96 "dialvault.errors" 194]++(fA P 101 297 "__init__" "NoPrice.__init__" (mp 5 0) 25 2 ["self", "lever"] .none m1++(fA P 108 305 "word" "NoPrice.word" (mp 5 1) 28 1 ["self"] .none m1++([tu [st "lever" 312],dB P 2 292 m1 23 [en P "__init__" 304 (.ref 107),en P "word" 311 (.ref 114),en P "__static_attributes__" 313 (.ref 115),en P "__doc__" 314 .none],ce "NoPrice" 38 117 116 [] 94 285 293,su 117,ii 117,IW,o9,dA P 5 324 m1 "NoSetting" 30 [en P "word" 335 (.ref 133),en P "__static_attributes__" 336 (.ref 134)],b7 P,fi [32,4,132],cc "NoSetting" 319 30 123 124 322,fr 125 122 "dialvault.errors" 194]++(fA P 127 329 "word" "NoSetting.word" (mp 6 0) 32 1 ["self"] .none m1++([b7 P,dB P 2 324 m1 30 [en P "word" 335 (.ref 133),en P "__static_attributes__" 336 (.ref 134),en P "__doc__" 337 .none],ce "NoSetting" 38 136 135 [] 120 317 325,su 136,ii 136])))))))))))))))
def LM:Obj:=gd 485 244
def Ku:Obj:=gw 487 244
def KP:Obj:=gd 616 348
def K7:Obj:=gw 618 348
def L1 P:=pt (L0 P) [(3,di 42 (en P "__name__" 165 m4::(gl P).take 41)),(12,fi [1,0,20,5,0,27,9,0,47,16,0,73,23,0,99,30,0,125,34,0,144,39,0,163,41,0,168,45,0,175,56,0,182,61,0,189,66,0,194,68,0,199,77,0,206,98,0,254,100,0,261,108,0,268,114,0,275,123,0,280,125,0,287,127,0,292,132,0,299,135,0,304,138,0,311,143,0,316,149,0,323]),(38,cl "VaultError" [.type "ValueError"] [.ref 38,.type "ValueError", .type "Exception", .type "BaseException", .type "object"] 37 [.ref 65,.ref 91,.ref 117,.ref 136,.ref 155] [some (.ref 22),none,some (st "VaultError" 196),some (st "VaultError" 204),some (.builtin "ValueError.__new__"),some (.bool true)])] ([IW,o9,dA P 5 347 m1 "TooMany" 34 [en P "word" 358 (.ref 152),en P "__static_attributes__" 359 (.ref 153)],b7 P,fi [36,4,151],cc "TooMany" 342 34 142 143 345,fr 144 141 "dialvault.errors" 194]++(fA P 146 352 "word" "TooMany.word" (mp 7 0) 36 1 ["self"] .none m1++([b7 P,dB P 2 347 m1 34 [en P "word" 358 (.ref 152),en P "__static_attributes__" 359 (.ref 153),en P "__doc__" 360 .none],ce "TooMany" 38 155 154 [] 139 340 348,su 155,ii 155]++(fT P 158 365 "is_whole" (tp 9) 39 1 ["thing"] m2++(fB P 165 372 "is_row" "is_row" (tp 10) 41 2 .none m2++(fT P 170 378 "common" (tp 11) 45 2 ["one", "other", "row", "behind", "times", "rest"] m2++(fT P 177 390 "multiple_of" (tp 12) 56 1 ["numbers", "multiple", "number"] m2++(fT P 184 399 "product_of" (tp 13) 61 1 ["numbers", "product", "number"] m2++(fB P 191 408 "unit_row" "unit_row" (tp 14) 66 2 .none m2++(fB P 196 414 "rest_sum" "rest_sum" (tp 15) 68 3 .none m2++([b7 P,o9,dA P 9 441 m3 "Vault" 77 [en P "__init__" 451 (.ref 213),en P "sizes" 458 (.ref 220),en P "levers" 465 (.ref 227),en P "prices" 472 (.ref 234),en P "around" 479 (.ref 241),en P "__static_attributes__" 484 (.ref 242)],b7 P,fi [79,4,212,87,4,219,90,4,226,93,4,233,96,4,240],cc "Vault" 436 77 204 205 439,fr 206 203 "dialvault.vault" 420,tu [.none]]++(fB P 209 446 "__init__" "Vault.__init__" (mp 23 0) 79 4 (.ref 208) m3++(fA P 214 452 "sizes" "Vault.sizes" (mp 23 1) 87 1 ["self"] .none m3++(fA P 221 459 "levers" "Vault.levers" (mp 23 2) 90 1 ["self"] .none m3++(fA P 228 466 "prices" "Vault.prices" (mp 23 3) 93 1 ["self"] .none m3++(fA P 235 473 "around" "Vault.around" (mp 23 4) 96 1 ["self"] .none m3++([tu [st "dial_sizes" 480,st "least_round" 481,st "lever_prices" 482,st "lever_settings" 483],dB P 4 441 m3 77 [en P "__init__" 451 (.ref 213),en P "sizes" 458 (.ref 220),en P "levers" 465 (.ref 227),en P "prices" 472 (.ref 234),en P "around" 479 (.ref 241),en P "__static_attributes__" 484 (.ref 242),en P "__dict__" 486 (.ref 245),en P "__weakref__" 488 (.ref 246),en P "__doc__" 489 .none],cl "Vault" [.type "object"] [.ref 244,.type "object"] 243 [] [none,none,some (st "Vault" 434),some (st "Vault" 442),some (.builtin "object.__new__"),some (.bool true)],LM,Ku,su 244,ii 244]++(fT P 249 492 "is_within" (tp 24) 98 3 ["thing", "least", "most"] m3++(fT P 256 501 "need_sizes" (tp 25) 100 1 ["sizes", "dial", "size"] m3++(fT P 263 510 "need_levers" (tp 26) 108 2 ["levers", "dials", "place", "lever"] m3++(fT P 270 520 "prices_for" (tp 27) 114 2 ["levers", "prices", "place"] m3++(fB P 277 529 "rests" "rests" (tp 28) 123 2 .none m3++(fT P 282 535 "nought" (tp 29) 125 1 ["vault"] m3++(fB P 289 542 "is_setting" "is_setting" (tp 30) 127 2 .none m3++(fT P 294 548 "need_setting" (tp 31) 132 2 ["vault", "thing"] m3++(fB P 301 556 "added" "added" (tp 32) 135 4 .none m3++(fT P 306 562 "between" (tp 33) 138 3 ["vault", "one", "other"] m3++(fB P 313 573 "weigh" "weigh" (tp 35) 143 3 .none m4++([b7 P,o9,dA P 7 586 m4 "Paper" 149 [en P "brings" 597 (.ref 331),en P "shows" 607 (.ref 338),en P "words" 614 (.ref 345),en P "__static_attributes__" 615 (.ref 346)],b7 P,fi [151,4,330,154,4,337,157,4,344],cc "Paper" 581 149 321 322 584,fr 323 320 "dialvault.papers" 571]++(fA P 325 591 "brings" "Paper.brings" (mp 36 0) 151 1 ["self"] .none m4++(fA P 332 598 "shows" "Paper.shows" (mp 36 1) 154 4 ["self", "vault", "one", "other"] .none m4++(fA P 339 608 "words" "Paper.words" (mp 36 2) 157 1 ["self"] .none m4++([b7 P,dB P 4 586 m4 149 [en P "brings" 597 (.ref 331),en P "shows" 607 (.ref 338),en P "words" 614 (.ref 345),en P "__static_attributes__" 615 (.ref 346),en P "__dict__" 617 (.ref 349),en P "__weakref__" 619 (.ref 350),en P "__doc__" 620 .none],cl "Paper" [.type "object"] [.ref 348,.type "object"] 347 [] [none,none,some (st "Paper" 579),some (st "Paper" 587),some (.builtin "object.__new__"),some (.bool true)],KP,K7,su 348,ii 348])))))))))))))))))))))))))))))))))
def JK:=tu [.ref 348]
def K3:Obj:=gd 873 540
def LW:Obj:=gw 875 540
def L2 P:=pt (L1 P) [(3,di 57 (en P "__name__" 165 m6::(gl P).take 56)),(12,fi [1,0,20,5,0,27,9,0,47,16,0,73,23,0,99,30,0,125,34,0,144,39,0,163,41,0,168,45,0,175,56,0,182,61,0,189,66,0,194,68,0,199,77,0,206,98,0,254,100,0,261,108,0,268,114,0,275,123,0,280,125,0,287,127,0,292,132,0,299,135,0,304,138,0,311,143,0,316,149,0,323,159,0,358,172,0,398,183,0,429,185,0,436,188,0,443,190,0,450,193,0,457,196,0,464,205,0,471,210,0,478,215,0,485,267,0,548,269,0,555,277,0,562,279,0,569]),(348,cl "Paper" [.type "object"] [.ref 348,.type "object"] 347 [.ref 390,.ref 423] [none,none,some (st "Paper" 579),some (st "Paper" 587),some (.builtin "object.__new__"),some (.bool true)])] ([JK,o9,dA P 8 630 m4 "Way" 159 [en P "__init__" 642 (.ref 366),en P "brings" 649 (.ref 373),en P "shows" 659 (.ref 380),en P "words" 666 (.ref 387),en P "__static_attributes__" 668 (.ref 388)],b7 P,fi [161,4,365,164,4,372,167,4,379,170,4,386],cc "Way" 625 159 356 357 628,fr 358 355 "dialvault.papers" 571]++(fA P 360 635 "__init__" "Way.__init__" (mp 37 0) 161 2 ["self", "pulls"] .none m4++(fA P 367 643 "brings" "Way.brings" (mp 37 1) 164 1 ["self"] .none m4++(fA P 374 650 "shows" "Way.shows" (mp 37 2) 167 4 ["self", "vault", "one", "other"] .none m4++(fA P 381 660 "words" "Way.words" (mp 37 3) 170 1 ["self"] .none m4++([tu [st "pulls" 667],dB P 2 630 m4 159 [en P "__init__" 642 (.ref 366),en P "brings" 649 (.ref 373),en P "shows" 659 (.ref 380),en P "words" 666 (.ref 387),en P "__static_attributes__" 668 (.ref 388),en P "__doc__" 669 .none],cl "Way" [.ref 348] [.ref 390,.ref 348,.type "object"] 389 [] [some (.ref 353),none,some (st "Way" 623),some (st "Way" 631),some (.builtin "object.__new__"),some (.bool true)],su 390,ii 390,JK,o9,dA P 7 679 m4 "Bar" 172 [en P "__init__" 691 (.ref 406),en P "shows" 701 (.ref 413),en P "words" 708 (.ref 420),en P "__static_attributes__" 710 (.ref 421)],b7 P,fi [174,4,405,177,4,412,180,4,419],cc "Bar" 674 172 396 397 677,fr 398 395 "dialvault.papers" 571]++(fA P 400 684 "__init__" "Bar.__init__" (mp 38 0) 174 2 ["self", "weights"] .none m4++(fA P 407 692 "shows" "Bar.shows" (mp 38 1) 177 4 ["self", "vault", "one", "other"] .none m4++(fA P 414 702 "words" "Bar.words" (mp 38 2) 180 1 ["self"] .none m4++([tu [st "weights" 709],dB P 2 679 m4 172 [en P "__init__" 691 (.ref 406),en P "shows" 701 (.ref 413),en P "words" 708 (.ref 420),en P "__static_attributes__" 710 (.ref 421),en P "__doc__" 711 .none],cl "Bar" [.ref 348] [.ref 423,.ref 348,.type "object"] 422 [] [some (.ref 393),none,some (st "Bar" 672),some (st "Bar" 680),some (.builtin "object.__new__"),some (.bool true)],su 423,ii 423]++(fB P 426 716 "mixed" "mixed" (tp 40) 183 4 .none m5++(fT P 431 722 "mixed_made" (tp 41) 185 5 ["sizes", "made", "times", "other", "others", "doing"] m5++(fT P 438 734 "unpulled" (tp 42) 188 2 ["vault", "setting"] m5++(fT P 445 742 "pulled_once" (tp 43) 190 2 ["vault", "lever", "levers"] m5++(fT P 452 751 "step_size" (tp 44) 193 3 ["sizes", "made_rows", "dial", "notch"] m5++(fT P 459 761 "taken_in" (tp 45) 196 3 ["sizes", "made_rows", "left", "wider", "dial", "made", "step", "notch", "found"] m5++(fT P 466 776 "lowered" (tp 46) 205 4 ["sizes", "made_rows", "made", "first", "dial", "times"] m5++(fT P 473 788 "in_spans" (tp 47) 210 2 ["pulls", "idle_rows", "lever", "row"] m5++([b7 P,o9,dA P 13 805 m5 "Rungs" 215 [en P "__init__" 815 (.ref 491),en P "steps" 821 (.ref 496),en P "rows" 827 (.ref 501),en P "spans" 833 (.ref 506),en P "idle" 840 (.ref 513),en P "brought_down" 848 (.ref 520),en P "least" 856 (.ref 527),en P "pulls_to" 862 (.ref 532),en P "weights_at" 868 (.ref 537),en P "__static_attributes__" 872 (.ref 538)],b7 P,fi [217,4,490,229,4,495,233,4,500,236,4,505,239,4,512,242,4,519,246,4,526,249,4,531,255,4,536],cc "Rungs" 800 215 483 484 803,fr 485 482 "dialvault.rungs" 714]++(fB P 487 810 "__init__" "Rungs.__init__" (mp 48 0) 217 2 .none m5++(fB P 492 816 "steps" "Rungs.steps" (mp 48 1) 229 1 .none m5++(fB P 497 822 "rows" "Rungs.rows" (mp 48 2) 233 1 .none m5++(fB P 502 828 "spans" "Rungs.spans" (mp 48 3) 236 1 .none m5++(fA P 507 834 "idle" "Rungs.idle" (mp 48 4) 239 1 ["self"] .none m5++(fA P 514 841 "brought_down" "Rungs.brought_down" (mp 48 5) 242 2 ["self", "setting"] .none m5++(fA P 521 849 "least" "Rungs.least" (mp 48 6) 246 2 ["self", "setting"] .none m5++(fB P 528 857 "pulls_to" "Rungs.pulls_to" (mp 48 7) 249 2 .none m5++(fB P 533 863 "weights_at" "Rungs.weights_at" (mp 48 8) 255 2 .none m5++([tu [st "idle_rows" 869,st "made_rows" 870,st "vault" 871],dB P 4 805 m5 215 [en P "__init__" 815 (.ref 491),en P "steps" 821 (.ref 496),en P "rows" 827 (.ref 501),en P "spans" 833 (.ref 506),en P "idle" 840 (.ref 513),en P "brought_down" 848 (.ref 520),en P "least" 856 (.ref 527),en P "pulls_to" 862 (.ref 532),en P "weights_at" 868 (.ref 537),en P "__static_attributes__" 872 (.ref 538),en P "__dict__" 874 (.ref 541),en P "__weakref__" 876 (.ref 542),en P "__doc__" 877 .none],cl "Rungs" [.type "object"] [.ref 540,.type "object"] 539 [] [none,none,some (st "Rungs" 798),some (st "Rungs" 806),some (.builtin "object.__new__"),some (.bool true)],K3,LW,su 540,ii 540]++(fB P 545 880 "first_turned" "first_turned" (tp 49) 267 1 .none m5++(fT P 550 886 "bring" (tp 50) 269 3 ["vault", "one", "other", "difference", "rungs", "pulls"] m5++(fT P 557 900 "together_count" (tp 52) 277 1 ["vault"] m6++(fT P 564 907 "class_count" (tp 53) 279 1 ["vault"] m6)))))))))))))))))))))))))))))))))
def L3 P:=pt (L2 P) [(3,di 80 (en P "__name__" 165 m8::gl P)),(12,fi [1,0,20,5,0,27,9,0,47,16,0,73,23,0,99,30,0,125,34,0,144,39,0,163,41,0,168,45,0,175,56,0,182,61,0,189,66,0,194,68,0,199,77,0,206,98,0,254,100,0,261,108,0,268,114,0,275,123,0,280,125,0,287,127,0,292,132,0,299,135,0,304,138,0,311,143,0,316,149,0,323,159,0,358,172,0,398,183,0,429,185,0,436,188,0,443,190,0,450,193,0,457,196,0,464,205,0,471,210,0,478,215,0,485,267,0,548,269,0,555,277,0,562,279,0,569,281,0,576,283,0,583,287,0,588,290,0,593,295,0,600,299,0,607,306,0,614,313,0,619,324,0,626,326,0,633,337,0,640,346,0,647,354,0,652,356,0,659,361,0,666,367,0,671,371,0,676,378,0,683,383,0,690,388,0,697,393,0,704,406,0,711,414,0,716])] (fT P 571 914 "least_of" (tp 54) 281 2 ["vault", "setting"] m6++(fT P 578 922 "belong" (tp 55) 283 3 ["vault", "one", "other", "difference"] m6++(fB P 585 934 "clear" "clear" (tp 57) 287 1 .none m7++(fB P 590 940 "stills" "stills" (tp 58) 290 1 .none m7++(fT P 595 948 "_law_cell" (tp 60) 295 2 ["_law_script", "_law_k"] m8++(fT P 602 956 "_law_stream" (tp 61) 299 2 ["_law_cell_here", "_law_many", "_law_found", "_law_number", "_law_k"] m8++(fT P 609 967 "_law_digits" (tp 62) 306 2 ["_law_cell_here", "_law_bases", "_law_found", "_law_left", "_law_base"] m8++(fB P 616 978 "_law_sizes" "_law_sizes" (tp 63) 313 1 .none m8++(fT P 621 984 "_law_great" (tp 64) 324 1 ["_law_number"] m8++(fT P 628 991 "_law_lever" (tp 65) 326 2 ["_law_cell_here", "_law_sizes_here", "_law_row", "_law_number", "_law_size", "_law_share"] m8++(fT P 635 1003 "_law_levers" (tp 66) 337 2 ["_law_script", "_law_sizes_here", "_law_levers_here", "_law_k", "_law_cell_here"] m8++(fT P 642 1014 "_law_round" (tp 67) 346 1 ["_law_sizes_here", "_law_found", "_law_size", "_law_one", "_law_other"] m8++(fB P 649 1025 "_law_added" "_law_added" (tp 68) 354 4 .none m8++(fT P 654 1031 "_law_turned" (tp 69) 356 4 ["_law_sizes_here", "_law_levers_here", "_law_setting_here", "_law_pulls_here", "_law_found", "_law_row", "_law_times"] m8++(fT P 661 1044 "_law_weighed" (tp 70) 361 3 ["_law_sizes_here", "_law_weights", "_law_setting_here", "_law_around", "_law_total", "_law_weight", "_law_notch", "_law_size"] m8++(fB P 668 1058 "_law_setting" "_law_setting" (tp 71) 367 2 .none m8++(fB P 673 1064 "_law_pulls" "_law_pulls" (tp 72) 371 2 .none m8++(fT P 678 1070 "_law_product" (tp 73) 378 1 ["_law_numbers", "_law_found", "_law_number"] m8++(fT P 685 1079 "_law_alike" (tp 74) 383 4 ["_law_sizes_here", "_law_rows", "_law_one", "_law_other", "_law_row"] m8++(fT P 692 1090 "_law_barred" (tp 75) 388 4 ["_law_sizes_here", "_law_rows", "_law_rungs", "_law_weights", "_law_pulls_here"] m8++(fT P 699 1101 "_law_two_good" (tp 76) 393 5 ["_law_vault", "_law_still", "_law_rungs", "_law_one", "_law_other", "_law_sizes_here", "_law_rows", "_law_even", "_law_paper", "_law_word", "_law_numbers"] m8++(fT P 706 1118 "_law_counts_good" (tp 77) 406 3 ["_law_vault", "_law_still", "_law_sizes_here", "_law_counts", "_law_count"] m8++(fB P 713 1129 "law" "law" (tp 78) 414 1 .none m8)))))))))))))))))))))))
def LF(P:Params):=L3 P
def bE:List Stmt:=behindTheImports pw
def env:Env:={ scope:=pw.main.scope,locals:=mainNs,globals:=mainNs,cells:=[],code:=.ref 13,frame:=some 14 }
def cE:Code:=.body bE env
abbrev B:List Frame:=[topFrame ⟨0,0,0,0⟩]
abbrev ann:Option Value:=(some (.ref 6))
def HU:List Stmt:=(bE.drop 0).take 7
def F3:List Stmt:=(bE.drop 7).take 30
def He:List Stmt:=(bE.drop 37).take 17
def Ij:List Stmt:=(bE.drop 54).take 25
end
theorem y_:∀ w:World,(λos=>topGo treeTable pw w 11 ann 12 ⟨boot_heap w.params,⟨[]⟩,boot_drawn,boot_toks,os⟩ (topStub pw))=λos=>some (F LA 187 w os,⟨denote treeTable cE,cE,⟨0,0,0,0⟩,B⟩):=λw=>by
 rw[PySem.W.Fast.te15667345088766844465,PySem.W.Fast.te14364793385576792824,PySem.W.Fast.te11892475500146522536]
 kernel_rfl
theorem Lh:∀ w:World,(λos=>segRun treeTable pw w 11 ann 1 1 (F LA 187 w os) (blockOf bE env cE ⟨0,0,0,0⟩ B))=λos=>some (Flow.next,(S LA 15 187 w os).abs,cE,⟨0,0,0,0⟩):=λw=>by
 rw[PySem.W.Fast.te14374325043358763698,PySem.W.Fast.te14364793385576792824]
 kernel_rfl
theorem Mi:∀ w:World,(λos=>segRunT treeTable pw w 11 ann 1 1326 (S LA 15 187 w os) (piecesOf HU env cE ⟨0,0,0,0⟩ B))=λos=>some (Flow.next,S L0 139 340 w os,cE,⟨30,0,33,16⟩):=λw=>by
 rw[PySem.W.Fast.te10110043849684766642,PySem.W.Fast.te14364793385576792824]
 kernel_rfl
theorem LO:∀ w:World,(λos=>segRunT treeTable pw w 11 ann 1 1478 (S L0 139 340 w os) (piecesOf F3 env cE ⟨30,0,33,16⟩ B))=λos=>some (Flow.next,S L1 353 623 w os,cE,⟨149,0,158,17⟩):=λw=>by
 rw[PySem.W.Fast.te10110043849684766642,PySem.W.Fast.te14364793385576792824]
 kernel_rfl
theorem CI:∀ w:World,(λos=>segRunT treeTable pw w 11 ann 1 1499 (S L1 353 623 w os) (piecesOf He env cE ⟨149,0,158,17⟩ B))=λos=>some (Flow.next,S L2 571 914 w os,cE,⟨279,0,280,43⟩):=λw=>by
 rw[PySem.W.Fast.te10110043849684766642,PySem.W.Fast.te14364793385576792824]
 kernel_rfl
theorem Mq:∀ w:World,(λos=>segRunT treeTable pw w 11 ann 1 728 (S L2 571 914 w os) (piecesOf Ij env cE ⟨279,0,280,43⟩ B))=λos=>some (Flow.next,S L3 718 1135 w os,cE,⟨414,0,436,15⟩):=λw=>by
 rw[PySem.W.Fast.te10110043849684766642,PySem.W.Fast.te14364793385576792824]
 kernel_rfl
theorem GR:∀ w:World,(λos=>topRun treeTable pw w 11 ann 2 (S L3 718 1135 w os).abs ⟨doneF .next,cE,⟨414,0,436,15⟩,B⟩)=λos=>some (F LF 1135 w os):=λw=>by
 rw[PySem.W.Fast.te14082659384304107361,PySem.W.Fast.te14364793385576792824]
 kernel_rfl
theorem Ms:bE=(HU++(F3++(He++(Ij++[])))):=by kernel_rfl
theorem B5(w:World)(os:OsState):topRun treeTable pw w 11 ann (1326+(1478+(1499+(728+2)))) (S LA 15 187 w os).abs (restOf bE env cE ⟨0,0,0,0⟩ B)=some (F LF 1135 w os):=by
 rw[show restOf bE env cE ⟨0,0,0,0⟩ B=restOf (HU++(F3++(He++(Ij++[])))) env cE ⟨0,0,0,0⟩ B from congrArg (λb=>restOf b env cE ⟨0,0,0,0⟩ B) Ms]
 exact piece_app (segRun_of (congrFun (Mi w) os)) (piece_app (segRun_of (congrFun (LO w) os)) (piece_app (segRun_of (congrFun (CI w) os)) (piece_app (segRun_of (congrFun (Mq w) os)) (piece_nil (congrFun (GR w) os)))))
theorem KJ(w:World)(os:OsState):topRun treeTable pw w 11 ann (12+(1+(1326+(1478+(1499+(728+2)))))) ⟨boot_heap w.params,⟨[]⟩,boot_drawn,boot_toks,os⟩ (topStub pw)=some (F LF 1135 w os) :=
 go_top (congrFun (y_ w) os) (piece_block (congrFun (Lh w) os) (B5 w os))
end HD
namespace HD
open PySem PySem.W L2
noncomputable section
def vw:Program:=PySem.W.view pw [0,2,3,4,5,6,7,9,10,11,12,13,14,15,17,18,19,20,21,22,23,24,25,26,27,28,29,30,31,32,33,35,36,37,38,40,41,42,43,44,45,46,47,48,49,50,52,53,54,55,57,58,60,61,62,63,64,65,66,67,68,69,70,71,72,73,74,75,76,77,78]
def loose:List Str:=[]
noncomputable def as:List Addr:=[2,3,15,17,18,20,21,22,29,31,32,34,35,36,37,38,39,42,49,51,52,54,55,56,58,59,61,62,63,64,65,68,75,77,78,80,81,82,84,85,87,88,89,90,91,94,101,103,104,106,107,108,110,111,113,114,115,116,117,120,127,129,130,132,133,134,135,136,139,146,148,149,151,152,153,154,155,158,160,161,163,164,165,168,169,170,172,173,175,176,177,179,180,182,183,184,186,187,189,190,191,194,195,196,199,200,208,209,212,213,214,216,217,219,220,221,223,224,226,227,228,230,231,233,234,235,237,238,240,241,242,243,244,245,246,249,251,252,254,255,256,258,259,261,262,263,265,266,268,269,270,272,273,275,276,277,280,281,282,284,285,287,288,289,292,293,294,296,297,299,300,301,304,305,306,308,309,311,312,313,316,317,325,327,328,330,331,332,334,335,337,338,339,341,342,344,345,346,347,348,349,350,353,360,362,363,365,366,367,369,370,372,373,374,376,377,379,380,381,383,384,386,387,388,389,390,393,400,402,403,405,406,407,409,410,412,413,414,416,417,419,420,421,422,423,426,429,430,431,433,434,436,437,438,440,441,443,444,445,447,448,450,451,452,454,455,457,458,459,461,462,464,465,466,468,469,471,472,473,475,476,478,479,487,490,491,492,495,496,497,500,501,502,505,506,507,509,510,512,513,514,516,517,519,520,521,523,524,526,527,528,531,532,533,536,537,538,539,540,541,542,545,548,549,550,552,553,555,556,557,559,560,562,563,564,566,567,569,570,571,573,574,576,577,578,580,581,583,584,585,588,589,590,593,594,595,597,598,600,601,602,604,605,607,608,609,611,612,614,615,616,619,620,621,623,624,626,627,628,630,631,633,634,635,637,638,640,641,642,644,645,647,648,649,652,653,654,656,657,659,660,661,663,664,666,667,668,671,672,673,676,677,678,680,681,683,684,685,687,688,690,691,692,694,695,697,698,699,701,702,704,705,706,708,709,711,712,713,716,717]
def K(P:Params):Frag:=as.map λa=>(a,(LF P).getD a (su 0))
def hook:Hook:=kHook K as (λ_=>by kernel_rfl)
abbrev rr:RowW:=(PySem.Challenge.rw_dialvault_k91_whole_pulls_and_weights.row).toRowW
def Xt:Shared->Bool:=λs=>xlAt vw [] s&&recOk (RowW.records rr) s
def H1(P:Params):Heap:=⟨⟨LF P⟩,{}⟩
end
theorem JU:∀ w:World,((boot_heap w.params).isNs mainGlobals&&(Array.mk []:Array GenState).size==0,(boot_heap w.params).objs.size,(boot_heap w.params).nsMap mainGlobals "__annotations__")=(true,11,ann):=λw=>by
 rw[PySem.W.Fast.te8920871248978507458]
 kernel_rfl
theorem Mt(w:World):staticsOk (importedModules pw.main.body) (boot_heap w.params) (H1 w.params)=true:=by
 first | (rw[PySem.W.Fast.te4187177175401517315,PySem.W.Fast.te5923862056798008813];kernel_rfl) | (rw[PySem.W.Fast.te4187177175401517315];kernel_rfl) | (rw[PySem.W.Fast.te5923862056798008813];kernel_rfl) | (kernel_rfl)
theorem MB(w:World):namesBound pw (H1 w.params)=true:=by
 first | (rw[PySem.W.Fast.te4187177175401517315,PySem.W.Fast.te5923862056798008813];kernel_rfl) | (rw[PySem.W.Fast.te4187177175401517315];kernel_rfl) | (rw[PySem.W.Fast.te5923862056798008813];kernel_rfl) | (kernel_rfl)
theorem Mc(w:World)(os:_):gensDone ⟨H1 w.params,⟨[]⟩,⟨0,0,0,0⟩,1135,os⟩=true:=by
 first | (rw[PySem.W.Fast.te4187177175401517315,PySem.W.Fast.te5923862056798008813];kernel_rfl) | (rw[PySem.W.Fast.te4187177175401517315];kernel_rfl) | (rw[PySem.W.Fast.te5923862056798008813];kernel_rfl) | (kernel_rfl)
theorem Mp(w:World):laidKept (boot_heap w.params) (H1 w.params)=true:=by
 first | (rw[PySem.W.Fast.te4187177175401517315,PySem.W.Fast.te5923862056798008813];kernel_rfl) | (rw[PySem.W.Fast.te4187177175401517315];kernel_rfl) | (rw[PySem.W.Fast.te5923862056798008813];kernel_rfl) | (kernel_rfl)
theorem Mm(w:World)(os:_):openSeen vw loose (importedModules pw.main.body) Xt true ⟨H1 w.params,⟨[]⟩,⟨0,0,0,0⟩,1135,os⟩=openGood vw loose:=by
 first | (rw[PySem.W.Fast.te4187177175401517315,PySem.W.Fast.te5923862056798008813];kernel_rfl) | (rw[PySem.W.Fast.te4187177175401517315];kernel_rfl) | (rw[PySem.W.Fast.te5923862056798008813];kernel_rfl) | (kernel_rfl)
theorem MF(w:World)(os:_):Hook.obs hook ⟨H1 w.params,⟨[]⟩,⟨0,0,0,0⟩,1135,os⟩=Hook.val hook w:=by
 first | (rw[PySem.W.Fast.te4187177175401517315,PySem.W.Fast.te5923862056798008813];kernel_rfl) | (rw[PySem.W.Fast.te4187177175401517315];kernel_rfl) | (rw[PySem.W.Fast.te5923862056798008813];kernel_rfl) | (kernel_rfl)
theorem FX:∀ w:World,(λos=>((staticsOk (importedModules pw.main.body) (boot_heap w.params) (H1 w.params)&&namesBound pw (H1 w.params)&&gensDone ⟨H1 w.params,⟨[]⟩,⟨0,0,0,0⟩,1135,os⟩&&laidKept (boot_heap w.params) (H1 w.params)),
  openSeen vw loose (importedModules pw.main.body) Xt true ⟨H1 w.params,⟨[]⟩,⟨0,0,0,0⟩,1135,os⟩,Hook.obs hook ⟨H1 w.params,⟨[]⟩,⟨0,0,0,0⟩,1135,os⟩))=λ_=>(true,openGood vw loose,Hook.val hook w):=λw=>funext λos=>by
 rw[Mt,MB,Mc,Mp,Mm,MF];rfl
theorem Jh:LeftO pw vw loose Xt (Hook.obs hook) (Hook.val hook) 10180 :=
 LeftO.of_pieces (H₀:=boot_heap) (H₁:=H1) (gs₀:=⟨[]⟩) (gs₁:=⟨[]⟩) (d₀:=boot_drawn) (d₁:=⟨0,0,0,0⟩) (k₀:=boot_toks) (k₁:=1135) (m₀:=11) (ann:=ann) (M:=(12+(1+(1326+(1478+(1499+(728+2)))))))
  (boot_open (by kernel_rfl) (by kernel_rfl) (λs=>by kernel_rfl)) JU KJ (by kernel_rfl) FX
end HD
open PySem PySem.W
theorem HD.said:PySem.Challenge.rw_dialvault_k91_whole_pulls_and_weights.wellSaid=true:=by
 decide +kernel
namespace vW
open PySem L2 PyProof.Rows
def eP:Addr:=423
def gj:Addr:=65
def jb:Addr:=91
def hG:Addr:=117
def j7:Addr:=136
def au:Addr:=540
def ki:Addr:=155
def ay:Addr:=244
def eH:Addr:=390
abbrev cI(i:Int):af->M PV:=λ_=>M.ok (.int i)
def jD:af->M Out :=
 (aq (retS (zc (CP (λa=>oa a "int") t8 t8 (ae 0)) (Hz (CP (λa=>oa a "bool") t8 t8 (ae 0)))))
 ar)
def fD:List PV->M PV:=a_ 1 (ax 1 jD)
def kb:af->M Out :=
 (aq (jJ (CQ (kH (dH (CP (λa=>["list", "tuple"].any λt=>oa a t) t8 t8 (ae 0)))) (dH (aj mM (ai dP (aa (ae 0) ao)) (ae 1)))) (aq (retS (λ_=>M.ok (.bl false)))
 ar) ar)
 (aq (retS (ai uZ (aa (cS (cA (itemsOf (ae 0)) (bG 0) none (ai fD (aa (ae 0) ao)) 1 [])) ao)))
 ar))
def f9:List PV->M PV:=a_ 2 (ax 2 kb)
def jU:af->M Out :=
 (aq (bb 2 (jm (aa (ae 0) (aa (cI 1) (aa (cI 0) ao)))))
 (aq (bb 3 (jm (aa (ae 1) (aa (cI 0) (aa (cI 1) ao)))))
 (aq (kW (dH (aj mM (aj aT (ae 3) (cI 0)) (cI 0))) (aq (bb 4 (aj bw (aj aT (ae 2) (cI 0)) (aj aT (ae 3) (cI 0))))
 (aq (bb 5 (jm (aa (aj iQ (aj aT (ae 2) (cI 0)) (aj bY (ae 4) (aj aT (ae 3) (cI 0)))) (aa (aj iQ (aj aT (ae 2) (cI 1)) (aj bY (ae 4) (aj aT (ae 3) (cI 1)))) (aa (aj iQ (aj aT (ae 2) (cI 2)) (aj bY (ae 4) (aj aT (ae 3) (cI 2)))) ao)))))
 (aq (bb 2 (ae 3))
 (aq (bb 3 (ae 5))
 ar)))))
 (aq (jJ (dH (aj CO (aj aT (ae 2) (cI 0)) (cI 0))) (aq (retS (jm (aa (j8 (aj aT (ae 2) (cI 0))) (aa (j8 (aj aT (ae 2) (cI 1))) (aa (j8 (aj aT (ae 2) (cI 2))) ao)))))
 ar) ar)
 (aq (retS (ae 2))
 ar)))))
def gg:List PV->M PV:=a_ 2 (ax 6 jU)
def fN:af->M Out :=
 (aq (bb 1 (cI 1))
 (aq (f6 (itemsOf (ae 0)) (bG 2) (aq (bb 1 (aj bY (aj bw (ae 1) (aj aT (ai gg (aa (ae 1) (aa (ae 2) ao))) (cI 0))) (ae 2)))
 ar))
 (aq (retS (ae 1))
 ar)))
def fM:List PV->M PV:=a_ 1 (ax 3 fN)
def eX:af->M Out :=
 (aq (bb 1 (cI 1))
 (aq (f6 (itemsOf (ae 0)) (bG 2) (aq (bb 1 (aj bY (ae 1) (ae 2)))
 ar))
 (aq (retS (ae 1))
 ar)))
def fu:List PV->M PV:=a_ 1 (ax 3 eX)
def jl:af->M Out :=
 (aq (retS (ai cO (aa (cS (cA (jS nK (aa (ae 0) ao)) (bG 0) none (zC (dH (aj kr (ae 0) (ae 1))) (cI 1) (cI 0)) 1 [1])) ao)))
 ar)
def jB:List PV->M PV:=a_ 2 (ax 2 jl)
def jv:af->M Out :=
 (aq (retS (aj cP (ai yq (aa (cS (cA (jS zip2 (aa (ae 0) (aa (ae 1) ao))) (bQ 0 1) none (aj bY (ae 0) (ae 1)) 2 [])) ao)) (ae 2)))
 ar)
def jg:List PV->M PV:=a_ 3 (ax 3 jv)
def eI:af->M Out :=
 (aq (retS (zc (ai fD (aa (ae 0) ao)) (k4 C8 C8 (ae 1) (ae 0) (ae 2))))
 ar)
def dF:List PV->M PV:=a_ 3 (ax 3 eI)
def gI:af->M Out :=
 (aq (jJ (dH (aj Iq (ai dP (aa (ae 0) ao)) (cI 6))) (aq (mC ki (aa (λ_=>M.ok (.str "a vault has at most six dials")) ao))
 ar) ar)
 (aq (jJ (dH (aj kr (ai dP (aa (ae 0) ao)) (cI 0))) (aq (jA gj "dial" (aa (cI 0) ao))
 ar) ar)
 (aq (f6 (jS CK (aa (ae 0) ao)) (bQ 1 2) (aq (jJ (kH (dH (ai dF (aa (ae 2) (aa (cI 2) (aa (cI 360) ao)))))) (aq (jA gj "dial" (aa (ae 1) ao))
 ar) ar)
 ar))
 ar)))
def gL:List PV->M PV:=a_ 1 (ax 3 gI)
def fW:af->M Out :=
 (aq (jJ (dH (aj Iq (ai dP (aa (ae 0) ao)) (cI 8))) (aq (mC ki (aa (λ_=>M.ok (.str "a vault has at most eight levers")) ao))
 ar) ar)
 (aq (f6 (jS CK (aa (ae 0) ao)) (bQ 2 3) (aq (jJ (kH (dH (ai f9 (aa (ae 3) (aa (ae 1) ao))))) (aq (jA jb "lever" (aa (ae 2) ao))
 ar) ar)
 ar))
 ar))
def fU:List PV->M PV:=a_ 2 (ax 4 fW)
def gC:af->M Out :=
 (aq (jJ (dH (aj w6 (ae 1) (λ_=>M.ok .cR))) (aq (retS (aj bY (jm (aa (cI 1) ao)) (ai dP (aa (ae 0) ao))))
 ar) ar)
 (aq (f6 (jS nK (aa (ai (E8 λi j=>if j>i then j else i) (aa (ai dP (aa (ae 0) ao)) (aa (ai dP (aa (ae 1) ao)) ao))) ao)) (bG 2) (aq (jJ (CQ (dH (aj Iu (ae 2) (ai dP (aa (ae 0) ao)))) (dH (aj Iu (ae 2) (ai dP (aa (ae 1) ao))))) (aq (jA hG "lever" (aa (ae 2) ao))
 ar) ar)
 (aq (jJ (kH (dH (ai dF (aa (aj aT (ae 1) (ae 2)) (aa (cI 1) (aa (cI 1000) ao)))))) (aq (jA hG "lever" (aa (ae 2) ao))
 ar) ar)
 ar)))
 (aq (retS (ai cO (aa (ae 1) ao)))
 ar)))
def gU:List PV->M PV:=a_ 2 (ax 3 gC)
def kl:af->M Out :=
 (aq (retS (ai cO (aa (cS (cA (jS zip2 (aa (ae 0) (aa (ae 1) ao))) (bQ 0 1) none (aj cP (ae 0) (ae 1)) 2 [])) ao)))
 ar)
def ji:List PV->M PV:=a_ 2 (ax 2 kl)
def lN:af->M Out :=
 (aq (retS (ai cO (aa (cS (cA (jS zip2 (aa (ae 0) (aa (ae 2) ao))) (bQ 0 1) none (aj fE (aj bY (ae 2) (ae 0)) (aj bY (ae 3) (ae 1))) 2 [1,3])) ao)))
 ar)
def kh:List PV->M PV:=a_ 4 (ax 4 lN)
def eZ:af->M Out :=
 (aq (bb 5 (ai kh (aa (aj aT (ae 1) (cI 0)) (aa (ae 2) (aa (aj aT (ae 3) (cI 0)) (aa (ae 4) ao))))))
 (aq (retS (jm (aa (ai ji (aa (ae 5) (aa (ae 0) ao))) (aa (ai kh (aa (aj aT (ae 1) (cI 1)) (aa (ae 2) (aa (aj aT (ae 3) (cI 1)) (aa (ae 4) ao))))) ao))))
 ar))
def dJ:List PV->M PV:=a_ 5 (ax 6 eZ)
def eN:af->M Out :=
 (aq (bb 3 (aj aT (aj aT (aj aT (ae 1) (ae 2)) (cI 0)) (ae 2)))
 (aq (retS (zC (dH (aj kr (ae 3) (cI 0))) (aj aT (ae 0) (ae 2)) (ae 3)))
 ar))
def dw:List PV->M PV:=a_ 3 (ax 4 eN)
def jh:af->M Out :=
 (aq (n9 3 (jN ao))
 (aq (f6 (jS CK (aa (ae 1) ao)) (bQ 4 5) (aq (bb 6 (ai dw (aa (ae 0) (aa (ae 1) (aa (ae 4) ao)))))
 (aq (bb 7 (aj aT (aj aT (ae 2) (cI 0)) (ae 4)))
 (aq (bb 8 (ai gg (aa (ae 6) (aa (ae 7) ao))))
 (aq (iW 3 (ai dJ (aa (ae 0) (aa (ae 5) (aa (aj aT (ae 8) (cI 1)) (aa (ae 2) (aa (aj aT (ae 8) (cI 2)) ao)))))))
 (aq (bb 2 (ai dJ (aa (ae 0) (aa (ae 2) (aa (aj bw (ae 6) (aj aT (ae 8) (cI 0))) (aa (ae 5) (aa (j8 (aj bw (ae 7) (aj aT (ae 8) (cI 0)))) ao)))))))
 ar))))))
 (aq (nI [3] (retS (jm (aa (ae 3) (aa (aj aT (ae 2) (cI 1)) ao)))))
 ar)))
def jz:List PV->M PV:=a_ 3 (ax 9 jh)
def i0:af->M Out :=
 (aq (f6 (jS yP (aa (ae 3) (aa (ai dP (aa (ae 0) ao)) ao))) (bG 4) (aq (bb 5 (aj bw (aj aT (aj aT (ae 2) (cI 0)) (ae 4)) (ai dw (aa (ae 0) (aa (ae 1) (aa (ae 4) ao))))))
 (aq (bb 2 (ai dJ (aa (ae 0) (aa (ae 2) (aa (cI 1) (aa (aj aT (ae 1) (ae 4)) (aa (j8 (ae 5)) ao)))))))
 ar)))
 (aq (retS (ae 2))
 ar))
def fG:List PV->M PV:=a_ 4 (ax 6 i0)
def ig:af->M Out :=
 (aq (f6 (jS zq (aa (aj iQ (ai dP (aa (ae 1) ao)) (cI 1)) (aa (j8 (cI 1)) (aa (j8 (cI 1)) ao)))) (bG 2) (aq (bb 3 (aj aT (ae 1) (ae 2)))
 (aq (bb 0 (ai kh (aa (ae 0) (aa (cI 1) (aa (ae 3) (aa (j8 (aj bw (aj aT (ae 0) (ae 2)) (aj aT (ae 3) (ae 2)))) ao))))))
 ar)))
 (aq (retS (ae 0))
 ar))
def ij:List PV->M PV:=a_ 2 (ax 4 ig)
def fc:af->M Out :=
 (aq (retS (zW (cS (cA (itemsOf (ae 0)) (bG 0) none (aj mM (ae 0) (cI 0)) 1 [])) (λ_=>M.ok (.bl true))))
 ar)
def fb:List PV->M PV:=a_ 1 (ax 1 fc)
def f7:af->M Out :=
 (aq (jJ (dH (aj CO (ae 1) (ai dP (aa (ae 0) ao)))) (aq (retS (aj aT (ae 0) (ae 1)))
 ar) ar)
 (aq (retS (cI 0))
 ar))
def cB:List PV->M PV:=a_ 2 (ax 2 f7)
def cH:af->M Out :=
 (aq (n9 2 (jN ao))
 (aq (bb 3 (aj fE (aj cP (ae 0) (cI 2147483629)) (cI 17)))
 (aq (f6 (jS nK (aa (ae 1) ao)) (bG 4) (aq (bb 3 (aj cP (aj fE (aj fE (aj bY (ae 3) (cI 48271)) (aj bY (cI 7919) (ae 4))) (cI 1)) (cI 2147483647)))
 (aq (iW 2 (aj bw (ae 3) (cI 5)))
 ar)))
 (aq (nI [2] (retS (ae 2)))
 ar))))
def cL:List PV->M PV:=a_ 2 (ax 5 cH)
def cM:af->M Out :=
 (aq (n9 2 (jN ao))
 (aq (bb 3 (ae 0))
 (aq (f6 (itemsOf (ae 1)) (bG 4) (aq (iW 2 (aj cP (ae 3) (ae 4)))
 (aq (bb 3 (aj bw (ae 3) (ae 4)))
 ar)))
 (aq (nI [2] (retS (ae 2)))
 ar))))
def cG:List PV->M PV:=a_ 2 (ax 5 cM)
def gM:af->M Out :=
 (aq (bb 1 (aj fE (cI 1) (aj cP (aj bw (ae 0) (cI 2)) (cI 6))))
 (aq (jJ (dH (aj kr (aj cP (ae 0) (cI 2)) (cI 1))) (aq (retS (cS (cA (itemsOf (ai cG (aa (aj bw (ae 0) (cI 12)) (aa (aj bY (rh (aa (cI 359) ao)) (ae 1)) ao)))) (bG 0) none (aj fE (cI 2) (ae 0)) 1 [])))
 ar) ar)
 (aq (n9 2 (jN ao))
 (aq (f6 (itemsOf (ai cL (aa (aj bw (ae 0) (cI 12)) (aa (ae 1) ao)))) (bG 3) (aq (jJ (dH (aj kr (aj cP (aj bw (ae 0) (cI 12)) (cI 2)) (cI 0))) (aq (iW 2 (aj aT (λ_=>M.ok (.lst (([2,3,4,6,8,9,12,16,24,27,32,36,64,72,81,128,243,256,360]:List Int).map PV.int))) (aj cP (ae 3) (cI 19))))
 ar) (aq (iW 2 (aj bY (cI 12) (aj fE (cI 1) (aj cP (ae 3) (cI 30)))))
 ar))
 ar))
 (aq (nI [2] (retS (ae 2)))
 ar)))))
def g8:List PV->M PV:=a_ 1 (ax 4 gM)
def e7:af->M Out :=
 (aq (retS (aj iQ (aj cP (aj bY (ae 0) (cI 618033988749894848204586834365)) (aj iQ (aj bY (cI 2) (aj vC (cI 10) (cI 30))) (cI 1))) (aj iQ (aj vC (cI 10) (cI 30)) (cI 1))))
 ar)
def e6:List PV->M PV:=a_ 1 (ax 1 e7)
def gz:af->M Out :=
 (aq (n9 2 (jN ao))
 (aq (f6 (jS zip2 (aa (ai cL (aa (ae 0) (aa (ai dP (aa (ae 1) ao)) ao))) (aa (ae 1) ao))) (bQ 3 4) (aq (jJ (dH (aj kr (aj cP (ae 3) (cI 4)) (cI 0))) (aq (iW 2 (ai e6 (aa (aj bw (ae 3) (cI 4)) ao)))
 ar) (aq (jJ (dH (aj kr (aj cP (ae 3) (cI 4)) (cI 1))) (aq (iW 2 (cI 0))
 ar) (aq (bb 5 (aj aT (λ_=>M.ok (.lst (([1,1,2,3,4,6,12]:List Int).map PV.int))) (aj cP (aj bw (ae 3) (cI 4)) (cI 7))))
 (aq (iW 2 (aj cP (aj bY (aj cP (aj bw (ae 3) (cI 28)) (ae 4)) (ae 5)) (ae 4)))
 ar)))
 ar))
 ar))
 (aq (nI [2] (retS (ae 2)))
 ar)))
def gP:List PV->M PV:=a_ 2 (ax 6 gz)
def fO:af->M Out :=
 (aq (n9 2 (jN ao))
 (aq (f6 (jS nK (aa (aj cP (ai cB (aa (ae 0) (aa (cI 1) ao))) (cI 9)) ao)) (bG 3) (aq (bb 4 (ai cB (aa (ae 0) (aa (aj fE (cI 2) (ae 3)) ao))))
 (aq (jJ (dH (aj kr (aj cP (aj bw (ai cB (aa (ae 0) (aa (cI 1) ao))) (cI 9)) (cI 2)) (cI 1))) (aq (iW 2 (ai cG (aa (ae 4) (aa (ae 1) ao))))
 ar) (aq (iW 2 (ai gP (aa (aj fE (ae 4) (aj bY (cI 7919) (ae 3))) (aa (ae 1) ao))))
 ar))
 ar)))
 (aq (nI [2] (retS (ae 2)))
 ar)))
def fJ:List PV->M PV:=a_ 2 (ax 5 fO)
def gY:af->M Out :=
 (aq (bb 1 (cI 1))
 (aq (f6 (itemsOf (ae 0)) (bG 2) (aq (Cj 3 4 (aa (ae 1) (aa (ae 2) ao)))
 (aq (kW (dH (aj mM (ae 4) (cI 0))) (aq (Cj 3 4 (aa (ae 4) (aa (aj cP (ae 3) (ae 4)) ao)))
 ar))
 (aq (bb 1 (aj bY (aj bw (ae 1) (ae 3)) (ae 2)))
 ar))))
 (aq (retS (ae 1))
 ar)))
def gG:List PV->M PV:=a_ 1 (ax 5 gY)
def fj:af->M Out :=
 (aq (retS (ai cO (aa (cS (cA (jS wW (aa (ae 1) (aa (ae 2) (aa (ae 0) ao)))) (nh 0 1 2) none (aj cP (aj fE (ae 0) (aj bY (ae 3) (ae 1))) (ae 2)) 3 [3])) ao)))
 ar)
def c9:List PV->M PV:=a_ 4 (ax 4 fj)
def dj:af->M Out :=
 (aq (bb 4 (ai cO (aa (ae 2) ao)))
 (aq (f6 (jS zip2 (aa (ae 1) (aa (ae 3) ao))) (bQ 5 6) (aq (bb 4 (ai c9 (aa (ae 0) (aa (ae 4) (aa (ae 5) (aa (ae 6) ao))))))
 ar))
 (aq (retS (ae 4))
 ar)))
def ck:List PV->M PV:=a_ 4 (ax 7 dj)
def eV:af->M Out :=
 (aq (bb 3 (ai gG (aa (ae 0) ao)))
 (aq (bb 4 (cI 0))
 (aq (f6 (jS wW (aa (ae 1) (aa (ae 2) (aa (ae 0) ao)))) (nh 5 6 7) (aq (bb 4 (aj fE (ae 4) (aj bY (aj bY (ae 5) (ae 6)) (aj bw (ae 3) (ae 7)))))
 ar))
 (aq (retS (aj cP (ae 4) (ae 3)))
 ar))))
def dz:List PV->M PV:=a_ 3 (ax 8 eV)
def fm:af->M Out :=
 (aq (jJ (dH (aj kr (aj cP (ae 0) (cI 2)) (cI 1))) (aq (retS (ai cO (aa (ai cG (aa (aj bw (ae 0) (cI 2)) (aa (ae 1) ao))) ao)))
 ar) ar)
 (aq (retS (ai cO (aa (cS (cA (jS zip2 (aa (ai cL (aa (aj bw (ae 0) (cI 2)) (aa (ai dP (aa (ae 1) ao)) ao))) (aa (ae 1) ao))) (bQ 0 1) none (aj cP (ae 0) (ae 1)) 2 [])) ao)))
 ar))
def cV:List PV->M PV:=a_ 2 (ax 2 fm)
def gR:af->M Out :=
 (aq (jJ (dH (aj kr (aj cP (ae 0) (cI 2)) (cI 1))) (aq (retS (ai cO (aa (cS (cA (itemsOf (ai cG (aa (aj bw (ae 0) (cI 2)) (aa (aj bY (rh (aa (aj iQ (aj bY (cI 2) (aj vC (cI 10) (cI 30))) (cI 1)) ao)) (ae 1)) ao)))) (bG 0) none (aj iQ (ae 0) (aj iQ (aj vC (cI 10) (cI 30)) (cI 1))) 1 [])) ao)))
 ar) ar)
 (aq (n9 2 (jN ao))
 (aq (f6 (itemsOf (ai cL (aa (aj bw (ae 0) (cI 2)) (aa (ae 1) ao)))) (bG 3) (aq (iW 2 (aj aT (rh (aa (aj iQ (aj cP (aj bw (ae 3) (cI 2)) (cI 9)) (cI 4)) (aa (ai e6 (aa (aj bw (ae 3) (cI 2)) ao)) ao))) (aj cP (ae 3) (cI 2))))
 ar))
 (aq (nI [2] (retS (ai cO (aa (ae 2) ao))))
 ar))))
def e_:List PV->M PV:=a_ 2 (ax 4 gR)
def eT:af->M Out :=
 (aq (bb 1 (cI 1))
 (aq (f6 (itemsOf (ae 0)) (bG 2) (aq (bb 1 (aj bY (ae 1) (ae 2)))
 ar))
 (aq (retS (ae 1))
 ar)))
def ff:List PV->M PV:=a_ 1 (ax 3 eT)
def eS:af->M Out :=
 (aq (f6 (itemsOf (ae 1)) (bG 4) (aq (jJ (dH (aj mM (ai dz (aa (ae 0) (aa (ae 4) (aa (ae 2) ao)))) (ai dz (aa (ae 0) (aa (ae 4) (aa (ae 3) ao)))))) (aq (retS (λ_=>M.ok (.bl false)))
 ar) ar)
 ar))
 (aq (retS (λ_=>M.ok (.bl true)))
 ar))
def cj:List PV->M PV:=a_ 4 (ax 5 eS)
def jt:af->M Out :=
 (aq (kK (ai gL (aa (ae 1) ao)))
 (aq (kK (ai fU (aa (ae 2) (aa (ai dP (aa (ae 1) ao)) ao))))
 (aq (jx 0 ay "dial_sizes" (ai cO (aa (ae 1) ao)))
 (aq (jx 0 ay "lever_settings" (ai cO (aa (cS (cA (itemsOf (ae 2)) (bG 0) none (ai ji (aa (ae 0) (aa (ae 1) ao))) 1 [1])) ao)))
 (aq (jx 0 ay "lever_prices" (ai gU (aa (ae 2) (aa (ae 3) ao))))
 (aq (jx 0 ay "least_round" (ai fM (aa (ae 1) ao)))
 ar))))))
def eC:Addr->List PV->M (List (Str×PV)):=l7 4 (qL 4 jt ay)
def a0:af->M Out :=
 (aq (retS (dI (λc=>c==ay) "dial_sizes" (ae 0)))
 ar)
def aP:List PV->M PV:=a_ 1 (ax 1 a0)
def bU:af->M Out :=
 (aq (retS (dI (λc=>c==ay) "lever_settings" (ae 0)))
 ar)
def bf:List PV->M PV:=a_ 1 (ax 1 bU)
def j6:af->M Out :=
 (aq (retS (dI (λc=>c==ay) "lever_prices" (ae 0)))
 ar)
def o_:List PV->M PV:=a_ 1 (ax 1 j6)
def dE:af->M Out :=
 (aq (retS (dI (λc=>c==ay) "least_round" (ae 0)))
 ar)
def cW:List PV->M PV:=a_ 1 (ax 1 dE)
def e9:af->M Out :=
 (aq (retS (λ_=>M.ok (.bl false)))
 ar)
def eU:List PV->M PV:=a_ 1 (ax 1 e9)
def k8:af->M Out :=
 (aq (jx 0 eH "pulls" (ae 1))
 ar)
def ph:Addr->List PV->M (List (Str×PV)):=l7 2 (qL 2 k8 eH)
def gO:af->M Out :=
 (aq (retS (λ_=>M.ok (.bl true)))
 ar)
def gH:List PV->M PV:=a_ 1 (ax 1 gO)
def iz:af->M Out :=
 (aq (retS (jm (aa (λ_=>M.ok (.str "pulls")) (aa (dI (λc=>c==eH) "pulls" (ae 0)) ao))))
 ar)
def iI:List PV->M PV:=a_ 1 (ax 1 iz)
def k6:af->M Out :=
 (aq (jx 0 eP "weights" (ae 1))
 ar)
def pK:Addr->List PV->M (List (Str×PV)):=l7 2 (qL 2 k6 eP)
def iy:af->M Out :=
 (aq (retS (jm (aa (λ_=>M.ok (.str "weights")) (aa (dI (λc=>c==eP) "weights" (ae 0)) ao))))
 ar)
def iD:List PV->M PV:=a_ 1 (ax 1 iy)
def dW:af->M Out :=
 (aq (bb 1 (bo ay "sizes" aP (dI (λc=>c==au) "vault" (ae 0)) ao))
 (aq (retS (ai cO (aa (cS (cA (jS nK (aa (ai dP (aa (ae 1) ao)) ao)) (bG 0) none (ai dw (aa (ae 2) (aa (dI (λc=>c==au) "made_rows" (ae 1)) (aa (ae 0) ao)))) 1 [0,1])) ao)))
 ar))
def d_:List PV->M PV:=a_ 1 (ax 2 dW)
def gD:af->M Out :=
 (aq (retS (cS (cA (itemsOf (dI (λc=>c==au) "made_rows" (ae 0))) (bG 0) none (aj aT (ae 0) (cI 0)) 1 [])))
 ar)
def gX:List PV->M PV:=a_ 1 (ax 1 gD)
def fV:af->M Out :=
 (aq (retS (ai cO (aa (cS (cA (jS CK (aa (dI (λc=>c==au) "idle_rows" (ae 0)) ao)) (bQ 0 1) none (aj aT (ae 1) (ae 0)) 2 [])) ao)))
 ar)
def fZ:List PV->M PV:=a_ 1 (ax 1 fV)
def hX:af->M Out :=
 (aq (retS (aj bY (jm (aa (cI 0) ao)) (ai dP (aa (bo ay "sizes" aP (ae 0) ao) ao))))
 ar)
def gc:List PV->M PV:=a_ 1 (ax 1 hX)
def gK:af->M Out :=
 (aq (bb 2 (bo ay "sizes" aP (ae 0) ao))
 (aq (jJ (CQ (kH (dH (CP (λa=>oa a "tuple") t8 t8 (ae 1)))) (kH (dH (ai f9 (aa (ae 1) (aa (ai dP (aa (ae 2) ao)) ao)))))) (aq (retS (λ_=>M.ok (.bl false)))
 ar) ar)
 (aq (retS (ai uZ (aa (cS (cA (jS zip2 (aa (ae 1) (aa (ae 2) ao))) (bQ 0 1) none (k4 C8 CO (cI 0) (ae 0) (ae 1)) 2 [])) ao)))
 ar)))
def gA:List PV->M PV:=a_ 2 (ax 3 gK)
def cX:af->M Out :=
 (aq (jJ (kH (dH (ai gA (aa (ae 0) (aa (ae 1) ao))))) (aq (mC j7 (aa (λ_=>M.ok (.str "this is no setting of the vault")) ao))
 ar) ar)
 ar)
def bR:List PV->M PV:=a_ 2 (ax 2 cX)
def oy:af->M Out :=
 (aq (bb 4 (cS (cA (jS zip2 (aa (ae 1) (aa (ae 2) ao))) (bQ 0 1) none (aj fE (ae 0) (aj bY (ae 2) (ae 1))) 2 [3])))
 (aq (retS (ai ji (aa (ae 4) (aa (bo ay "sizes" aP (ae 0) ao) ao))))
 ar))
def oG:List PV->M PV:=a_ 4 (ax 5 oy)
def i7:af->M Out :=
 (aq (kK (ai bR (aa (ae 0) (aa (ae 1) ao))))
 (aq (kK (ai bR (aa (ae 0) (aa (ae 2) ao))))
 (aq (retS (ai oG (aa (ae 0) (aa (ae 2) (aa (ae 1) (aa (j8 (cI 1)) ao))))))
 ar)))
def jd:List PV->M PV:=a_ 3 (ax 3 i7)
def om:af->M Out :=
 (aq (kK (ai bR (aa (ae 0) (aa (ae 1) ao))))
 (aq (kK (ai bR (aa (ae 0) (aa (ae 2) ao))))
 (aq (bb 3 (bo ay "around" cW (ae 0) ao))
 (aq (bb 4 (cS (cA (jS zip2 (aa (ae 1) (aa (bo ay "sizes" aP (ae 0) ao) ao))) (bQ 0 1) none (aj bY (ae 0) (aj bw (ae 2) (ae 1))) 2 [3])))
 (aq (retS (ai jg (aa (ae 4) (aa (ae 2) (aa (ae 3) ao)))))
 ar)))))
def oF:List PV->M PV:=a_ 3 (ax 5 om)
def ia:af->M Out :=
 (aq (retS (jm (aa (ae 1) (aa (aj bY (jm (aa (cI 0) ao)) (ai dP (aa (bo ay "levers" bf (ae 0) ao) ao))) ao))))
 ar)
def fH:List PV->M PV:=a_ 2 (ax 2 ia)
def fI:af->M Out :=
 (aq (bb 2 (bo ay "levers" bf (ae 0) ao))
 (aq (retS (jm (aa (aj aT (ae 2) (ae 1)) (aa (ai jB (aa (ai dP (aa (ae 2) ao)) (aa (ae 1) ao))) ao))))
 ar))
def fY:List PV->M PV:=a_ 2 (ax 3 fI)
def jw:af->M Out :=
 (aq (bb 2 (bo ay "sizes" aP (ae 1) ao))
 (aq (bb 3 (cS (cA (itemsOf (ae 2)) (bG 0) none (ai fH (aa (ae 1) (aa (ai gc (aa (ae 1) ao)) ao))) 1 [1])))
 (aq (n9 4 (jN ao))
 (aq (f6 (jS nK (aa (ai dP (aa (bo ay "levers" bf (ae 1) ao) ao)) ao)) (bG 5) (aq (bb 6 (ai jz (aa (ae 2) (aa (ae 3) (aa (ai fY (aa (ae 1) (aa (ae 5) ao))) ao)))))
 (aq (bb 3 (aj aT (ae 6) (cI 0)))
 (aq (iW 4 (vt 4 (ai ij (aa (aj aT (ae 6) (cI 1)) (aa (ae 4) ao)))))
 ar))))
 (aq (jx 0 au "vault" (ae 1))
 (aq (jx 0 au "made_rows" (cS (cA (jS CK (aa (ae 3) ao)) (bQ 0 1) none (ai fG (aa (ae 2) (aa (ae 3) (aa (ae 1) (aa (aj fE (ae 0) (cI 1)) ao))))) 2 [2,3])))
 (aq (nI [4] (jx 0 au "idle_rows" (ae 4)))
 ar)))))))
def bI:Addr->List PV->M (List (Str×PV)):=l7 2 (qL 7 jw au)
def bT:af->M Out :=
 (aq (kK (ai bR (aa (dI (λc=>c==au) "vault" (ae 0)) (aa (ae 1) ao))))
 (aq (retS (ai fG (aa (bo ay "sizes" aP (dI (λc=>c==au) "vault" (ae 0)) ao) (aa (dI (λc=>c==au) "made_rows" (ae 0)) (aa (ai fH (aa (dI (λc=>c==au) "vault" (ae 0)) (aa (ae 1) ao))) (aa (cI 0) ao))))))
 ar))
def bx:List PV->M PV:=a_ 2 (ax 2 bT)
def dq:af->M Out :=
 (aq (retS (aj aT (bo au "brought_down" bx (ae 0) (aa (ae 1) ao)) (cI 0)))
 ar)
def dh:List PV->M PV:=a_ 2 (ax 2 dq)
def cn:af->M Out :=
 (aq (bb 2 (bo au "brought_down" bx (ae 0) (aa (ae 1) ao)))
 (aq (jJ (dH (aj mM (aj aT (ae 2) (cI 0)) (ai gc (aa (dI (λc=>c==au) "vault" (ae 0)) ao)))) (aq (retS (λ_=>M.ok .cR))
 ar) ar)
 (aq (retS (ai ij (aa (ai cO (aa (cS (cA (itemsOf (aj aT (ae 2) (cI 1))) (bG 0) none (j8 (ae 0)) 1 [])) ao)) (aa (dI (λc=>c==au) "idle_rows" (ae 0)) ao))))
 ar)))
def bP:List PV->M PV:=a_ 2 (ax 3 cn)
def cp:af->M Out :=
 (aq (bb 2 (bo ay "sizes" aP (dI (λc=>c==au) "vault" (ae 0)) ao))
 (aq (jJ (kH (dH (ai dF (aa (ae 1) (aa (cI 0) (aa (aj iQ (ai dP (aa (ae 2) ao)) (cI 1)) ao)))))) (aq (jA gj "dial" (aa (ae 1) ao))
 ar) ar)
 (aq (bb 3 (cS (cA (jS zip2 (aa (ae 2) (aa (bo au "steps" d_ (ae 0) ao) ao))) (bQ 0 1) none (aj bw (ae 0) (ae 1)) 2 [])))
 (aq (n9 4 (Ho (rh (aa (cI 0) ao)) (ai dP (aa (ae 2) ao))))
 (aq (JO 4 (ae 1) (aj cP (aj aT (ae 3) (ae 1)) (aj aT (ae 2) (ae 1))))
 (aq (f6 (jS zq (aa (aj iQ (ae 1) (cI 1)) (aa (j8 (cI 1)) (aa (j8 (cI 1)) ao)))) (bG 5) (aq (bb 6 (vt 4 (ai oF (aa (dI (λc=>c==au) "vault" (ae 0)) (aa (ai cO (aa (ae 4) ao)) (aa (aj aT (aj aT (dI (λc=>c==au) "made_rows" (ae 0)) (ae 5)) (cI 0)) ao))))))
 (aq (bb 7 (aj bw (bo ay "around" cW (dI (λc=>c==au) "vault" (ae 0)) ao) (aj aT (ae 3) (ae 5))))
 (aq (JO 4 (ae 5) (aj cP (j8 (aj bw (ae 6) (ae 7))) (aj aT (ae 3) (ae 5))))
 ar))))
 (aq (nI [4] (retS (ai cO (aa (ae 4) ao))))
 ar)))))))
def bp:List PV->M PV:=a_ 2 (ax 8 cp)
def lW:af->M Out :=
 (aq (bb 3 (ai jd (aa (ae 0) (aa (ae 1) (aa (ae 2) ao)))))
 (aq (bb 4 (ai (cY au bI []) (aa (ae 0) ao)))
 (aq (bb 5 (bo au "pulls_to" bP (ae 4) (aa (ae 3) ao)))
 (aq (jJ (dH (aj kn (ae 5) (λ_=>M.ok .cR))) (aq (retS (ai (cY eH ph []) (aa (ae 5) ao)))
 ar) ar)
 (aq (retS (ai (cY eP pK []) (aa (bo au "weights_at" bp (ae 4) (aa (ai fb (aa (bo au "least" dh (ae 4) (aa (ae 3) ao)) ao)) ao)) ao)))
 ar)))))
def kd:List PV->M PV:=a_ 3 (ax 6 lW)
def dO:af->M Out :=
 (aq (retS (ai fu (aa (bo au "spans" fZ (ai (cY au bI []) (aa (ae 0) ao)) ao) ao)))
 ar)
def cT:List PV->M PV:=a_ 1 (ax 1 dO)
def fX:af->M Out :=
 (aq (retS (ai fu (aa (bo au "steps" d_ (ai (cY au bI []) (aa (ae 0) ao)) ao) ao)))
 ar)
def dU:List PV->M PV:=a_ 1 (ax 1 fX)
def jj:af->M Out :=
 (aq (retS (bo au "least" dh (ai (cY au bI []) (aa (ae 0) ao)) (aa (ae 1) ao)))
 ar)
def ic:List PV->M PV:=a_ 2 (ax 2 jj)
def ly:af->M Out :=
 (aq (bb 3 (ai jd (aa (ae 0) (aa (ae 1) (aa (ae 2) ao)))))
 (aq (retS (aj kr (bo au "least" dh (ai (cY au bI []) (aa (ae 0) ao)) (aa (ae 3) ao)) (ai gc (aa (ae 0) ao))))
 ar))
def lU:List PV->M PV:=a_ 3 (ax 4 ly)
def oJ:af->M Out :=
 (aq (bb 1 (ai gc (aa (ae 0) ao)))
 (aq (retS (ai (cY ay eC [.cR]) (aa (bo ay "sizes" aP (ae 0) ao) (aa (cS (cA (itemsOf (bo au "rows" gX (ai (cY au bI []) (aa (ae 0) ao)) ao)) (bG 0) (some (dH (aj mM (ae 0) (ae 1)))) (ae 0) 1 [1])) ao))))
 ar))
def oq:List PV->M PV:=a_ 1 (ax 2 oJ)
def lQ:af->M Out :=
 (aq (bb 1 (ai (cY au bI []) (aa (ae 0) ao)))
 (aq (bb 2 (bo ay "sizes" aP (ae 0) ao))
 (aq (retS (ai oq (aa (ai (cY ay eC [.cR]) (aa (ae 2) (aa (cS (cA (jS nK (aa (ai dP (aa (ae 2) ao)) ao)) (bG 0) none (bo au "weights_at" bp (ae 1) (aa (ae 0) ao)) 1 [1])) ao))) ao)))
 ar)))
def lJ:List PV->M PV:=a_ 1 (ax 3 lQ)
def fS:af->M Out :=
 (aq (bb 4 (bo au "pulls_to" bP (ae 2) (aa (ae 3) ao)))
 (aq (jJ (dH (aj w6 (ae 4) (λ_=>M.ok .cR))) (aq (retS (λ_=>M.ok (.bl false)))
 ar) ar)
 (aq (retS (aj kr (ai ck (aa (ae 0) (aa (ae 1) (aa (aj bY (jm (aa (cI 0) ao)) (ai dP (aa (ae 0) ao))) (aa (ae 4) ao))))) (ae 3)))
 ar)))
def fK:List PV->M PV:=a_ 4 (ax 5 fS)
def eo:af->M Out :=
 (aq (bb 5 (ai xB (aa (bo ay "sizes" aP (ae 0) ao) ao)))
 (aq (bb 6 (bo ay "levers" bf (ae 1) ao))
 (aq (bb 7 (ai cj (aa (ae 5) (aa (ae 6) (aa (ae 3) (aa (ae 4) ao))))))
 (aq (bb 8 (ai kd (aa (ae 0) (aa (ae 3) (aa (ae 4) ao)))))
 (aq (jJ (CQ (dH (aj mM (j3 [(eH,gH),(eP,eU)] "brings" (ae 8) ao) (ae 7))) (dH (aj mM (ai lU (aa (ae 0) (aa (ae 3) (aa (ae 4) ao)))) (ae 7)))) (aq (retS (λ_=>M.ok (.bl false)))
 ar) ar)
 (aq (jJ (dH (aj mM (aj kr (ai ic (aa (ae 0) (aa (ae 3) ao))) (ai ic (aa (ae 0) (aa (ae 4) ao)))) (ae 7))) (aq (retS (λ_=>M.ok (.bl false)))
 ar) ar)
 (aq (CW (bQ 9 10) (j3 [(eH,iI),(eP,iD)] "words" (ae 8) ao))
 (aq (jJ (dH (ae 7)) (aq (retS (zc (aj kr (ae 9) (λ_=>M.ok (.str "pulls"))) (aj kr (ai ck (aa (ae 5) (aa (bo ay "levers" bf (ae 0) ao) (aa (ae 3) (aa (ae 10) ao))))) (ae 4))))
 ar) ar)
 (aq (retS (zc (aj kr (ae 9) (λ_=>M.ok (.str "weights"))) (ai fK (aa (ae 5) (aa (ae 6) (aa (ae 2) (aa (ae 10) ao)))))))
 ar)))))))))
def ee:List PV->M PV:=a_ 5 (ax 11 eo)
def c_:af->M Out :=
 (aq (bb 3 (rh (aa (ai cT (aa (ae 0) ao)) (aa (ai dU (aa (ae 0) ao)) (aa (ai cT (aa (ae 1) ao)) (aa (ai dU (aa (ae 1) ao)) ao))))))
 (aq (f6 (itemsOf (ae 3)) (bG 4) (aq (jJ (CQ (kH (dH (CP (λa=>oa a "int") t8 t8 (ae 4)))) (CQ (dH (CP (λa=>oa a "bool") t8 t8 (ae 4))) (dH (aj CO (ae 4) (cI 1))))) (aq (retS (λ_=>M.ok (.bl false)))
 ar) ar)
 ar))
 (aq (jJ (CQ (dH (aj mM (aj bY (aj aT (ae 3) (cI 0)) (aj aT (ae 3) (cI 1))) (ai ff (aa (ae 2) ao)))) (dH (aj mM (aj aT (ae 3) (cI 2)) (aj aT (ae 3) (cI 1))))) (aq (retS (λ_=>M.ok (.bl false)))
 ar) ar)
 (aq (retS (aj kr (aj aT (ae 3) (cI 3)) (aj aT (ae 3) (cI 0))))
 ar))))
def c8:List PV->M PV:=a_ 3 (ax 5 c_)
def B9:af->M Out :=
 (aq (bb 1 (pf (ai g8 (aa (ai cB (aa (ae 0) (aa (cI 0) ao))) ao)) Hh (mE (cI 4))))
 (aq (bb 2 (ai fJ (aa (ae 0) (aa (ae 1) ao))))
 (aq (bb 3 (ai (cY ay eC [.cR]) (aa (ae 1) (aa (ae 2) ao))))
 (aq (bb 4 (ai lJ (aa (ae 3) ao)))
 (aq (jJ (CQ (dH (aj mM (bo ay "sizes" aP (ae 4) ao) (ai cO (aa (ae 1) ao)))) (kH (dH (ai c8 (aa (ae 3) (aa (ae 4) (aa (ae 1) ao))))))) (aq (retS (λ_=>M.ok (.bl false)))
 ar) ar)
 (aq (f6 (itemsOf (ae 2)) (bG 5) (aq (jJ (kH (dH (ai cj (aa (ae 1) (aa (bo ay "levers" bf (ae 4) ao) (aa (ae 5) (aa (aj bY (jm (aa (cI 0) ao)) (ai dP (aa (ae 1) ao))) ao))))))) (aq (retS (λ_=>M.ok (.bl false)))
 ar) ar)
 ar))
 (aq (bb 6 (ai (cY au bI []) (aa (ae 4) ao)))
 (aq (f6 (jS CK (aa (aj fE (pf (ae 0) (mE (cI 10)) (mE (cI 13))) (rh (aa (cI 0) ao))) ao)) (bQ 7 8) (aq (bb 9 (ai cV (aa (aj fE (aj bw (ae 8) (cI 3)) (aj bY (cI 48271) (ae 7))) (aa (ae 1) ao))))
 (aq (bb 10 (ai ck (aa (ae 1) (aa (ae 2) (aa (ae 9) (aa (ai e_ (aa (aj fE (aj bw (ae 8) (cI 5)) (ae 7)) (aa (ai dP (aa (ae 2) ao)) ao))) ao))))))
 (aq (jJ (kH (dH (ai cj (aa (ae 1) (aa (bo ay "levers" bf (ae 4) ao) (aa (ae 9) (aa (ae 10) ao))))))) (aq (retS (λ_=>M.ok (.bl false)))
 ar) ar)
 (aq (jJ (dH (aj kr (aj cP (ae 8) (cI 3)) (cI 1))) (aq (bb 10 (ai cV (aa (ai cB (aa (ae 0) (aa (aj fE (cI 40) (ae 7)) ao))) (aa (ae 1) ao))))
 ar) ar)
 (aq (jJ (dH (aj kr (aj cP (ae 8) (cI 3)) (cI 2))) (aq (bb 10 (ai c9 (aa (ae 1) (aa (ae 10) (aa (cS (cA (jS nK (aa (ai dP (aa (ae 1) ao)) ao)) (bG 0) none (ai sx (aa (aj kr (ae 0) (aj cP (aj bw (ae 2) (cI 3)) (ai dP (aa (ae 1) ao)))) ao)) 1 [1,8])) (aa (cI 1) ao))))))
 ar) ar)
 (aq (jJ (kH (dH (ai ee (aa (ae 3) (aa (ae 4) (aa (ae 6) (aa (ae 9) (aa (ae 10) ao)))))))) (aq (retS (λ_=>M.ok (.bl false)))
 ar) ar)
 ar)))))))
 (aq (retS (λ_=>M.ok (.bl true)))
 ar)))))))))
def rG:List PV->M PV:=a_ 1 (ax 11 B9)
end vW
namespace vW
open PySem L2 PyProof.Rows
local macro_rules | `(tactic| walk_at "s")=>`(tactic| exact⟨rfl,rfl,rfl,by decide +kernel,rfl,by decide +kernel,by decide +kernel⟩)
local macro_rules | `(tactic| walk_at "l")=>`(tactic| first | exact .inl rfl | exact .inr rfl)
local macro_rules | `(tactic| walk_at "pp")=>`(tactic| all_goals repeat' (first | ((with_reducible show lZ _ _ (tS _ (aq _ _)));refine Cu ?_ ?_) | ((with_reducible show lZ _ _ (tS _ ar));exact DK) | ((with_reducible show PE _ _ (tE _ (ae _)));exact vr _) | ((with_reducible show PA _ _ (tL _ (aa _ _)));refine xW ?_ ?_ (Fc rfl)) | ((with_reducible show PA _ _ (tL _ ao));exact Ax) | ((with_reducible show PE _ _ (tE _ (λ_=>M.ok (.int _))));first | exact BM | exact la (ID (by rfl) (by assumption)) λ_=>.int _) | ((with_reducible show PE _ _ (tE _ (λ_=>M.ok (.bl _))));exact J0) | ((with_reducible show PE _ _ (tE _ (λ_=>M.ok .cR)));exact FK) | ((with_reducible show PE _ _ (tE _ (λ_=>M.ok (.str _))));exact Ia) | ((with_reducible show PE _ _ (tE _ (aj fE _ _)));refine mG C4 FA ?_ ?_) | ((with_reducible show PE _ _ (tE _ (aj iQ _ _)));refine mG GO G6 ?_ ?_) | ((with_reducible show PE _ _ (tE _ (aj bY _ _)));refine mG Ey Gx ?_ ?_) | ((with_reducible show PE _ _ (tE _ (aj bw _ _)));refine mG A1 Bf ?_ ?_) | ((with_reducible show PE _ _ (tE _ (aj cP _ _)));refine mG Dq De ?_ ?_) | ((with_reducible show PE _ _ (tE _ (aj vC _ _)));refine mG FQ CY ?_ ?_) | ((with_reducible show PE _ _ (tE _ (aj aT _ _)));refine Fs ?_ ?_ ?_) | ((with_reducible show t4 _);exact λ_ _=>rfl) | ((with_reducible show PT _ _ (tT _ (dH (aj kr _ _))));refine jV (CC (cx.units (by assumption))) Fi ?_ ?_ (dS _)) | ((with_reducible show PE _ _ (tE _ (aj kr _ _)));refine j5 (CC (cx.units (by assumption))) Fi ?_ ?_ (dS _)) | ((with_reducible show PT _ _ (tT _ (dH (aj mM _ _))));refine jV (Bh (cx.units (by assumption))) E7 ?_ ?_ (dS _)) | ((with_reducible show PE _ _ (tE _ (aj mM _ _)));refine j5 (Bh (cx.units (by assumption))) E7 ?_ ?_ (dS _)) | ((with_reducible show PT _ _ (tT _ (dH (aj CO _ _))));refine jV B7 wy ?_ ?_ (dS _)) | ((with_reducible show PE _ _ (tE _ (aj CO _ _)));refine j5 B7 wy ?_ ?_ (dS _)) | ((with_reducible show PT _ _ (tT _ (dH (aj C8 _ _))));refine jV vB pE ?_ ?_ (dS _)) | ((with_reducible show PE _ _ (tE _ (aj C8 _ _)));refine j5 vB pE ?_ ?_ (dS _)) | ((with_reducible show PT _ _ (tT _ (dH (aj Iq _ _))));refine jV EL z8 ?_ ?_ (dS _)) | ((with_reducible show PE _ _ (tE _ (aj Iq _ _)));refine j5 EL z8 ?_ ?_ (dS _)) | ((with_reducible show PT _ _ (tT _ (dH (aj Iu _ _))));refine jV EM AR ?_ ?_ (dS _)) | ((with_reducible show PE _ _ (tE _ (aj Iu _ _)));refine j5 EM AR ?_ ?_ (dS _)) | ((with_reducible show PT _ _ (tT _ (dH (aj w6 _ _))));refine jV CD Cm ?_ ?_ (dS _)) | ((with_reducible show PE _ _ (tE _ (aj w6 _ _)));refine j5 CD Cm ?_ ?_ (dS _)) | ((with_reducible show PT _ _ (tT _ (dH (aj kn _ _))));refine jV xH xR ?_ ?_ (dS _)) | ((with_reducible show PE _ _ (tE _ (aj kn _ _)));refine j5 xH xR ?_ ?_ (dS _)) | ((with_reducible show PT _ _ (tT _ (kH _)));refine FH ?_) | ((with_reducible show PT _ _ (tT _ (dH (ai _ _))));refine qo ?_) | ((with_reducible show PT _ _ (tT _ (dH (CP _ _ _ _))));refine qo ?_) | ((with_reducible show PT _ _ (tT _ (dH (bo _ _ _ _ _))));refine qo ?_) | ((with_reducible show PT _ _ (tT _ (dH (ae _))));refine qo ?_) | ((with_reducible show PS _ _ (tS _ (retS _)));refine Hi ?_) | ((with_reducible show PS _ _ (tS _ (bb _ _)));refine GD (by assumption) rfl (by walk_at "l") ?_) | ((with_reducible show PS _ _ (tS _ (jJ _ _ _)));refine Jz ?_ ?_ ?_) | ((with_reducible show PS _ _ (tS _ (iW _ _)));refine yW rfl (by first | exact .inl rfl | exact .inr (.inl rfl)) ?_) | ((with_reducible show PS _ _ (tS _ (n9 _ _)));refine Ee (by assumption) rfl (by walk_at "l") ?_) | ((with_reducible show PE _ _ (tO _ (jN _)));refine FZ ?_) | ((with_reducible show PS _ _ (tS _ (nI _ _)));refine Ig _ ?_) | ((with_reducible show PS _ _ (tS _ (kK _)));refine EG ?_) | ((with_reducible show PS _ _ (tS _ (mC _ _)));refine Ay.raise (by assumption) (by assumption) rfl (by rfl) ?_) | ((with_reducible show PS _ _ (tS _ (jA _ _ _)));refine qW.raise (by assumption) (by assumption) (by omega) (by assumption) rfl (by rfl) ?_) | ((with_reducible show PE _ _ (tE _ (jm _)));refine G3 ?_) | ((with_reducible show PE _ _ (tE _ (rh _)));refine B0 ?_) | ((with_reducible show PE _ _ (tE _ (j8 _)));refine Fz ?_) | ((with_reducible show PE _ _ (tE _ (zC _ _ _)));refine FT ?_ ?_ ?_) | ((with_reducible show PE _ _ (tE _ (dI _ _ _)));refine HR ?_ (by assumption) rfl) | ((with_reducible show PE _ _ (tE _ (ai dP _)));refine lD zv Ga (by rfl) (by assumption) PySem.boot_len ?_) | ((with_reducible show PE _ _ (tE _ (ai cO _)));refine l5 qE zX (by rfl) (by assumption) qb ?_) | ((with_reducible show PE _ _ (tE _ (ai xB _)));refine l5 tY En (by rfl) (by assumption) xT ?_) | ((with_reducible show PE _ _ (tE _ (ai yq _)));refine lD (yJ rfl) HW (by rfl) (by assumption) Ii ?_) | ((with_reducible show PE _ _ (tE _ (ai uZ _)));refine lD (zx rfl) GB (by rfl) (by assumption) FG ?_) | ((with_reducible show PE _ _ (tE _ (ai sx _)));refine l5 yh DH (by rfl) (by assumption) wC ?_) | ((with_reducible show PE _ _ (tE _ (ai (cY _ _ _) _)));refine r9.make (by assumption) (by assumption) (by omega) (by rfl) (by first | assumption | exact rL) ?_) | ((with_reducible show PE _ _ (tE _ (ai _ _)));refine cy.call (by assumption) (by assumption) (by omega) (by rfl) (by first | assumption | exact rL) ?_) | ((with_reducible show PE _ _ (tE _ (bo _ _ _ _ ao)));refine iJ.z0 (by assumption) (by assumption) (by omega) (by first | assumption | exact rL) ?_) | ((with_reducible show PE _ _ (tE _ (bo _ _ _ _ _)));refine iJ.call (by assumption) (by assumption) (by omega) (by first | assumption | exact rL) ?_ ?_) | ((with_reducible show PT _ _ (tT _ (dH (j3 _ _ _ _))));refine qo ?_) | ((with_reducible show PE _ _ (tE _ (j3 _ _ _ ao)));refine y0.z0 (by assumption) (by repeat' (first | exact y0.nil | refine y0.cons (by assumption) (by omega) ?_)) (by first | assumption | exact rL) ?_) | ((with_reducible show PE _ _ (tE _ (j3 _ _ _ _)));refine y0.call (by assumption) (by repeat' (first | exact y0.nil | refine y0.cons (by assumption) (by omega) ?_)) (by first | assumption | exact rL) ?_ ?_)))
def top(i:Nat):Stmt:=PySem.Challenge.pw_dialvault_k91_whole_pulls_and_weights.main.body.getD i (.Pass ⟨0,0,0,0⟩)
structure Txt (K:PySem.W.Frag) (mg:Str->Option Value):Prop where
 JR:mg "all" = none
 wV:mg "bool" = none
 dC:mg "enumerate" = none
 Au:mg "int" = none
 c7:mg "isinstance" = none
 J6:mg "len" = none
 BB:mg "list" = none
 EW:mg "max" = none
 eh:mg "range" = none
 Jw:mg "sum" = none
 sY:mg "tuple" = none
 i4:mg "zip" = none
 qM:∃ u,mg "LEAST_PRICE" = some u/\RelV (.int 1) u
 tP:∃ u,mg "LEAST_SIZE" = some u/\RelV (.int 2) u
 sO:∃ u,mg "MOST_DIALS" = some u/\RelV (.int 6) u
 qJ:∃ u,mg "MOST_LEVERS" = some u/\RelV (.int 8) u
 uk:∃ u,mg "MOST_PRICE" = some u/\RelV (.int 1000) u
 uF:∃ u,mg "MOST_SIZE" = some u/\RelV (.int 360) u
 Fq:jT K eP
 ou:jT K au
 lh:jT K ay
 EZ:jT K eH
 vO:Ay K mg j7 "NoSetting"
 yK:Ay K mg ki "TooMany"
 kO:bH K eP "weights"
 iH:bH K au "idle_rows"
 iw:bH K au "made_rows"
 kQ:bH K au "vault"
 ib:bH K ay "dial_sizes"
 gy:bH K ay "least_round"
 f_:bH K ay "lever_prices"
 eY:bH K ay "lever_settings"
 m_:bH K eH "pulls"
 sT:∀ C,(C==ay)=true->jT K C/\bH K C "dial_sizes"
 vM:∀ C,(C==au)=true->jT K C/\bH K C "idle_rows"
 qT:∀ C,(C==ay)=true->jT K C/\bH K C "least_round"
 p9:∀ C,(C==ay)=true->jT K C/\bH K C "lever_prices"
 mJ:∀ C,(C==ay)=true->jT K C/\bH K C "lever_settings"
 u_:∀ C,(C==au)=true->jT K C/\bH K C "made_rows"
 Ds:∀ C,(C==eH)=true->jT K C/\bH K C "pulls"
 C9:∀ C,(C==au)=true->jT K C/\bH K C "vault"
 zB:∀ C,(C==eP)=true->jT K C/\bH K C "weights"
local macro_rules | `(tactic| walk_at "t")=>`(tactic| (have z:=‹Txt _ _›;cases z))
variable{P:Program}{w:World}{K:PySem.W.Frag}{mg:Str->Option Value}{base:Heap}{f:Addr}{fd:FuncData}{dv:Value}
theorem vx(F:aY K "is_whole" "is_whole" (top 9) dv f fd)(T:Txt K mg)  : aJ P w K mg base (bF P w) 1 f fd ["thing"] (cQ 1 fD) :=
 F.dR ["thing"] λnd _ _ _ _ _ _ hr O=>by
 unfold jD;walk_at "t"
 walk_at "pp"
 refine(s_ ?_ (tj ?_))
 walk_at "pp"
 refine(oW (T := "int") (by rfl) T.c7 (jo (v:=.ty "int") (by rfl) T.Au wC rfl) (by decide) o7 o7 ?_)
 walk_at "pp"
 refine(Gv ?_)
 walk_at "pp"
 refine(oW (T := "bool") (by rfl) T.c7 (jo (v:=.ty "bool") (by rfl) T.wV xQ rfl) (by decide) o7 o7 ?_)
 walk_at "pp"
theorem uO:((["number"]:List Str)++([]:List Str)).Nodup:=by decide +kernel
theorem zQ(F:aY K "is_row" "is_row" (top 10) dv f fd)(T:Txt K mg)(Nn:cy P w K mg base 1 "is_whole" 1 (ax 1 jD)):aJ P w K mg base (bF P w) 2 f fd ["thing", "length"] (cQ 2 f9) :=
 F.dR ["thing", "length"] λnd _ _ _ _ _ _ hr O=>by
 unfold kb;walk_at "t"
 walk_at "pp"
 refine(mP ?_ (kZ ?_)).pt
 walk_at "pp"
 refine(DS (Ts:=["list", "tuple"]) (by rfl) T.c7 (BJ (gN (jo (v:=.ty "list") (by rfl) T.BB xT rfl) (gN (jo (v:=.ty "tuple") (by rfl) T.sY qb rfl) mK))) (fun σ H R h=>⟨by show 2<=sizeLine;decide,h⟩) (by decide) o7 ?_)
 walk_at "pp"
 refine(cF (bA (g:=(aH 0)) (ts:=["number"]) (fs:=[]) (js:=[]) (cl:=[]) rfl rfl rfl rfl rfl rfl .nil .nil (dc ?_) b_ (λ_ _ _ _ _=>(aM (i:=0) uO)) (λ_=>bh) bO (λ_ _ _ _ _=>?_)))
 walk_at "pp"
theorem zD(F:aY K "common" "common" (top 11) dv f fd)(T:Txt K mg)  : aJ P w K mg base (bF P w) 1 f fd ["one", "other"] (cQ 2 gg) :=
 F.dR ["one", "other", "row", "behind", "times", "rest"] λnd _ _ _ _ _ _ hr O=>by
 unfold jU;walk_at "t"
 walk_at "pp"
 refine(vR O ?_ ?_)
 walk_at "pp"
theorem pD(F:aY K "multiple_of" "multiple_of" (top 12) dv f fd)(T:Txt K mg)(NW:cy P w K mg base 1 "common" 2 (ax 6 jU)):aJ P w K mg base (bF P w) 2 f fd ["numbers"] (cQ 1 fM) :=
 F.dR ["numbers", "multiple", "number"] λnd _ _ _ _ _ _ hr O=>by
 unfold fN;walk_at "t"
 walk_at "pp"
 refine(bB (g:=(aH 2)) O rfl (dc ?_) b_ (aM (i:=2) nd) bh ?_)
 walk_at "pp"
theorem rg(F:aY K "product_of" "product_of" (top 13) dv f fd)(T:Txt K mg)  : aJ P w K mg base (bF P w) 1 f fd ["numbers"] (cQ 1 fu) :=
 F.dR ["numbers", "product", "number"] λnd _ _ _ _ _ _ hr O=>by
 unfold eX;walk_at "t"
 walk_at "pp"
 refine(bB (g:=(aH 2)) O rfl (dc ?_) b_ (aM (i:=2) nd) bh ?_)
 walk_at "pp"
theorem qQ:((["other"]:List Str)++(["place"]:List Str)).Nodup:=by decide +kernel
theorem uT(F:aY K "unit_row" "unit_row" (top 14) dv f fd)(T:Txt K mg)  : aJ P w K mg base (bF P w) 1 f fd ["length", "place"] (cQ 2 jB) :=
 F.dR ["length", "place"] λnd _ _ _ _ _ _ hr O=>by
 unfold jl;walk_at "t"
 walk_at "pp"
 refine(cF (bA (g:=(aH 0)) (ts:=["other"]) (fs:=["place"]) (js:=[1]) rfl rfl rfl rfl rfl rfl (.cons rfl .nil) (.cons rfl rfl (by walk_at "l") rfl rfl .nil) (eK (by rfl) T.eh ?_) gi (λ_ _ _ _ _=>(aM (i:=0) qQ)) (λ_=>bh) bO (λ_ _ _ _ _=>?_)))
 walk_at "pp"
theorem kN:((["number", "other"]:List Str)++([]:List Str)).Nodup:=by decide +kernel
theorem vp(F:aY K "rest_sum" "rest_sum" (top 15) dv f fd)(T:Txt K mg)  : aJ P w K mg base (bF P w) 1 f fd ["numbers", "others", "by"] (cQ 3 jg) :=
 F.dR ["numbers", "others", "by"] λnd _ _ _ _ _ _ hr O=>by
 unfold jv;walk_at "t"
 walk_at "pp"
 refine(cF (bA (g:=(iq K 2 (bq (aH 0) (bq (aH 1) ip)))) (ts:=["number", "other"]) (fs:=[]) (js:=[]) (cl:=[]) rfl rfl rfl rfl rfl rfl .nil .nil (iS (by rfl) T.i4 ?_) fP (λ_ _ _ _ _=>(da (n:=2) rfl (aC (aM (i:=0) kN) (aC (aM (i:=1) kN) bZ)))) (λ_=>cC) cJ (λ_ _ _ _ _=>?_)))
 walk_at "pp"
theorem ui(F:aY K "is_within" "is_within" (top 24) dv f fd)(T:Txt K mg)(Nn:cy P w K mg base 1 "is_whole" 1 (ax 1 jD)):aJ P w K mg base (bF P w) 2 f fd ["thing", "least", "most"] (cQ 3 dF) :=
 F.dR ["thing", "least", "most"] λnd _ _ _ _ _ _ hr O=>by
 unfold eI;walk_at "t"
 walk_at "pp"
 refine(s_ ?_ (tj ?_))
 walk_at "pp"
 refine(uv vB pE vB pE ?_ ?_ ?_)
 walk_at "pp"
theorem qN(F:aY K "need_sizes" "need_sizes" (top 25) dv f fd)(T:Txt K mg)(N1:qW P w K mg base gj "NoDial" "dial")(M1:cy P w K mg base 2 "is_within" 3 (ax 3 eI)):aJ P w K mg base (bF P w) 3 f fd ["sizes"] (cQ 1 gL) :=
 F.dR ["sizes", "dial", "size"] λnd _ _ _ _ _ _ hr O=>by
 unfold gI;walk_at "t"
 walk_at "pp"
 refine(bB (g:=(iq K 2 (bq (aH 1) (bq (aH 2) ip)))) O rfl (l_ (by rfl) T.dC ?_) kB (da (n:=2) rfl (aC (aM (i:=1) nd) (aC (aM (i:=2) nd) bZ))) cC ?_)
 walk_at "pp"
theorem qr(F:aY K "need_levers" "need_levers" (top 26) dv f fd)(T:Txt K mg)(NX:cy P w K mg base 2 "is_row" 2 (ax 2 kb))(Ou:qW P w K mg base jb "NoLever" "lever"):aJ P w K mg base (bF P w) 3 f fd ["levers", "dials"] (cQ 2 fU) :=
 F.dR ["levers", "dials", "place", "lever"] λnd _ _ _ _ _ _ hr O=>by
 unfold fW;walk_at "t"
 walk_at "pp"
 refine(bB (g:=(iq K 2 (bq (aH 2) (bq (aH 3) ip)))) O rfl (l_ (by rfl) T.dC ?_) kB (da (n:=2) rfl (aC (aM (i:=2) nd) (aC (aM (i:=3) nd) bZ))) cC ?_)
 walk_at "pp"
theorem qC(F:aY K "prices_for" "prices_for" (top 27) dv f fd)(T:Txt K mg)(Ov:qW P w K mg base hG "NoPrice" "lever")(M1:cy P w K mg base 2 "is_within" 3 (ax 3 eI)):aJ P w K mg base (bF P w) 3 f fd ["levers", "prices"] (cQ 2 gU) :=
 F.dR ["levers", "prices", "place"] λnd _ _ _ _ _ _ hr O=>by
 unfold gC;walk_at "t"
 walk_at "pp"
 refine(bB (g:=(aH 2)) O rfl (eK (by rfl) T.eh ?_) gi (aM (i:=2) nd) bh ?_)
 walk_at "pp"
 refine(lD (yR rfl) Dc (by rfl) T.EW Hg ?_)
 walk_at "pp"
 refine(mP ?_ (kZ ?_)).pt
 walk_at "pp"
theorem o4:((["number", "size"]:List Str)++([]:List Str)).Nodup:=by decide +kernel
theorem Bu(F:aY K "rests" "rests" (top 28) dv f fd)(T:Txt K mg)  : aJ P w K mg base (bF P w) 1 f fd ["numbers", "sizes"] (cQ 2 ji) :=
 F.dR ["numbers", "sizes"] λnd _ _ _ _ _ _ hr O=>by
 unfold kl;walk_at "t"
 walk_at "pp"
 refine(cF (bA (g:=(iq K 2 (bq (aH 0) (bq (aH 1) ip)))) (ts:=["number", "size"]) (fs:=[]) (js:=[]) (cl:=[]) rfl rfl rfl rfl rfl rfl .nil .nil (iS (by rfl) T.i4 ?_) fP (λ_ _ _ _ _=>(da (n:=2) rfl (aC (aM (i:=0) o4) (aC (aM (i:=1) o4) bZ)))) (λ_=>cC) cJ (λ_ _ _ _ _=>?_)))
 walk_at "pp"
theorem oO:((["one", "two"]:List Str)++(["times", "others"]:List Str)).Nodup:=by decide +kernel
theorem By(F:aY K "mixed" "mixed" (top 40) dv f fd)(T:Txt K mg)  : aJ P w K mg base (bF P w) 1 f fd ["row", "times", "other", "others"] (cQ 4 kh) :=
 F.dR ["row", "times", "other", "others"] λnd _ _ _ _ _ _ hr O=>by
 unfold lN;walk_at "t"
 walk_at "pp"
 refine(cF (bA (g:=(iq K 2 (bq (aH 0) (bq (aH 1) ip)))) (ts:=["one", "two"]) (fs:=["times", "others"]) (js:=[1,3]) rfl rfl rfl rfl rfl rfl (.cons rfl (.cons rfl .nil)) (.cons rfl rfl (by walk_at "l") rfl rfl (.cons rfl rfl (by walk_at "l") rfl rfl .nil)) (iS (by rfl) T.i4 ?_) fP (λ_ _ _ _ _=>(da (n:=2) rfl (aC (aM (i:=0) oO) (aC (aM (i:=1) oO) bZ)))) (λ_=>cC) cJ (λ_ _ _ _ _=>?_)))
 walk_at "pp"
theorem qZ(F:aY K "mixed_made" "mixed_made" (top 41) dv f fd)(T:Txt K mg)(N_:cy P w K mg base 1 "mixed" 4 (ax 4 lN))(NC:cy P w K mg base 1 "rests" 2 (ax 2 kl)):aJ P w K mg base (bF P w) 2 f fd ["sizes", "made", "times", "other", "others"] (cQ 5 dJ) :=
 F.dR ["sizes", "made", "times", "other", "others", "doing"] λnd _ _ _ _ _ _ hr O=>by
 unfold eZ;walk_at "t"
 walk_at "pp"
theorem tZ(F:aY K "step_size" "step_size" (top 44) dv f fd)(T:Txt K mg)  : aJ P w K mg base (bF P w) 1 f fd ["sizes", "made_rows", "dial"] (cQ 3 dw) :=
 F.dR ["sizes", "made_rows", "dial", "notch"] λnd _ _ _ _ _ _ hr O=>by
 unfold eN;walk_at "t"
 walk_at "pp"
theorem uC(F:aY K "taken_in" "taken_in" (top 45) dv f fd)(T:Txt K mg)(M3:cy P w K mg base 1 "step_size" 3 (ax 4 eN))(NW:cy P w K mg base 1 "common" 2 (ax 6 jU))(Na:cy P w K mg base 2 "mixed_made" 5 (ax 6 eZ)):aJ P w K mg base (bF P w) 3 f fd ["sizes", "made_rows", "left"] (cQ 3 jz) :=
 F.dR ["sizes", "made_rows", "left", "wider", "dial", "made", "step", "notch", "found"] λnd _ _ _ _ _ _ hr O=>by
 unfold jh;walk_at "t"
 walk_at "pp"
 refine(bB (g:=(iq K 2 (bq (aH 4) (bq (aH 5) ip)))) O rfl (l_ (by rfl) T.dC ?_) kB (da (n:=2) rfl (aC (aM (i:=4) nd) (aC (aM (i:=5) nd) bZ))) cC ?_)
 walk_at "pp"
theorem wR(F:aY K "lowered" "lowered" (top 46) dv f fd)(T:Txt K mg)(M3:cy P w K mg base 1 "step_size" 3 (ax 4 eN))(Na:cy P w K mg base 2 "mixed_made" 5 (ax 6 eZ)):aJ P w K mg base (bF P w) 3 f fd ["sizes", "made_rows", "made", "first"] (cQ 4 fG) :=
 F.dR ["sizes", "made_rows", "made", "first", "dial", "times"] λnd _ _ _ _ _ _ hr O=>by
 unfold i0;walk_at "t"
 walk_at "pp"
 refine(bB (g:=(aH 4)) O rfl (yI (by rfl) T.eh ?_) BK (aM (i:=4) nd) bh ?_)
 walk_at "pp"
theorem va(F:aY K "in_spans" "in_spans" (top 47) dv f fd)(T:Txt K mg)(N_:cy P w K mg base 1 "mixed" 4 (ax 4 lN)):aJ P w K mg base (bF P w) 2 f fd ["pulls", "idle_rows"] (cQ 2 ij) :=
 F.dR ["pulls", "idle_rows", "lever", "row"] λnd _ _ _ _ _ _ hr O=>by
 unfold ig;walk_at "t"
 walk_at "pp"
 refine(bB (g:=(aH 2)) O rfl (rX (by rfl) T.eh ?_) uz (aM (i:=2) nd) bh ?_)
 walk_at "pp"
theorem lS:((["notch"]:List Str)++([]:List Str)).Nodup:=by decide +kernel
theorem nN(F:aY K "first_turned" "first_turned" (top 49) dv f fd)(T:Txt K mg)  : aJ P w K mg base (bF P w) 1 f fd ["setting"] (cQ 1 fb) :=
 F.dR ["setting"] λnd _ _ _ _ _ _ hr O=>by
 unfold fc;walk_at "t"
 walk_at "pp"
 refine(AN ?_ ?_)
 walk_at "pp"
 refine(cF (bA (g:=(aH 0)) (ts:=["notch"]) (fs:=[]) (js:=[]) (cl:=[]) rfl rfl rfl rfl rfl rfl .nil .nil (dc ?_) b_ (λ_ _ _ _ _=>(aM (i:=0) lS)) (λ_=>bh) bO (λ_ _ _ _ _=>?_)))
 walk_at "pp"
theorem sH(F:aY K "_law_cell" "_law_cell" (top 60) dv f fd)(T:Txt K mg)  : aJ P w K mg base (bF P w) 1 f fd ["_law_script", "_law_k"] (cQ 2 cB) :=
 F.dR ["_law_script", "_law_k"] λnd _ _ _ _ _ _ hr O=>by
 unfold f7;walk_at "t"
 walk_at "pp"
theorem qj(F:aY K "_law_stream" "_law_stream" (top 61) dv f fd)(T:Txt K mg)  : aJ P w K mg base (bF P w) 1 f fd ["_law_cell_here", "_law_many"] (cQ 2 cL) :=
 F.dR ["_law_cell_here", "_law_many", "_law_found", "_law_number", "_law_k"] λnd _ _ _ _ _ _ hr O=>by
 unfold cH;walk_at "t"
 walk_at "pp"
 refine(bB (g:=(aH 4)) O rfl (eK (by rfl) T.eh ?_) gi (aM (i:=4) nd) bh ?_)
 walk_at "pp"
theorem pk(F:aY K "_law_digits" "_law_digits" (top 62) dv f fd)(T:Txt K mg)  : aJ P w K mg base (bF P w) 1 f fd ["_law_cell_here", "_law_bases"] (cQ 2 cG) :=
 F.dR ["_law_cell_here", "_law_bases", "_law_found", "_law_left", "_law_base"] λnd _ _ _ _ _ _ hr O=>by
 unfold cM;walk_at "t"
 walk_at "pp"
 refine(bB (g:=(aH 4)) O rfl (dc ?_) b_ (aM (i:=4) nd) bh ?_)
 walk_at "pp"
theorem nJ:((["_law_digit"]:List Str)++([]:List Str)).Nodup:=by decide +kernel
theorem rf(F:aY K "_law_sizes" "_law_sizes" (top 63) dv f fd)(T:Txt K mg)(MN:cy P w K mg base 1 "_law_digits" 2 (ax 5 cM))(MO:cy P w K mg base 1 "_law_stream" 2 (ax 5 cH)):aJ P w K mg base (bF P w) 2 f fd ["_law_cell_here"] (cQ 1 g8) :=
 F.dR ["_law_cell_here", "_law_many", "_law_sizes_here", "_law_number"] λnd _ _ _ _ _ _ hr O=>by
 unfold gM;walk_at "t"
 walk_at "pp"
 refine(cF (bA (g:=(aH 0)) (ts:=["_law_digit"]) (fs:=[]) (js:=[]) (cl:=[]) rfl rfl rfl rfl rfl rfl .nil .nil (dc ?_) b_ (λ_ _ _ _ _=>(aM (i:=0) nJ)) (λ_=>bh) bO (λ_ _ _ _ _=>?_)))
 walk_at "pp"
 refine(bB (g:=(aH 3)) O rfl (dc ?_) b_ (aM (i:=3) nd) bh ?_)
 walk_at "pp"
 exact(xo [2,3,4,6,8,9,12,16,24,27,32,36,64,72,81,128,243,256,360])
 walk_at "pp"
theorem qU(F:aY K "_law_great" "_law_great" (top 64) dv f fd)(T:Txt K mg)  : aJ P w K mg base (bF P w) 1 f fd ["_law_number"] (cQ 1 e6) :=
 F.dR ["_law_number"] λnd _ _ _ _ _ _ hr O=>by
 unfold e7;walk_at "t"
 walk_at "pp"
theorem qF(F:aY K "_law_lever" "_law_lever" (top 65) dv f fd)(T:Txt K mg)(MO:cy P w K mg base 1 "_law_stream" 2 (ax 5 cH))(M_:cy P w K mg base 1 "_law_great" 1 (ax 1 e7)):aJ P w K mg base (bF P w) 2 f fd ["_law_cell_here", "_law_sizes_here"] (cQ 2 gP) :=
 F.dR ["_law_cell_here", "_law_sizes_here", "_law_row", "_law_number", "_law_size", "_law_share"] λnd _ _ _ _ _ _ hr O=>by
 unfold gz;walk_at "t"
 walk_at "pp"
 refine(bB (g:=(iq K 2 (bq (aH 3) (bq (aH 4) ip)))) O rfl (iS (by rfl) T.i4 ?_) fP (da (n:=2) rfl (aC (aM (i:=3) nd) (aC (aM (i:=4) nd) bZ))) cC ?_)
 walk_at "pp"
 exact(xo [1,1,2,3,4,6,12])
 walk_at "pp"
theorem oN(F:aY K "_law_levers" "_law_levers" (top 66) dv f fd)(T:Txt K mg)(Ni:cy P w K mg base 1 "_law_cell" 2 (ax 2 f7))(MN:cy P w K mg base 1 "_law_digits" 2 (ax 5 cM))(NS:cy P w K mg base 2 "_law_lever" 2 (ax 6 gz)):aJ P w K mg base (bF P w) 3 f fd ["_law_script", "_law_sizes_here"] (cQ 2 fJ) :=
 F.dR ["_law_script", "_law_sizes_here", "_law_levers_here", "_law_k", "_law_cell_here"] λnd _ _ _ _ _ _ hr O=>by
 unfold fO;walk_at "t"
 walk_at "pp"
 refine(bB (g:=(aH 3)) O rfl (eK (by rfl) T.eh ?_) gi (aM (i:=3) nd) bh ?_)
 walk_at "pp"
theorem qD(F:aY K "_law_round" "_law_round" (top 67) dv f fd)(T:Txt K mg)  : aJ P w K mg base (bF P w) 1 f fd ["_law_sizes_here"] (cQ 1 gG) :=
 F.dR ["_law_sizes_here", "_law_found", "_law_size", "_law_one", "_law_other"] λnd _ _ _ _ _ _ hr O=>by
 unfold gY;walk_at "t"
 walk_at "pp"
 refine(bB (g:=(aH 2)) O rfl (dc ?_) b_ (aM (i:=2) nd) bh ?_)
 walk_at "pp"
 refine(Bz (i:=3) (j:=4) rfl nd rfl rfl (by decide) rfl rfl ?_ ?_)
 walk_at "pp"
 exact rfl
 walk_at "pp"
 refine(vR O ?_ ?_)
 walk_at "pp"
 refine(Bz (i:=3) (j:=4) rfl nd rfl rfl (by decide) rfl rfl ?_ ?_)
 walk_at "pp"
 exact rfl
 walk_at "pp"
theorem gq:((["_law_here", "_law_there", "_law_size"]:List Str)++(["_law_times"]:List Str)).Nodup:=by decide +kernel
theorem qO(F:aY K "_law_added" "_law_added" (top 68) dv f fd)(T:Txt K mg)  : aJ P w K mg base (bF P w) 1 f fd ["_law_sizes_here", "_law_one", "_law_other", "_law_times"] (cQ 4 c9) :=
 F.dR ["_law_sizes_here", "_law_one", "_law_other", "_law_times"] λnd _ _ _ _ _ _ hr O=>by
 unfold fj;walk_at "t"
 walk_at "pp"
 refine(cF (bA (g:=(iq K 3 (bq (aH 0) (bq (aH 1) (bq (aH 2) ip))))) (ts:=["_law_here", "_law_there", "_law_size"]) (fs:=["_law_times"]) (js:=[3]) rfl rfl rfl rfl rfl rfl (.cons rfl .nil) (.cons rfl rfl (by walk_at "l") rfl rfl .nil) (xU (by rfl) T.i4 ?_) vj (λ_ _ _ _ _=>(da (n:=3) rfl (aC (aM (i:=0) gq) (aC (aM (i:=1) gq) (aC (aM (i:=2) gq) bZ))))) (λ_=>xX) vY (λ_ _ _ _ _=>?_)))
 walk_at "pp"
theorem o8(F:aY K "_law_turned" "_law_turned" (top 69) dv f fd)(T:Txt K mg)(M8:cy P w K mg base 1 "_law_added" 4 (ax 4 fj)):aJ P w K mg base (bF P w) 2 f fd ["_law_sizes_here", "_law_levers_here", "_law_setting_here", "_law_pulls_here"] (cQ 4 ck) :=
 F.dR ["_law_sizes_here", "_law_levers_here", "_law_setting_here", "_law_pulls_here", "_law_found", "_law_row", "_law_times"] λnd _ _ _ _ _ _ hr O=>by
 unfold dj;walk_at "t"
 walk_at "pp"
 refine(bB (g:=(iq K 2 (bq (aH 5) (bq (aH 6) ip)))) O rfl (iS (by rfl) T.i4 ?_) fP (da (n:=2) rfl (aC (aM (i:=5) nd) (aC (aM (i:=6) nd) bZ))) cC ?_)
 walk_at "pp"
theorem nB(F:aY K "_law_weighed" "_law_weighed" (top 70) dv f fd)(T:Txt K mg)(NU:cy P w K mg base 1 "_law_round" 1 (ax 5 gY)):aJ P w K mg base (bF P w) 2 f fd ["_law_sizes_here", "_law_weights", "_law_setting_here"] (cQ 3 dz) :=
 F.dR ["_law_sizes_here", "_law_weights", "_law_setting_here", "_law_around", "_law_total", "_law_weight", "_law_notch", "_law_size"] λnd _ _ _ _ _ _ hr O=>by
 unfold eV;walk_at "t"
 walk_at "pp"
 refine(bB (g:=(iq K 3 (bq (aH 5) (bq (aH 6) (bq (aH 7) ip))))) O rfl (xU (by rfl) T.i4 ?_) vj (da (n:=3) rfl (aC (aM (i:=5) nd) (aC (aM (i:=6) nd) (aC (aM (i:=7) nd) bZ)))) xX ?_)
 walk_at "pp"
theorem iM:((["_law_number", "_law_size"]:List Str)++([]:List Str)).Nodup:=by decide +kernel
theorem n5(F:aY K "_law_setting" "_law_setting" (top 71) dv f fd)(T:Txt K mg)(MN:cy P w K mg base 1 "_law_digits" 2 (ax 5 cM))(MO:cy P w K mg base 1 "_law_stream" 2 (ax 5 cH)):aJ P w K mg base (bF P w) 2 f fd ["_law_cell_here", "_law_sizes_here"] (cQ 2 cV) :=
 F.dR ["_law_cell_here", "_law_sizes_here"] λnd _ _ _ _ _ _ hr O=>by
 unfold fm;walk_at "t"
 walk_at "pp"
 refine(cF (bA (g:=(iq K 2 (bq (aH 0) (bq (aH 1) ip)))) (ts:=["_law_number", "_law_size"]) (fs:=[]) (js:=[]) (cl:=[]) rfl rfl rfl rfl rfl rfl .nil .nil (iS (by rfl) T.i4 ?_) fP (λ_ _ _ _ _=>(da (n:=2) rfl (aC (aM (i:=0) iM) (aC (aM (i:=1) iM) bZ)))) (λ_=>cC) cJ (λ_ _ _ _ _=>?_)))
 walk_at "pp"
theorem nG:((["_law_digit"]:List Str)++([]:List Str)).Nodup:=by decide +kernel
theorem qI(F:aY K "_law_pulls" "_law_pulls" (top 72) dv f fd)(T:Txt K mg)(MN:cy P w K mg base 1 "_law_digits" 2 (ax 5 cM))(MO:cy P w K mg base 1 "_law_stream" 2 (ax 5 cH))(M_:cy P w K mg base 1 "_law_great" 1 (ax 1 e7)):aJ P w K mg base (bF P w) 2 f fd ["_law_cell_here", "_law_many"] (cQ 2 e_) :=
 F.dR ["_law_cell_here", "_law_many", "_law_found", "_law_number"] λnd _ _ _ _ _ _ hr O=>by
 unfold gR;walk_at "t"
 walk_at "pp"
 refine(cF (bA (g:=(aH 0)) (ts:=["_law_digit"]) (fs:=[]) (js:=[]) (cl:=[]) rfl rfl rfl rfl rfl rfl .nil .nil (dc ?_) b_ (λ_ _ _ _ _=>(aM (i:=0) nG)) (λ_=>bh) bO (λ_ _ _ _ _=>?_)))
 walk_at "pp"
 refine(bB (g:=(aH 3)) O rfl (dc ?_) b_ (aM (i:=3) nd) bh ?_)
 walk_at "pp"
theorem n6(F:aY K "_law_product" "_law_product" (top 73) dv f fd)(T:Txt K mg)  : aJ P w K mg base (bF P w) 1 f fd ["_law_numbers"] (cQ 1 ff) :=
 F.dR ["_law_numbers", "_law_found", "_law_number"] λnd _ _ _ _ _ _ hr O=>by
 unfold eT;walk_at "t"
 walk_at "pp"
 refine(bB (g:=(aH 2)) O rfl (dc ?_) b_ (aM (i:=2) nd) bh ?_)
 walk_at "pp"
theorem qY(F:aY K "_law_alike" "_law_alike" (top 74) dv f fd)(T:Txt K mg)(Ny:cy P w K mg base 2 "_law_weighed" 3 (ax 8 eV)):aJ P w K mg base (bF P w) 3 f fd ["_law_sizes_here", "_law_rows", "_law_one", "_law_other"] (cQ 4 cj) :=
 F.dR ["_law_sizes_here", "_law_rows", "_law_one", "_law_other", "_law_row"] λnd _ _ _ _ _ _ hr O=>by
 unfold eS;walk_at "t"
 walk_at "pp"
 refine(bB (g:=(aH 4)) O rfl (dc ?_) b_ (aM (i:=4) nd) bh ?_)
 walk_at "pp"
theorem kP:cv ["self", "sizes", "levers", "prices"] ["self", "sizes", "levers", "prices"] (bc (inClass (top 23) 0)):=.of
theorem nX:((["lever"]:List Str)++(["sizes"]:List Str)).Nodup:=by decide +kernel
theorem qG(F:aY K "__init__" "Vault.__init__" (inClass (top 23) 0) dv f fd)(T:Txt K mg)(NZ:cy P w K mg base 3 "need_sizes" 1 (ax 3 gI))(NL:cy P w K mg base 3 "need_levers" 2 (ax 4 fW))(NC:cy P w K mg base 1 "rests" 2 (ax 2 kl))(N0:cy P w K mg base 3 "prices_for" 2 (ax 3 gC))(NK:cy P w K mg base 2 "multiple_of" 1 (ax 3 fN)):aJ P w K mg base (bF P w) 4 f fd ["self", "sizes", "levers", "prices"] (CL 4 ay eC) :=
 F.Km kP (by decide) λ_ _ _ _ _ _ hr O=>by
 unfold jt;have:=kP.nd;have T2:=T;cases T2
 walk_at "pp"
 refine(jf (i:=0) rfl (by first | exact .inl rfl | exact .inr (.inl rfl)) T.lh T.ib ?_)
 walk_at "pp"
 refine(jf (i:=0) rfl (by first | exact .inl rfl | exact .inr (.inl rfl)) T.lh T.eY ?_)
 walk_at "pp"
 refine(cF (bA (g:=(aH 0)) (ts:=["lever"]) (fs:=["sizes"]) (js:=[1]) rfl rfl rfl rfl rfl rfl (.cons rfl .nil) (.cons rfl rfl (by walk_at "l") rfl rfl .nil) (dc ?_) b_ (λ_ _ _ _ _=>(aM (i:=0) nX)) (λ_=>bh) bO (λ_ _ _ _ _=>?_)))
 walk_at "pp"
 refine(jf (i:=0) rfl (by first | exact .inl rfl | exact .inr (.inl rfl)) T.lh T.f_ ?_)
 walk_at "pp"
 refine(jf (i:=0) rfl (by first | exact .inl rfl | exact .inr (.inl rfl)) T.lh T.gy ?_)
 walk_at "pp"
theorem pW(F:aY K "sizes" "Vault.sizes" (inClass (top 23) 1) dv f fd)(T:Txt K mg)  : aJ P w K mg base (bF P w) 1 f fd ["self"] (cQ 1 aP) :=
 F.dR ["self"] λnd _ _ _ _ _ _ hr O=>by
 unfold a0;walk_at "t"
 walk_at "pp"
theorem nM(F:aY K "levers" "Vault.levers" (inClass (top 23) 2) dv f fd)(T:Txt K mg)  : aJ P w K mg base (bF P w) 1 f fd ["self"] (cQ 1 bf) :=
 F.dR ["self"] λnd _ _ _ _ _ _ hr O=>by
 unfold bU;walk_at "t"
 walk_at "pp"
theorem nY(F:aY K "prices" "Vault.prices" (inClass (top 23) 3) dv f fd)(T:Txt K mg)  : aJ P w K mg base (bF P w) 1 f fd ["self"] (cQ 1 o_) :=
 F.dR ["self"] λnd _ _ _ _ _ _ hr O=>by
 unfold j6;walk_at "t"
 walk_at "pp"
theorem nR(F:aY K "around" "Vault.around" (inClass (top 23) 4) dv f fd)(T:Txt K mg)  : aJ P w K mg base (bF P w) 1 f fd ["self"] (cQ 1 cW) :=
 F.dR ["self"] λnd _ _ _ _ _ _ hr O=>by
 unfold dE;walk_at "t"
 walk_at "pp"
theorem nA(F:aY K "brings" "Paper.brings" (inClass (top 36) 0) dv f fd)(T:Txt K mg)  : aJ P w K mg base (bF P w) 1 f fd ["self"] (cQ 1 eU) :=
 F.dR ["self"] λnd _ _ _ _ _ _ hr O=>by
 unfold e9;walk_at "t"
 walk_at "pp"
theorem mW:cv ["self", "pulls"] ["self", "pulls"] (bc (inClass (top 37) 0)):=.of
theorem vV(F:aY K "__init__" "Way.__init__" (inClass (top 37) 0) dv f fd)(T:Txt K mg)  : aJ P w K mg base (bF P w) 1 f fd ["self", "pulls"] (CL 2 eH ph) :=
 F.Km mW (by decide) λ_ _ _ _ _ _ hr O=>by
 unfold k8;have:=mW.nd;have T2:=T;cases T2
 walk_at "pp"
 refine(jf (i:=0) rfl (by first | exact .inl rfl | exact .inr (.inl rfl)) T.EZ T.m_ ?_)
 walk_at "pp"
theorem qH(F:aY K "brings" "Way.brings" (inClass (top 37) 1) dv f fd)(T:Txt K mg)  : aJ P w K mg base (bF P w) 1 f fd ["self"] (cQ 1 gH) :=
 F.dR ["self"] λnd _ _ _ _ _ _ hr O=>by
 unfold gO;walk_at "t"
 walk_at "pp"
theorem sP(F:aY K "words" "Way.words" (inClass (top 37) 3) dv f fd)(T:Txt K mg)  : aJ P w K mg base (bF P w) 1 f fd ["self"] (cQ 1 iI) :=
 F.dR ["self"] λnd _ _ _ _ _ _ hr O=>by
 unfold iz;walk_at "t"
 walk_at "pp"
theorem mX:cv ["self", "weights"] ["self", "weights"] (bc (inClass (top 38) 0)):=.of
theorem vH(F:aY K "__init__" "Bar.__init__" (inClass (top 38) 0) dv f fd)(T:Txt K mg)  : aJ P w K mg base (bF P w) 1 f fd ["self", "weights"] (CL 2 eP pK) :=
 F.Km mX (by decide) λ_ _ _ _ _ _ hr O=>by
 unfold k6;have:=mX.nd;have T2:=T;cases T2
 walk_at "pp"
 refine(jf (i:=0) rfl (by first | exact .inl rfl | exact .inr (.inl rfl)) T.Fq T.kO ?_)
 walk_at "pp"
theorem t_(F:aY K "words" "Bar.words" (inClass (top 38) 2) dv f fd)(T:Txt K mg)  : aJ P w K mg base (bF P w) 1 f fd ["self"] (cQ 1 iD) :=
 F.dR ["self"] λnd _ _ _ _ _ _ hr O=>by
 unfold iy;walk_at "t"
 walk_at "pp"
theorem mz:((["dial"]:List Str)++(["self", "sizes"]:List Str)).Nodup:=by decide +kernel
theorem pM(F:aY K "steps" "Rungs.steps" (inClass (top 48) 1) dv f fd)(T:Txt K mg)(MH:iJ P w K mg base ay 1 "sizes" 1 (ax 1 a0))(M3:cy P w K mg base 1 "step_size" 3 (ax 4 eN)):aJ P w K mg base (bF P w) 2 f fd ["self"] (cQ 1 d_) :=
 F.dR ["self", "sizes"] λnd _ _ _ _ _ _ hr O=>by
 unfold dW;walk_at "t"
 walk_at "pp"
 refine(cF (bA (g:=(aH 0)) (ts:=["dial"]) (fs:=["self", "sizes"]) (js:=[0,1]) rfl rfl rfl rfl rfl rfl (.cons rfl (.cons rfl .nil)) (.cons rfl rfl (by walk_at "l") rfl rfl (.cons rfl rfl (by walk_at "l") rfl rfl .nil)) (eK (by rfl) T.eh ?_) gi (λ_ _ _ _ _=>(aM (i:=0) mz)) (λ_=>bh) bO (λ_ _ _ _ _=>?_)))
 walk_at "pp"
theorem og:((["made"]:List Str)++([]:List Str)).Nodup:=by decide +kernel
theorem qz(F:aY K "rows" "Rungs.rows" (inClass (top 48) 2) dv f fd)(T:Txt K mg)  : aJ P w K mg base (bF P w) 1 f fd ["self"] (cQ 1 gX) :=
 F.dR ["self"] λnd _ _ _ _ _ _ hr O=>by
 unfold gD;walk_at "t"
 walk_at "pp"
 refine(cF (bA (g:=(aH 0)) (ts:=["made"]) (fs:=[]) (js:=[]) (cl:=[]) rfl rfl rfl rfl rfl rfl .nil .nil (dc ?_) b_ (λ_ _ _ _ _=>(aM (i:=0) og)) (λ_=>bh) bO (λ_ _ _ _ _=>?_)))
 walk_at "pp"
theorem jc:((["lever", "row"]:List Str)++([]:List Str)).Nodup:=by decide +kernel
theorem oV(F:aY K "spans" "Rungs.spans" (inClass (top 48) 3) dv f fd)(T:Txt K mg)  : aJ P w K mg base (bF P w) 1 f fd ["self"] (cQ 1 fZ) :=
 F.dR ["self"] λnd _ _ _ _ _ _ hr O=>by
 unfold fV;walk_at "t"
 walk_at "pp"
 refine(cF (bA (g:=(iq K 2 (bq (aH 0) (bq (aH 1) ip)))) (ts:=["lever", "row"]) (fs:=[]) (js:=[]) (cl:=[]) rfl rfl rfl rfl rfl rfl .nil .nil (l_ (by rfl) T.dC ?_) kB (λ_ _ _ _ _=>(da (n:=2) rfl (aC (aM (i:=0) jc) (aC (aM (i:=1) jc) bZ)))) (λ_=>cC) cJ (λ_ _ _ _ _=>?_)))
 walk_at "pp"
theorem zt(F:aY K "nought" "nought" (top 29) dv f fd)(T:Txt K mg)(MH:iJ P w K mg base ay 1 "sizes" 1 (ax 1 a0)):aJ P w K mg base (bF P w) 2 f fd ["vault"] (cQ 1 gc) :=
 F.dR ["vault"] λnd _ _ _ _ _ _ hr O=>by
 unfold hX;walk_at "t"
 walk_at "pp"
theorem jK:((["notch", "size"]:List Str)++([]:List Str)).Nodup:=by decide +kernel
theorem qA(F:aY K "is_setting" "is_setting" (top 30) dv f fd)(T:Txt K mg)(MH:iJ P w K mg base ay 1 "sizes" 1 (ax 1 a0))(NX:cy P w K mg base 2 "is_row" 2 (ax 2 kb)):aJ P w K mg base (bF P w) 3 f fd ["vault", "thing"] (cQ 2 gA) :=
 F.dR ["vault", "thing", "sizes"] λnd _ _ _ _ _ _ hr O=>by
 unfold gK;walk_at "t"
 walk_at "pp"
 refine(mP ?_ (kZ ?_)).pt
 walk_at "pp"
 refine(oW (T := "tuple") (by rfl) T.c7 (jo (v:=.ty "tuple") (by rfl) T.sY qb rfl) (by decide) o7 o7 ?_)
 walk_at "pp"
 refine(cF (bA (g:=(iq K 2 (bq (aH 0) (bq (aH 1) ip)))) (ts:=["notch", "size"]) (fs:=[]) (js:=[]) (cl:=[]) rfl rfl rfl rfl rfl rfl .nil .nil (iS (by rfl) T.i4 ?_) fP (λ_ _ _ _ _=>(da (n:=2) rfl (aC (aM (i:=0) jK) (aC (aM (i:=1) jK) bZ)))) (λ_=>cC) cJ (λ_ _ _ _ _=>?_)))
 walk_at "pp"
 refine(uv vB pE B7 wy ?_ ?_ ?_)
 walk_at "pp"
theorem nL(F:aY K "need_setting" "need_setting" (top 31) dv f fd)(T:Txt K mg)(NY:cy P w K mg base 3 "is_setting" 2 (ax 3 gK)):aJ P w K mg base (bF P w) 4 f fd ["vault", "thing"] (cQ 2 bR) :=
 F.dR ["vault", "thing"] λnd _ _ _ _ _ _ hr O=>by
 unfold cX;walk_at "t"
 walk_at "pp"
theorem qg:((["notch", "turn"]:List Str)++(["times"]:List Str)).Nodup:=by decide +kernel
theorem Cz(F:aY K "added" "added" (top 32) dv f fd)(T:Txt K mg)(MH:iJ P w K mg base ay 1 "sizes" 1 (ax 1 a0))(NC:cy P w K mg base 1 "rests" 2 (ax 2 kl)):aJ P w K mg base (bF P w) 2 f fd ["vault", "setting", "other", "times"] (cQ 4 oG) :=
 F.dR ["vault", "setting", "other", "times", "numbers"] λnd _ _ _ _ _ _ hr O=>by
 unfold oy;walk_at "t"
 walk_at "pp"
 refine(tF (i:=4) (g:=(iq K 2 (bq (aH 0) (bq (aH 1) ip)))) (ts:=["notch", "turn"]) (fs:=["times"]) (js:=[3]) rfl rfl rfl rfl rfl rfl (.cons rfl .nil) (.cons rfl rfl (by walk_at "l") rfl rfl .nil) (iS (by rfl) T.i4 ?_) fP (λ_ _ _ _ _=>(da (n:=2) rfl (aC (aM (i:=0) qg) (aC (aM (i:=1) qg) bZ)))) (λ_=>cC) cJ (λ_ _ _ _ _=>?_) nd rfl (by walk_at "l"))
 walk_at "pp"
theorem v8(F:aY K "between" "between" (top 33) dv f fd)(T:Txt K mg)(MR:cy P w K mg base 4 "need_setting" 2 (ax 2 cX))(OR:cy P w K mg base 2 "added" 4 (ax 5 oy)):aJ P w K mg base (bF P w) 5 f fd ["vault", "one", "other"] (cQ 3 jd) :=
 F.dR ["vault", "one", "other"] λnd _ _ _ _ _ _ hr O=>by
 unfold i7;walk_at "t"
 walk_at "pp"
theorem p6:((["weight", "size"]:List Str)++(["around"]:List Str)).Nodup:=by decide +kernel
theorem Bp(F:aY K "weigh" "weigh" (top 35) dv f fd)(T:Txt K mg)(MR:cy P w K mg base 4 "need_setting" 2 (ax 2 cX))(M4:iJ P w K mg base ay 1 "around" 1 (ax 1 dE))(MH:iJ P w K mg base ay 1 "sizes" 1 (ax 1 a0))(Oi:cy P w K mg base 1 "rest_sum" 3 (ax 3 jv)):aJ P w K mg base (bF P w) 5 f fd ["vault", "weights", "setting"] (cQ 3 oF) :=
 F.dR ["vault", "weights", "setting", "around", "worths"] λnd _ _ _ _ _ _ hr O=>by
 unfold om;walk_at "t"
 walk_at "pp"
 refine(tF (i:=4) (g:=(iq K 2 (bq (aH 0) (bq (aH 1) ip)))) (ts:=["weight", "size"]) (fs:=["around"]) (js:=[3]) rfl rfl rfl rfl rfl rfl (.cons rfl .nil) (.cons rfl rfl (by walk_at "l") rfl rfl .nil) (iS (by rfl) T.i4 ?_) fP (λ_ _ _ _ _=>(da (n:=2) rfl (aC (aM (i:=0) p6) (aC (aM (i:=1) p6) bZ)))) (λ_=>cC) cJ (λ_ _ _ _ _=>?_) nd rfl (by walk_at "l"))
 walk_at "pp"
theorem vi(F:aY K "unpulled" "unpulled" (top 42) dv f fd)(T:Txt K mg)(MM:iJ P w K mg base ay 1 "levers" 1 (ax 1 bU)):aJ P w K mg base (bF P w) 2 f fd ["vault", "setting"] (cQ 2 fH) :=
 F.dR ["vault", "setting"] λnd _ _ _ _ _ _ hr O=>by
 unfold ia;walk_at "t"
 walk_at "pp"
theorem pF(F:aY K "pulled_once" "pulled_once" (top 43) dv f fd)(T:Txt K mg)(MM:iJ P w K mg base ay 1 "levers" 1 (ax 1 bU))(Ol:cy P w K mg base 1 "unit_row" 2 (ax 2 jl)):aJ P w K mg base (bF P w) 2 f fd ["vault", "lever"] (cQ 2 fY) :=
 F.dR ["vault", "lever", "levers"] λnd _ _ _ _ _ _ hr O=>by
 unfold fI;walk_at "t"
 walk_at "pp"
theorem iT:cv ["self", "vault", "sizes", "made_rows", "idle_rows", "lever", "taken"] ["self", "vault"] (bc (inClass (top 48) 0)):=.of
theorem nW:((["size"]:List Str)++(["vault"]:List Str)).Nodup:=by decide +kernel
theorem jL:((["dial", "made"]:List Str)++(["sizes", "made_rows"]:List Str)).Nodup:=by decide +kernel
theorem qX(F:aY K "__init__" "Rungs.__init__" (inClass (top 48) 0) dv f fd)(T:Txt K mg)(MH:iJ P w K mg base ay 1 "sizes" 1 (ax 1 a0))(M7:cy P w K mg base 2 "nought" 1 (ax 1 hX))(Np:cy P w K mg base 2 "unpulled" 2 (ax 2 ia))(MM:iJ P w K mg base ay 1 "levers" 1 (ax 1 bU))(NM:cy P w K mg base 2 "pulled_once" 2 (ax 3 fI))(Oj:cy P w K mg base 3 "taken_in" 3 (ax 9 jh))(Nm:cy P w K mg base 2 "in_spans" 2 (ax 4 ig))(NB:cy P w K mg base 3 "lowered" 4 (ax 6 i0)):aJ P w K mg base (bF P w) 4 f fd ["self", "vault"] (CL 2 au bI) :=
 F.Km iT (by decide) λ_ _ _ _ _ _ hr O=>by
 unfold jw;have:=iT.nd;have T2:=T;cases T2
 walk_at "pp"
 refine(cF (bA (g:=(aH 0)) (ts:=["size"]) (fs:=["vault"]) (js:=[1]) rfl rfl rfl rfl rfl rfl (.cons rfl .nil) (.cons rfl rfl (by walk_at "l") rfl rfl .nil) (dc ?_) b_ (λ_ _ _ _ _=>(aM (i:=0) nW)) (λ_=>bh) bO (λ_ _ _ _ _=>?_)))
 walk_at "pp"
 refine(bB (g:=(aH 5)) O rfl (eK (by rfl) T.eh ?_) gi (aM (i:=5) iT.nd) bh ?_)
 walk_at "pp"
 refine(xI 4 ?_)
 walk_at "pp"
 refine(jf (i:=0) rfl (by first | exact .inl rfl | exact .inr (.inl rfl)) T.ou T.kQ ?_)
 walk_at "pp"
 refine(jf (i:=0) rfl (by first | exact .inl rfl | exact .inr (.inl rfl)) T.ou T.iw ?_)
 walk_at "pp"
 refine(cF (bA (g:=(iq K 2 (bq (aH 0) (bq (aH 1) ip)))) (ts:=["dial", "made"]) (fs:=["sizes", "made_rows"]) (js:=[2,3]) rfl rfl rfl rfl rfl rfl (.cons rfl (.cons rfl .nil)) (.cons rfl rfl (by walk_at "l") rfl rfl (.cons rfl rfl (by walk_at "l") rfl rfl .nil)) (l_ (by rfl) T.dC ?_) kB (λ_ _ _ _ _=>(da (n:=2) rfl (aC (aM (i:=0) jL) (aC (aM (i:=1) jL) bZ)))) (λ_=>cC) cJ (λ_ _ _ _ _=>?_)))
 walk_at "pp"
 refine(jf (i:=0) rfl (by first | exact .inl rfl | exact .inr (.inl rfl)) T.ou T.iH ?_)
 walk_at "pp"
theorem jP(F:aY K "brought_down" "Rungs.brought_down" (inClass (top 48) 5) dv f fd)(T:Txt K mg)(MR:cy P w K mg base 4 "need_setting" 2 (ax 2 cX))(Np:cy P w K mg base 2 "unpulled" 2 (ax 2 ia))(MH:iJ P w K mg base ay 1 "sizes" 1 (ax 1 a0))(NB:cy P w K mg base 3 "lowered" 4 (ax 6 i0)):aJ P w K mg base (bF P w) 5 f fd ["self", "setting"] (cQ 2 bx) :=
 F.dR ["self", "setting"] λnd _ _ _ _ _ _ hr O=>by
 unfold bT;walk_at "t"
 walk_at "pp"
theorem pP(F:aY K "least" "Rungs.least" (inClass (top 48) 6) dv f fd)(T:Txt K mg)(MP:iJ P w K mg base au 5 "brought_down" 2 (ax 2 bT)):aJ P w K mg base (bF P w) 6 f fd ["self", "setting"] (cQ 2 dh) :=
 F.dR ["self", "setting"] λnd _ _ _ _ _ _ hr O=>by
 unfold dq;walk_at "t"
 walk_at "pp"
theorem kD:((["times"]:List Str)++([]:List Str)).Nodup:=by decide +kernel
theorem lY(F:aY K "pulls_to" "Rungs.pulls_to" (inClass (top 48) 7) dv f fd)(T:Txt K mg)(MP:iJ P w K mg base au 5 "brought_down" 2 (ax 2 bT))(M7:cy P w K mg base 2 "nought" 1 (ax 1 hX))(Nm:cy P w K mg base 2 "in_spans" 2 (ax 4 ig)):aJ P w K mg base (bF P w) 6 f fd ["self", "setting"] (cQ 2 bP) :=
 F.dR ["self", "setting", "made"] λnd _ _ _ _ _ _ hr O=>by
 unfold cn;walk_at "t"
 walk_at "pp"
 refine(cF (bA (g:=(aH 0)) (ts:=["times"]) (fs:=[]) (js:=[]) (cl:=[]) rfl rfl rfl rfl rfl rfl .nil .nil (dc ?_) b_ (λ_ _ _ _ _=>(aM (i:=0) kD)) (λ_=>bh) bO (λ_ _ _ _ _=>?_)))
 walk_at "pp"
theorem fw:((["size", "step"]:List Str)++([]:List Str)).Nodup:=by decide +kernel
theorem kE(F:aY K "weights_at" "Rungs.weights_at" (inClass (top 48) 8) dv f fd)(T:Txt K mg)(MH:iJ P w K mg base ay 1 "sizes" 1 (ax 1 a0))(M1:cy P w K mg base 2 "is_within" 3 (ax 3 eI))(N1:qW P w K mg base gj "NoDial" "dial")(M6:iJ P w K mg base au 2 "steps" 1 (ax 2 dW))(OU:cy P w K mg base 5 "weigh" 3 (ax 5 om))(M4:iJ P w K mg base ay 1 "around" 1 (ax 1 dE)):aJ P w K mg base (bF P w) 6 f fd ["self", "dial"] (cQ 2 bp) :=
 F.dR ["self", "dial", "sizes", "fills", "weights", "ahead", "weighed", "share"] λnd _ _ _ _ _ _ hr O=>by
 unfold cp;walk_at "t"
 walk_at "pp"
 refine(tF (i:=3) (g:=(iq K 2 (bq (aH 0) (bq (aH 1) ip)))) (ts:=["size", "step"]) (fs:=[]) (js:=[]) (cl:=[]) rfl rfl rfl rfl rfl rfl .nil .nil (iS (by rfl) T.i4 ?_) fP (λ_ _ _ _ _=>(da (n:=2) rfl (aC (aM (i:=0) fw) (aC (aM (i:=1) fw) bZ)))) (λ_=>cC) cJ (λ_ _ _ _ _=>?_) nd rfl (by walk_at "l"))
 walk_at "pp"
 refine(G8 ?_ ?_)
 walk_at "pp"
 refine(Fj (i:=4) rfl (by first | exact .inl rfl | exact .inr (.inl rfl)) ?_ ?_)
 walk_at "pp"
 refine(bB (g:=(aH 5)) O rfl (rX (by rfl) T.eh ?_) uz (aM (i:=5) nd) bh ?_)
 walk_at "pp"
 refine(xI 4 ?_)
 walk_at "pp"
 refine(Fj (i:=4) rfl (by first | exact .inl rfl | exact .inr (.inl rfl)) ?_ ?_)
 walk_at "pp"
theorem AG(F:aY K "bring" "bring" (top 50) dv f fd)(T:Txt K mg)(NA:cy P w K mg base 5 "between" 3 (ax 3 i7))(MK:r9 P w K mg base au 4 "Rungs" 2 [] bI)(MY:iJ P w K mg base au 6 "pulls_to" 2 (ax 3 cn))(Og:r9 P w K mg base eH 1 "Way" 2 [] ph)(MU:iJ P w K mg base au 6 "weights_at" 2 (ax 8 cp))(MV:iJ P w K mg base au 6 "least" 2 (ax 2 dq))(Nz:cy P w K mg base 1 "first_turned" 1 (ax 1 fc))(Of:r9 P w K mg base eP 1 "Bar" 2 [] pK):aJ P w K mg base (bF P w) 7 f fd ["vault", "one", "other"] (cQ 3 kd) :=
 F.dR ["vault", "one", "other", "difference", "rungs", "pulls"] λnd _ _ _ _ _ _ hr O=>by
 unfold lW;walk_at "t"
 walk_at "pp"
theorem lR(F:aY K "together_count" "together_count" (top 52) dv f fd)(T:Txt K mg)(MK:r9 P w K mg base au 4 "Rungs" 2 [] bI)(NG:iJ P w K mg base au 1 "spans" 1 (ax 1 fV))(Nb:cy P w K mg base 1 "product_of" 1 (ax 3 eX)):aJ P w K mg base (bF P w) 6 f fd ["vault"] (cQ 1 cT) :=
 F.dR ["vault"] λnd _ _ _ _ _ _ hr O=>by
 unfold dO;walk_at "t"
 walk_at "pp"
theorem oS(F:aY K "class_count" "class_count" (top 53) dv f fd)(T:Txt K mg)(MK:r9 P w K mg base au 4 "Rungs" 2 [] bI)(M6:iJ P w K mg base au 2 "steps" 1 (ax 2 dW))(Nb:cy P w K mg base 1 "product_of" 1 (ax 3 eX)):aJ P w K mg base (bF P w) 6 f fd ["vault"] (cQ 1 dU) :=
 F.dR ["vault"] λnd _ _ _ _ _ _ hr O=>by
 unfold fX;walk_at "t"
 walk_at "pp"
theorem vb(F:aY K "least_of" "least_of" (top 54) dv f fd)(T:Txt K mg)(MK:r9 P w K mg base au 4 "Rungs" 2 [] bI)(MV:iJ P w K mg base au 6 "least" 2 (ax 2 dq)):aJ P w K mg base (bF P w) 7 f fd ["vault", "setting"] (cQ 2 ic) :=
 F.dR ["vault", "setting"] λnd _ _ _ _ _ _ hr O=>by
 unfold jj;walk_at "t"
 walk_at "pp"
theorem yy(F:aY K "belong" "belong" (top 55) dv f fd)(T:Txt K mg)(NA:cy P w K mg base 5 "between" 3 (ax 3 i7))(MK:r9 P w K mg base au 4 "Rungs" 2 [] bI)(MV:iJ P w K mg base au 6 "least" 2 (ax 2 dq))(M7:cy P w K mg base 2 "nought" 1 (ax 1 hX)):aJ P w K mg base (bF P w) 7 f fd ["vault", "one", "other"] (cQ 3 lU) :=
 F.dR ["vault", "one", "other", "difference"] λnd _ _ _ _ _ _ hr O=>by
 unfold ly;walk_at "t"
 walk_at "pp"
theorem wc:((["row"]:List Str)++(["none"]:List Str)).Nodup:=by decide +kernel
theorem Bw(F:aY K "clear" "clear" (top 57) dv f fd)(T:Txt K mg)(M7:cy P w K mg base 2 "nought" 1 (ax 1 hX))(MK:r9 P w K mg base au 4 "Rungs" 2 [] bI)(NQ:iJ P w K mg base au 1 "rows" 1 (ax 1 gD))(MH:iJ P w K mg base ay 1 "sizes" 1 (ax 1 a0))(MZ:r9 P w K mg base ay 4 "Vault" 4 [.cR] eC):aJ P w K mg base (bF P w) 6 f fd ["vault"] (cQ 1 oq) :=
 F.dR ["vault", "none"] λnd _ _ _ _ _ _ hr O=>by
 unfold oJ;walk_at "t"
 walk_at "pp"
 refine(cF (Aq (g:=(aH 0)) (ts:=["row"]) (fs:=["none"]) (js:=[1]) rfl rfl rfl rfl rfl rfl (.cons rfl .nil) (.cons rfl rfl (by walk_at "l") rfl rfl .nil) (dc ?_) b_ (λ_ _ _ _ _=>(aM (i:=0) wc)) (λ_=>bh) bO (λ_ _ _ _ _=>?_) (λ_ _ _ _ _=>?_)))
 walk_at "pp"
theorem vP:((["dial"]:List Str)++(["rungs"]:List Str)).Nodup:=by decide +kernel
theorem yg(F:aY K "stills" "stills" (top 58) dv f fd)(T:Txt K mg)(MK:r9 P w K mg base au 4 "Rungs" 2 [] bI)(MH:iJ P w K mg base ay 1 "sizes" 1 (ax 1 a0))(MU:iJ P w K mg base au 6 "weights_at" 2 (ax 8 cp))(MZ:r9 P w K mg base ay 4 "Vault" 4 [.cR] eC)(OT:cy P w K mg base 6 "clear" 1 (ax 2 oJ)):aJ P w K mg base (bF P w) 7 f fd ["vault"] (cQ 1 lJ) :=
 F.dR ["vault", "rungs", "sizes"] λnd _ _ _ _ _ _ hr O=>by
 unfold lQ;walk_at "t"
 walk_at "pp"
 refine(cF (bA (g:=(aH 0)) (ts:=["dial"]) (fs:=["rungs"]) (js:=[1]) rfl rfl rfl rfl rfl rfl (.cons rfl .nil) (.cons rfl rfl (by walk_at "l") rfl rfl .nil) (eK (by rfl) T.eh ?_) gi (λ_ _ _ _ _=>(aM (i:=0) vP)) (λ_=>bh) bO (λ_ _ _ _ _=>?_)))
 walk_at "pp"
theorem qc(F:aY K "_law_barred" "_law_barred" (top 75) dv f fd)(T:Txt K mg)(MY:iJ P w K mg base au 6 "pulls_to" 2 (ax 3 cn))(MW:cy P w K mg base 2 "_law_turned" 4 (ax 7 dj)):aJ P w K mg base (bF P w) 7 f fd ["_law_sizes_here", "_law_rows", "_law_rungs", "_law_weights"] (cQ 4 fK) :=
 F.dR ["_law_sizes_here", "_law_rows", "_law_rungs", "_law_weights", "_law_pulls_here"] λnd _ _ _ _ _ _ hr O=>by
 unfold fS;walk_at "t"
 walk_at "pp"
theorem mh(F:aY K "_law_two_good" "_law_two_good" (top 76) dv f fd)(T:Txt K mg)(MH:iJ P w K mg base ay 1 "sizes" 1 (ax 1 a0))(MM:iJ P w K mg base ay 1 "levers" 1 (ax 1 bU))(M9:cy P w K mg base 3 "_law_alike" 4 (ax 5 eS))(OS:cy P w K mg base 7 "bring" 3 (ax 6 lW))(NR:iJ P w K mg base eH 1 "brings" 1 (ax 1 gO))(NP:iJ P w K mg base eP 1 "brings" 1 (ax 1 e9))(Oz:cy P w K mg base 7 "belong" 3 (ax 4 ly))(Oh:cy P w K mg base 7 "least_of" 2 (ax 2 jj))(N4:iJ P w K mg base eH 1 "words" 1 (ax 1 iz))(N3:iJ P w K mg base eP 1 "words" 1 (ax 1 iy))(MW:cy P w K mg base 2 "_law_turned" 4 (ax 7 dj))(NH:cy P w K mg base 7 "_law_barred" 4 (ax 5 fS)):aJ P w K mg base (bF P w) 8 f fd ["_law_vault", "_law_still", "_law_rungs", "_law_one", "_law_other"] (cQ 5 ee) :=
 F.dR ["_law_vault", "_law_still", "_law_rungs", "_law_one", "_law_other", "_law_sizes_here", "_law_rows", "_law_even", "_law_paper", "_law_word", "_law_numbers"] λnd _ _ _ _ _ _ hr O=>by
 unfold eo;walk_at "t"
 walk_at "pp"
 refine(mP ?_ (kZ ?_)).pt
 walk_at "pp"
 refine(H0 (g:=(iq K 2 (bq (aH 9) (bq (aH 10) ip)))) (da (n:=2) rfl (aC (aM (i:=9) nd) (aC (aM (i:=10) nd) bZ))) cC ?_)
 walk_at "pp"
 refine(s_ ?_ (tj ?_))
 walk_at "pp"
 refine(s_ ?_ (tj ?_))
 walk_at "pp"
theorem kF(F:aY K "_law_counts_good" "_law_counts_good" (top 77) dv f fd)(T:Txt K mg)(NJ:cy P w K mg base 6 "class_count" 1 (ax 1 fX))(Nl:cy P w K mg base 6 "together_count" 1 (ax 1 dO))(Nw:cy P w K mg base 1 "_law_product" 1 (ax 3 eT)):aJ P w K mg base (bF P w) 7 f fd ["_law_vault", "_law_still", "_law_sizes_here"] (cQ 3 c8) :=
 F.dR ["_law_vault", "_law_still", "_law_sizes_here", "_law_counts", "_law_count"] λnd _ _ _ _ _ _ hr O=>by
 unfold c_;walk_at "t"
 walk_at "pp"
 refine(bB (g:=(aH 4)) O rfl (dc ?_) b_ (aM (i:=4) nd) bh ?_)
 walk_at "pp"
 refine(mP ?_ (mP ?_ (kZ ?_))).pt
 walk_at "pp"
 refine(oW (T := "int") (by rfl) T.c7 (jo (v:=.ty "int") (by rfl) T.Au wC rfl) (by decide) o7 o7 ?_)
 walk_at "pp"
 refine(oW (T := "bool") (by rfl) T.c7 (jo (v:=.ty "bool") (by rfl) T.wV xQ rfl) (by decide) o7 o7 ?_)
 walk_at "pp"
 refine(mP ?_ (kZ ?_)).pt
 walk_at "pp"
theorem Cn:((["_law_dial"]:List Str)++(["_law_sizes_here", "_law_cell_here"]:List Str)).Nodup:=by decide +kernel
theorem FJ(F:aY K "law" "law" (top 78) dv f fd)(T:Txt K mg)(Ni:cy P w K mg base 1 "_law_cell" 2 (ax 2 f7))(NV:cy P w K mg base 2 "_law_sizes" 1 (ax 4 gM))(NI:cy P w K mg base 3 "_law_levers" 2 (ax 5 fO))(MZ:r9 P w K mg base ay 4 "Vault" 4 [.cR] eC)(OA:cy P w K mg base 7 "stills" 1 (ax 3 lQ))(MH:iJ P w K mg base ay 1 "sizes" 1 (ax 1 a0))(Nf:cy P w K mg base 7 "_law_counts_good" 3 (ax 5 c_))(MM:iJ P w K mg base ay 1 "levers" 1 (ax 1 bU))(M9:cy P w K mg base 3 "_law_alike" 4 (ax 5 eS))(MK:r9 P w K mg base au 4 "Rungs" 2 [] bI)(Nx:cy P w K mg base 2 "_law_setting" 2 (ax 2 fm))(NT:cy P w K mg base 2 "_law_pulls" 2 (ax 4 gR))(MW:cy P w K mg base 2 "_law_turned" 4 (ax 7 dj))(M8:cy P w K mg base 1 "_law_added" 4 (ax 4 fj))(Nq:cy P w K mg base 8 "_law_two_good" 5 (ax 11 eo)):aJ P w K mg base (bF P w) 9 f fd ["_law_script"] (cQ 1 rG) :=
 F.dR ["_law_script", "_law_sizes_here", "_law_levers_here", "_law_vault", "_law_still", "_law_row", "_law_rungs", "_law_k", "_law_cell_here", "_law_one", "_law_other"] λnd _ _ _ _ _ _ hr O=>by
 unfold B9;walk_at "t"
 walk_at "pp"
 refine(rJ ?_ Er (t5 ?_))
 walk_at "pp"
 refine(mP ?_ (kZ ?_)).pt
 walk_at "pp"
 refine(bB (g:=(aH 5)) O rfl (dc ?_) b_ (aM (i:=5) nd) bh ?_)
 walk_at "pp"
 refine(bB (g:=(iq K 2 (bq (aH 7) (bq (aH 8) ip)))) O rfl (l_ (by rfl) T.dC ?_) kB (da (n:=2) rfl (aC (aM (i:=7) nd) (aC (aM (i:=8) nd) bZ))) cC ?_)
 walk_at "pp"
 refine(rJ ?_ (t5 ?_) (t5 ?_))
 walk_at "pp"
 refine(cF (bA (g:=(aH 0)) (ts:=["_law_dial"]) (fs:=["_law_sizes_here", "_law_cell_here"]) (js:=[1,8]) rfl rfl rfl rfl rfl rfl (.cons rfl (.cons rfl .nil)) (.cons rfl rfl (by walk_at "l") rfl rfl (.cons rfl rfl (by walk_at "l") rfl rfl .nil)) (eK (by rfl) T.eh ?_) gi (λ_ _ _ _ _=>(aM (i:=0) Cn)) (λ_=>bh) bO (λ_ _ _ _ _=>?_)))
 walk_at "pp"
end vW
namespace vW
open PySem L2 PyProof.Rows
open PySem.W (nsIn findIn codeIn keepIn isFn mroIn specialIn takesIn hasDictIn typeIn plainGet plainOver makesIn mg_of mg_none_of fnOf excIn clsIn)
abbrev κ(w:World):PySem.W.Frag:=HD.K w.params
variable(w:World)
abbrev Gz:Value:=HD.st "dialvault.wholes" 363
abbrev xf:Value:=HD.st "dialvault.vault" 420
abbrev uu:Value:=HD.st "dialvault.rungs" 714
abbrev uc:Value:=HD.st "law_dialvault_k91_whole_pulls_and_weights" 946
abbrev GP:Value:=HD.st "dialvault.papers" 571
abbrev md5:Value:=HD.st "dialvault.classes" 898
abbrev L_:Value:=HD.st "dialvault.stills" 932
abbrev LZ:Value:=HD.st "dialvault.errors" 194
def iP:FuncData:=fnOf "__init__" "Vault.__init__" (iF (inClass (top 23) 0)) (fq (inClass (top 23) 0)) (bc (inClass (top 23) 0)) (.ref 208) .none .none xf none (.ref 212) .none
theorem lG:aY (κ w) "__init__" "Vault.__init__" (inClass (top 23) 0) (.ref 208) 213 iP:=.of (by kernel_rfl) (by kernel_rfl) (by kernel_rfl)
def jX:FuncData:=wG "__init__" "Way.__init__" (inClass (top 37) 0) GP 365
theorem wg:aY (κ w) "__init__" "Way.__init__" (inClass (top 37) 0) .none 366 jX:=.of (by kernel_rfl) (by kernel_rfl) (by kernel_rfl)
theorem wO:Binds (κ w) jX ["self", "pulls"] []:=Binds.all (Im λ_ _=>rfl)
def ka:FuncData:=wG "__init__" "Bar.__init__" (inClass (top 38) 0) GP 405
theorem v7:aY (κ w) "__init__" "Bar.__init__" (inClass (top 38) 0) .none 406 ka:=.of (by kernel_rfl) (by kernel_rfl) (by kernel_rfl)
theorem v_:Binds (κ w) ka ["self", "weights"] []:=Binds.all (Im λ_ _=>rfl)
def iU:FuncData:=wG "__init__" "Rungs.__init__" (inClass (top 48) 0) uu 490
theorem sD:aY (κ w) "__init__" "Rungs.__init__" (inClass (top 48) 0) .none 491 iU:=.of (by kernel_rfl) (by kernel_rfl) (by kernel_rfl)
theorem sR:Binds (κ w) iU ["self", "vault"] []:=Binds.all (Im λ_ _=>rfl)
def wD:FuncData:=wG "law" "law" (top 78) uc 716
theorem JZ:aY (κ w) "law" "law" (top 78) .none 717 wD:=.of (by kernel_rfl) (by kernel_rfl) (by kernel_rfl)
theorem tW:jI (κ w) j7:=⟨(by kernel_rfl),(by kernel_rfl),(by kernel_rfl),(by kernel_rfl),(by kernel_rfl),(by kernel_rfl),(by kernel_rfl),(by kernel_rfl),(by kernel_rfl)⟩
theorem w9:jI (κ w) ki:=⟨(by kernel_rfl),(by kernel_rfl),(by kernel_rfl),(by kernel_rfl),(by kernel_rfl),(by kernel_rfl),(by kernel_rfl),(by kernel_rfl),(by kernel_rfl)⟩
theorem rB:jI (κ w) gj:=⟨(by kernel_rfl),(by kernel_rfl),(by kernel_rfl),(by kernel_rfl),(by kernel_rfl),(by kernel_rfl),(by kernel_rfl),(by kernel_rfl),(by kernel_rfl)⟩
def iA:FuncData:=wG "__init__" "NoDial.__init__" (inClass (top 3) 0) LZ 54
theorem LD:(κ w).lookup 55=some ⟨.type "function", none,.func iA,⟨[]⟩⟩:=by kernel_rfl
theorem KZ:codeIn (κ w) (.ref 54) "NoDial.__init__" = true:=by kernel_rfl
theorem wU:Binds (κ w) iA ["self", "dial"] []:=Binds.all (Im λ_ _=>rfl)
theorem wX:cv ["self", "dial"] ["self", "dial"] (bc (inClass (top 3) 0)):=.of
theorem Lg:((clsIn (κ w) 65).any λcd=>gB cd.mro)=true:=by kernel_rfl
theorem K0:findIn (κ w) (.ref 65) "dial" = some none:=by kernel_rfl
theorem wt{P:Program}{w:World}{mg:Str->Option Value}{base:Heap}:aJ P w (κ w) mg base (bF P w) 1 55 iA ["self", "dial"] (zI (κ w) gj "dial") :=
 p7 (n0 := "self") (n1 := "dial") (fl := "dial") (LD w) (KZ w) wX (rB w) (Lg w) (K0 w) (by first | exact .inl rfl | exact .inr (.inl rfl)) (by first | exact .inl rfl | exact .inr (.inl rfl)) (by decide) (by decide) (by decide) (by decide) (λ_=>rfl)
theorem qa:jI (κ w) jb:=⟨(by kernel_rfl),(by kernel_rfl),(by kernel_rfl),(by kernel_rfl),(by kernel_rfl),(by kernel_rfl),(by kernel_rfl),(by kernel_rfl),(by kernel_rfl)⟩
def gQ:FuncData:=wG "__init__" "NoLever.__init__" (inClass (top 4) 0) LZ 80
theorem KW:(κ w).lookup 81=some ⟨.type "function", none,.func gQ,⟨[]⟩⟩:=by kernel_rfl
theorem Kr:codeIn (κ w) (.ref 80) "NoLever.__init__" = true:=by kernel_rfl
theorem u9:Binds (κ w) gQ ["self", "lever"] []:=Binds.all (Im λ_ _=>rfl)
theorem uW:cv ["self", "lever"] ["self", "lever"] (bc (inClass (top 4) 0)):=.of
theorem K5:((clsIn (κ w) 91).any λcd=>gB cd.mro)=true:=by kernel_rfl
theorem K9:findIn (κ w) (.ref 91) "lever" = some none:=by kernel_rfl
theorem vE{P:Program}{w:World}{mg:Str->Option Value}{base:Heap}:aJ P w (κ w) mg base (bF P w) 1 81 gQ ["self", "lever"] (zI (κ w) jb "lever") :=
 p7 (n0 := "self") (n1 := "lever") (fl := "lever") (KW w) (Kr w) uW (qa w) (K5 w) (K9 w) (by first | exact .inl rfl | exact .inr (.inl rfl)) (by first | exact .inl rfl | exact .inr (.inl rfl)) (by decide) (by decide) (by decide) (by decide) (λ_=>rfl)
theorem qm:jI (κ w) hG:=⟨(by kernel_rfl),(by kernel_rfl),(by kernel_rfl),(by kernel_rfl),(by kernel_rfl),(by kernel_rfl),(by kernel_rfl),(by kernel_rfl),(by kernel_rfl)⟩
def gT:FuncData:=wG "__init__" "NoPrice.__init__" (inClass (top 5) 0) LZ 106
theorem LR:(κ w).lookup 107=some ⟨.type "function", none,.func gT,⟨[]⟩⟩:=by kernel_rfl
theorem LP:codeIn (κ w) (.ref 106) "NoPrice.__init__" = true:=by kernel_rfl
theorem vg:Binds (κ w) gT ["self", "lever"] []:=Binds.all (Im λ_ _=>rfl)
theorem vh:cv ["self", "lever"] ["self", "lever"] (bc (inClass (top 5) 0)):=.of
theorem La:((clsIn (κ w) 117).any λcd=>gB cd.mro)=true:=by kernel_rfl
theorem Ll:findIn (κ w) (.ref 117) "lever" = some none:=by kernel_rfl
theorem vS{P:Program}{w:World}{mg:Str->Option Value}{base:Heap}:aJ P w (κ w) mg base (bF P w) 1 107 gT ["self", "lever"] (zI (κ w) hG "lever") :=
 p7 (n0 := "self") (n1 := "lever") (fl := "lever") (LR w) (LP w) vh (qm w) (La w) (Ll w) (by first | exact .inl rfl | exact .inr (.inl rfl)) (by first | exact .inl rfl | exact .inr (.inl rfl)) (by decide) (by decide) (by decide) (by decide) (λ_=>rfl)
theorem tR:jT (κ w) eP:=⟨(by kernel_rfl),(by kernel_rfl),(by kernel_rfl),(by kernel_rfl)⟩
theorem dG:jT (κ w) au:=⟨(by kernel_rfl),(by kernel_rfl),(by kernel_rfl),(by kernel_rfl)⟩
theorem fg:jT (κ w) ay:=⟨(by kernel_rfl),(by kernel_rfl),(by kernel_rfl),(by kernel_rfl)⟩
theorem sy:jT (κ w) eH:=⟨(by kernel_rfl),(by kernel_rfl),(by kernel_rfl),(by kernel_rfl)⟩
theorem JA:findIn (κ w) (.ref 423) "weights" = some none:=by kernel_rfl
theorem Jf:findIn (κ w) (.ref 540) "idle_rows" = some none:=by kernel_rfl
theorem IK:findIn (κ w) (.ref 540) "made_rows" = some none:=by kernel_rfl
theorem JP:findIn (κ w) (.ref 540) "vault" = some none:=by kernel_rfl
theorem J2:findIn (κ w) (.ref 244) "dial_sizes" = some none:=by kernel_rfl
theorem Jo:findIn (κ w) (.ref 244) "least_round" = some none:=by kernel_rfl
theorem Jq:findIn (κ w) (.ref 244) "lever_prices" = some none:=by kernel_rfl
theorem IQ:findIn (κ w) (.ref 244) "lever_settings" = some none:=by kernel_rfl
theorem Jy:findIn (κ w) (.ref 390) "pulls" = some none:=by kernel_rfl
theorem KA:nsIn (κ w) mainGlobals "LEAST_PRICE" = some (some (.int 1 430)):=by kernel_rfl
theorem LB:nsIn (κ w) mainGlobals "LEAST_SIZE" = some (some (.int 2 424)):=by kernel_rfl
theorem Lr:nsIn (κ w) mainGlobals "MOST_DIALS" = some (some (.int 6 422)):=by kernel_rfl
theorem LX:nsIn (κ w) mainGlobals "MOST_LEVERS" = some (some (.int 8 428)):=by kernel_rfl
theorem LU:nsIn (κ w) mainGlobals "MOST_PRICE" = some (some (.int 1000 432)):=by kernel_rfl
theorem Kz:nsIn (κ w) mainGlobals "MOST_SIZE" = some (some (.int 360 426)):=by kernel_rfl
theorem K_:(κ w).lookup 208=some (HD.tu [.none]):=by kernel_rfl
theorem tX:Binds (κ w) iP ["self", "sizes", "levers", "prices"] [.none]:=(lG w).binds (K_ w) rfl λ_ _ _ _ _ _ us hl=>by obtain⟨a,b,c,rfl⟩:=MC (show _=3 from (by simpa using hl));exact⟨_,rfl,rfl⟩
theorem txt{w:World}{h:Heap}{mg:Str->Option Value}(X:PySem.W.Frag.In (κ w) h)(G:h.Ns mainGlobals mg):Txt (κ w) mg where
 JR:=mg_none_of X G (by kernel_rfl)
 wV:=mg_none_of X G (by kernel_rfl)
 dC:=mg_none_of X G (by kernel_rfl)
 Au:=mg_none_of X G (by kernel_rfl)
 c7:=mg_none_of X G (by kernel_rfl)
 J6:=mg_none_of X G (by kernel_rfl)
 BB:=mg_none_of X G (by kernel_rfl)
 EW:=mg_none_of X G (by kernel_rfl)
 eh:=mg_none_of X G (by kernel_rfl)
 Jw:=mg_none_of X G (by kernel_rfl)
 sY:=mg_none_of X G (by kernel_rfl)
 i4:=mg_none_of X G (by kernel_rfl)
 qM:=⟨_,mg_of X G (KA w),⟨_,rfl⟩⟩
 tP:=⟨_,mg_of X G (LB w),⟨_,rfl⟩⟩
 sO:=⟨_,mg_of X G (Lr w),⟨_,rfl⟩⟩
 qJ:=⟨_,mg_of X G (LX w),⟨_,rfl⟩⟩
 uk:=⟨_,mg_of X G (LU w),⟨_,rfl⟩⟩
 uF:=⟨_,mg_of X G (Kz w),⟨_,rfl⟩⟩
 Fq:=tR w
 ou:=dG w
 lh:=fg w
 EZ:=sy w
 vO:=⟨(by kernel_rfl),tW w,(by kernel_rfl),(by kernel_rfl),mg_of X G (by kernel_rfl)⟩
 yK:=⟨(by kernel_rfl),w9 w,(by kernel_rfl),(by kernel_rfl),mg_of X G (by kernel_rfl)⟩
 kO:=(JA w)
 iH:=(Jf w)
 iw:=(IK w)
 kQ:=(JP w)
 ib:=(J2 w)
 gy:=(Jo w)
 f_:=(Jq w)
 eY:=(IQ w)
 m_:=(Jy w)
 sT:=λC h=>by obtain rfl:=eq_of_beq h;exact⟨fg w,(J2 w)⟩
 vM:=λC h=>by obtain rfl:=eq_of_beq h;exact⟨dG w,(Jf w)⟩
 qT:=λC h=>by obtain rfl:=eq_of_beq h;exact⟨fg w,(Jo w)⟩
 p9:=λC h=>by obtain rfl:=eq_of_beq h;exact⟨fg w,(Jq w)⟩
 mJ:=λC h=>by obtain rfl:=eq_of_beq h;exact⟨fg w,(IQ w)⟩
 u_:=λC h=>by obtain rfl:=eq_of_beq h;exact⟨dG w,(IK w)⟩
 Ds:=λC h=>by obtain rfl:=eq_of_beq h;exact⟨sy w,(Jy w)⟩
 C9:=λC h=>by obtain rfl:=eq_of_beq h;exact⟨dG w,(JP w)⟩
 zB:=λC h=>by obtain rfl:=eq_of_beq h;exact⟨tR w,(JA w)⟩
theorem G0{P:Program}{w:World}{h:Heap}{mg:Str->Option Value}(X:PySem.W.Frag.In (κ w) h)(G:h.Ns mainGlobals mg)(base:Heap):aJ P w (κ w) mg base (bF P w) 9 717 wD ["_law_script"] (cQ 1 rG):=by
 have T:=txt X G
 have N1:qW P w (κ w) mg base gj "NoDial" "dial" := ⟨⟨55,iA,["self", "dial"],(by kernel_rfl),(by kernel_rfl),wt,wU w⟩,rB w,(by kernel_rfl),(by kernel_rfl),mg_of X G (by kernel_rfl)⟩
 have Ou:qW P w (κ w) mg base jb "NoLever" "lever" := ⟨⟨81,gQ,["self", "lever"],(by kernel_rfl),(by kernel_rfl),vE,u9 w⟩,qa w,(by kernel_rfl),(by kernel_rfl),mg_of X G (by kernel_rfl)⟩
 have Ov:qW P w (κ w) mg base hG "NoPrice" "lever" := ⟨⟨107,gT,["self", "lever"],(by kernel_rfl),(by kernel_rfl),vS,vg w⟩,qm w,(by kernel_rfl),(by kernel_rfl),mg_of X G (by kernel_rfl)⟩
 have Nn:=gm P w base X G 164 163 Gz λD=>vx D T
 have NX:=gm P w base X G 169 168 Gz λD=>zQ D T Nn
 have NW:=gm P w base X G 176 175 Gz λD=>zD D T
 have NK:=gm P w base X G 183 182 Gz λD=>pD D T NW
 have Nb:=gm P w base X G 190 189 Gz λD=>rg D T
 have Ol:=gm P w base X G 195 194 Gz λD=>uT D T
 have Oi:=gm P w base X G 200 199 Gz λD=>vp D T
 have M1:=gm P w base X G 255 254 xf λD=>ui D T Nn
 have NZ:=gm P w base X G 262 261 xf λD=>qN D T N1 M1
 have NL:=gm P w base X G 269 268 xf λD=>qr D T NX Ou
 have N0:=gm P w base X G 276 275 xf λD=>qC D T Ov M1
 have NC:=gm P w base X G 281 280 xf λD=>Bu D T
 have N_:=gm P w base X G 430 429 uu λD=>By D T
 have Na:=gm P w base X G 437 436 uu λD=>qZ D T N_ NC
 have M3:=gm P w base X G 458 457 uu λD=>tZ D T
 have Oj:=gm P w base X G 465 464 uu λD=>uC D T M3 NW Na
 have NB:=gm P w base X G 472 471 uu λD=>wR D T M3 Na
 have Nm:=gm P w base X G 479 478 uu λD=>va D T N_
 have Nz:=gm P w base X G 549 548 uu λD=>nN D T
 have Ni:=gm P w base X G 601 600 uc λD=>sH D T
 have MO:=gm P w base X G 608 607 uc λD=>qj D T
 have MN:=gm P w base X G 615 614 uc λD=>pk D T
 have NV:=gm P w base X G 620 619 uc λD=>rf D T MN MO
 have M_:=gm P w base X G 627 626 uc λD=>qU D T
 have NS:=gm P w base X G 634 633 uc λD=>qF D T MO M_
 have NI:=gm P w base X G 641 640 uc λD=>oN D T Ni MN NS
 have NU:=gm P w base X G 648 647 uc λD=>qD D T
 have M8:=gm P w base X G 653 652 uc λD=>qO D T
 have MW:=gm P w base X G 660 659 uc λD=>o8 D T M8
 have Ny:=gm P w base X G 667 666 uc λD=>nB D T NU
 have Nx:=gm P w base X G 672 671 uc λD=>n5 D T MN MO
 have NT:=gm P w base X G 677 676 uc λD=>qI D T MN MO M_
 have Nw:=gm P w base X G 684 683 uc λD=>n6 D T
 have M9:=gm P w base X G 691 690 uc λD=>qY D T Ny
 have MZ:r9 P w (κ w) mg base ay 4 "Vault" 4 [.cR] eC:=⟨⟨213,iP,["self", "sizes", "levers", "prices"],[.none],[.cR],mg_of X G (by kernel_rfl),⟨(by kernel_rfl),(by kernel_rfl),(by kernel_rfl),(by kernel_rfl)⟩,tX w,(.cons rfl .nil),λ_=>(.cons .cR .nil),qG (lG w) T NZ NL NC N0 NK⟩⟩
 have MH:=wu P w base (fg w) 220 219 xf λD=>pW D T
 have MM:=wu P w base (fg w) 227 226 xf λD=>nM D T
 have Pk:=wu P w base (fg w) 234 233 xf λD=>nY D T
 have M4:=wu P w base (fg w) 241 240 xf λD=>nR D T
 have NP:=wu P w base (tR w) 331 330 GP λD=>nA D T
 have Og:r9 P w (κ w) mg base eH 1 "Way" 2 [] ph:=⟨⟨366,jX,["self", "pulls"],[],[],mg_of X G (by kernel_rfl),⟨(by kernel_rfl),(by kernel_rfl),(by kernel_rfl),(by kernel_rfl)⟩,wO w,.nil,λ_=>.nil,vV (wg w) T ⟩⟩
 have NR:=wu P w base (sy w) 373 372 GP λD=>qH D T
 have N4:=wu P w base (sy w) 387 386 GP λD=>sP D T
 have Of:r9 P w (κ w) mg base eP 1 "Bar" 2 [] pK:=⟨⟨406,ka,["self", "weights"],[],[],mg_of X G (by kernel_rfl),⟨(by kernel_rfl),(by kernel_rfl),(by kernel_rfl),(by kernel_rfl)⟩,v_ w,.nil,λ_=>.nil,vH (v7 w) T ⟩⟩
 have N3:=wu P w base (tR w) 420 419 GP λD=>t_ D T
 have M6:=wu P w base (dG w) 496 495 uu λD=>pM D T MH M3
 have NQ:=wu P w base (dG w) 501 500 uu λD=>qz D T
 have NG:=wu P w base (dG w) 506 505 uu λD=>oV D T
 have M7:=gm P w base X G 288 287 xf λD=>zt D T MH
 have NY:=gm P w base X G 293 292 xf λD=>qA D T MH NX
 have MR:=gm P w base X G 300 299 xf λD=>nL D T NY
 have OR:=gm P w base X G 305 304 xf λD=>Cz D T MH NC
 have NA:=gm P w base X G 312 311 xf λD=>v8 D T MR OR
 have OU:=gm P w base X G 317 316 GP λD=>Bp D T MR M4 MH Oi
 have Np:=gm P w base X G 444 443 uu λD=>vi D T MM
 have NM:=gm P w base X G 451 450 uu λD=>pF D T MM Ol
 have MK:r9 P w (κ w) mg base au 4 "Rungs" 2 [] bI:=⟨⟨491,iU,["self", "vault"],[],[],mg_of X G (by kernel_rfl),⟨(by kernel_rfl),(by kernel_rfl),(by kernel_rfl),(by kernel_rfl)⟩,sR w,.nil,λ_=>.nil,qX (sD w) T MH M7 Np MM NM Oj Nm NB⟩⟩
 have MP:=wu P w base (dG w) 520 519 uu λD=>jP D T MR Np MH NB
 have MV:=wu P w base (dG w) 527 526 uu λD=>pP D T MP
 have MY:=wu P w base (dG w) 532 531 uu λD=>lY D T MP M7 Nm
 have MU:=wu P w base (dG w) 537 536 uu λD=>kE D T MH M1 N1 M6 OU M4
 have OS:=gm P w base X G 556 555 uu λD=>AG D T NA MK MY Og MU MV Nz Of
 have Nl:=gm P w base X G 563 562 md5 λD=>lR D T MK NG Nb
 have NJ:=gm P w base X G 570 569 md5 λD=>oS D T MK M6 Nb
 have Oh:=gm P w base X G 577 576 md5 λD=>vb D T MK MV
 have Oz:=gm P w base X G 584 583 md5 λD=>yy D T NA MK MV M7
 have OT:=gm P w base X G 589 588 L_ λD=>Bw D T M7 MK NQ MH MZ
 have OA:=gm P w base X G 594 593 L_ λD=>yg D T MK MH MU MZ OT
 have NH:=gm P w base X G 698 697 uc λD=>qc D T MY MW
 have Nq:=gm P w base X G 705 704 uc λD=>mh D T MH MM M9 OS NR NP Oz Oh N4 N3 MW NH
 have Nf:=gm P w base X G 712 711 uc λD=>kF D T NJ Nl Nw
 exact FJ (JZ w) T Ni NV NI MZ OA MH Nf MM M9 MK Nx NT MW M8 Nq
theorem Kq:xy (κ w)=true:=by kernel_rfl
theorem KN:nsIn (κ w) mainGlobals "law" = some (some (.ref 717)):=by kernel_rfl
end vW
open PySem PySem.W
theorem vW.hold(said:PySem.Challenge.rw_dialvault_k91_whole_pulls_and_weights.wellSaid=true)(PX:∀ ns:List Int,ns.length<=63->(∀ i∈ns,Builtin.Int.intBits i<=1048576)->vW.rG [.jO (ns.map L2.PV.int)]=L2.M.ok (.bl true)):PySem.Challenge.rw_dialvault_k91_whole_pulls_and_weights.Holds:=by
 refine holds_law said λsaid=>?_
 refine holds_open (q:=HD.vw) (loose:=HD.loose) (Xt:=HD.Xt) (XP:=XL HD.vw []) (Yf:=Hook.obs HD.hook) (Ya:=Hook.val HD.hook) (YP:=Hook.says HD.hook) HD.Jh (Hook.of HD.hook) (Hook.keeps HD.hook) (λs e=>xl_of s (Bool.and_eq_true_iff.mp e).1) XL.keeps (by rfl) (by rfl) (by rfl) (λs e=>recFacts_of (Bool.and_eq_true_iff.mp e).2) (by rfl) said (by decide +kernel) ⟨rfl,rfl,rfl,rfl,rfl,by decide +kernel⟩ ?hw ?hc
 case hw=>w_witness2
 refine L2.xi (l:=PySem.Challenge.rw_dialvault_k91_whole_pulls_and_weights) (n:=63) (k:=9) (x := "_law_script") (K:=HD.K) (sem:=vW.rG) rfl (by decide) rfl ⟨rfl,by decide,by decide⟩ (λw h Y=>PySem.W.kIn_of Y) (λw=>vW.Kq w) (λw mg fa h X G hmg=>?_) PX
 have e:=hmg.symm.trans (PySem.W.mg_of X G (vW.KN w))
 cases e
 exact⟨vW.wD,λs v=>.of_eq rfl,λbase X' G'=>vW.G0 X' G' base⟩
namespace Eu
theorem rC(a b:Int)(hb:b≠0):(a-a.fdiv b*b).natAbs<b.natAbs/\0<=(a-a.fdiv b*b)*b/\(0<=a*b->a.natAbs=(a.fdiv b).natAbs*b.natAbs+(a-a.fdiv b*b).natAbs):=by
 have pos:∀ (a b:Int),0<b->(a-a/b*b).natAbs<b.natAbs/\0<=(a-a/b*b)*b/\(0<=a*b->a.natAbs=(a/b).natAbs*b.natAbs+(a-a/b*b).natAbs):=by
  intro a b hb
  have e:a-a/b*b=a%b:=by
   have h:=Int.mul_ediv_add_emod a b
   rw[Int.mul_comm] at h
   omega
  have h0:=Int.emod_nonneg a (by omega:b≠0)
  have h1:=Int.emod_lt_of_pos a hb
  rw[e]
  refine⟨by omega,Int.mul_nonneg h0 (by omega),λhab=>?_⟩
  have ha:0<=a:=by
   rcases Int.lt_or_le a 0 with h | h
   ·have:=Int.mul_neg_of_neg_of_pos h hb
    omega
   ·exact h
  have hq:0<=a/b:=Int.ediv_nonneg ha (by omega)
  have h2:=Int.mul_ediv_add_emod a b
  have h3:((a/b).natAbs*b.natAbs:Nat)=(b*(a/b)).natAbs:=by
   rw[Int.natAbs_mul,Nat.mul_comm]
  rw[h3]
  have h4:0<=b*(a/b):=Int.mul_nonneg (by omega) hq
  omega
 rcases Int.lt_or_le 0 b with h | h
 ·rw[Int.fdiv_eq_ediv_of_nonneg a (by omega)]
  exact pos a b h
 ·have h':0 < -b:=by omega
  have e:a.fdiv b=(-a)/(-b):=by
   rw[← Int.fdiv_eq_ediv_of_nonneg (-a) (by omega:0<=-b),Int.neg_fdiv_neg]
  obtain⟨p1,p2,p3⟩:=pos (-a) (-b) h'
  have e2:-a-(-a)/(-b)*(-b)=-(a-a.fdiv b*b):=by
   rw[← e,Int.mul_neg]
   omega
  rw[e2] at p1 p2 p3
  rw[← e] at p3
  simp only[Int.natAbs_neg,Int.neg_mul_neg] at p1 p2 p3
  exact⟨p1,p2,p3⟩
structure St (a b:Int) (r s t r' s' t':Int):Prop where
 c0:r=s*a+t*b
 c1:r'=s'*a+t'*b
 dv:∀ d:Int,d∣r->d∣r'->d∣a/\d∣b
 bd:s'.natAbs*r.natAbs+s.natAbs*r'.natAbs<=b.natAbs
 sg:s'=0\/0<=r*r'
 b0:s.natAbs<=b.natAbs+1
 b1:s'.natAbs<=b.natAbs+1
 d0:t.natAbs<=a.natAbs+(b.natAbs+1)*a.natAbs+b.natAbs+1
 d1:t'.natAbs<=a.natAbs+(b.natAbs+1)*a.natAbs+b.natAbs+1
 m0:r.natAbs<=a.natAbs+b.natAbs
 m1:r'.natAbs<=b.natAbs
theorem start(a b:Int):St a b a 1 0 b 0 1 where
 c0:=by omega
 c1:=by omega
 dv:=λd h1 h2=>⟨h1,h2⟩
 bd:=by simp
 sg:=.inl rfl
 b0:=by omega
 b1:=by omega
 d0:=by simp
 d1:=by omega
 m0:=by omega
 m1:=by omega
theorem turn{a b r s t r' s' t':Int}(h:St a b r s t r' s' t')(h0:r'≠0) :
  St a b r' s' t' (r-r.fdiv r'*r') (s-r.fdiv r'*s') (t-r.fdiv r'*t')/\(r-r.fdiv r'*r').natAbs<r'.natAbs:=by
 obtain⟨f1,f2,f3⟩:=rC r r' h0
 generalize hq:r.fdiv r'=q at *
 have hb:b≠0:=by
  intro z
  have:=h.m1
  omega
 have hr':1<=r'.natAbs:=by omega
 have c1':r-q*r'=(s-q*s')*a+(t-q*t')*b:=by
  rw[h.c0,h.c1,Int.sub_mul,Int.sub_mul,Int.mul_add,Int.mul_assoc,Int.mul_assoc]
  omega
 have bd':(s-q*s').natAbs*r'.natAbs+s'.natAbs*(r-q*r').natAbs<=b.natAbs:=by
  have uo:(s-q*s').natAbs<=s.natAbs+q.natAbs*s'.natAbs:=by
   rw[← Int.natAbs_mul]
   omega
  have hbd:=h.bd
  rcases h.sg with z | z
  ·subst z
   simp only[Int.mul_zero,Int.sub_zero,Int.natAbs_zero,Nat.zero_mul,Nat.zero_add,Nat.add_zero] at hbd ⊢
   exact hbd
  ·have e:=f3 z
   have k1:(s-q*s').natAbs*r'.natAbs<=(s.natAbs+q.natAbs*s'.natAbs)*r'.natAbs:=Nat.mul_le_mul_right _ uo
   have k2:(s.natAbs+q.natAbs*s'.natAbs)*r'.natAbs+s'.natAbs*(r-q*r').natAbs=s'.natAbs*r.natAbs+s.natAbs*r'.natAbs:=by
    rw[e,Nat.add_mul,Nat.mul_add,Nat.mul_comm q.natAbs s'.natAbs,Nat.mul_assoc]
    omega
   omega
 have b1':(s-q*s').natAbs<=b.natAbs:=by
  have:(s-q*s').natAbs*1<=(s-q*s').natAbs*r'.natAbs:=Nat.mul_le_mul_left _ hr'
  omega
 have mm:(r-q*r').natAbs<=b.natAbs:=by
  have:=h.m1
  omega
 have d1':(t-q*t').natAbs<=a.natAbs+(b.natAbs+1)*a.natAbs+b.natAbs+1:=by
  have e:(t-q*t')*b=(r-q*r')-(s-q*s')*a:=by omega
  have e1:((t-q*t')*b).natAbs<=(r-q*r').natAbs+((s-q*s')*a).natAbs:=by omega
  rw[Int.natAbs_mul,Int.natAbs_mul] at e1
  have k1:(t-q*t').natAbs*1<=(t-q*t').natAbs*b.natAbs:=Nat.mul_le_mul_left _ (by omega)
  have k2:(s-q*s').natAbs*a.natAbs<=(b.natAbs+1)*a.natAbs:=Nat.mul_le_mul_right _ (by omega)
  omega
 refine⟨⟨h.c1,c1',λd e1 e2=>?_,bd',?_,h.b1,by omega,h.d1,d1',?_,mm⟩,f1⟩
 ·refine h.dv d ?_ e1
  have e3:d∣q*r':=Int.dvd_trans e1 (Int.dvd_mul_left _ _)
  have e4:=Int.dvd_add e2 e3
  rwa [Int.sub_add_cancel] at e4
 ·exact .inr (by rw[Int.mul_comm];exact f2)
 ·have:=h.m1
  omega
theorem done{a b r s t s' t':Int}(h:St a b r s t 0 s' t'):r∣a/\r∣b:=h.dv r (Int.dvd_refl r) (Int.dvd_zero r)
end Eu
namespace Lc
def Bn(ns:List Nat):Nat:=ns.foldl Nat.lcm 1
theorem xK:∀ (ns:List Nat) (m:Nat),m∣ns.foldl Nat.lcm m/\(∀ n∈ns,n∣ns.foldl Nat.lcm m)/\(∀ k,m∣k->(∀ n∈ns,n∣k)->ns.foldl Nat.lcm m∣k)
 | [],m=>⟨Nat.dvd_refl m,(λ_ h=>nomatch h),λk h _=>h⟩
 | n::ns,m=>by
  obtain⟨h1,h2,h3⟩:=xK ns (Nat.lcm m n)
  refine⟨Nat.dvd_trans (Nat.dvd_lcm_left m n) h1,λx hx=>?_,λk hm hk=>?_⟩
  ·rcases List.mem_cons.mp hx with e | hx
   ·rw[e];exact Nat.dvd_trans (Nat.dvd_lcm_right m n) h1
   ·exact h2 x hx
  ·exact h3 k (Nat.lcm_dvd hm (hk n List.mem_cons_self)) λx hx=>hk x (List.mem_cons_of_mem _ hx)
theorem lcm_dvd{ns:List Nat}{n:Nat}(h:n∈ns):n∣Bn ns:=(xK ns 1).2.1 n h
theorem nu:∀ (ns:List Nat) (m:Nat),0<m->(∀ n∈ns,0<n)->0<ns.foldl Nat.lcm m
 | [],m,h,_=>h
 | n::ns,m,h,hp=>nu ns (Nat.lcm m n) (Nat.lcm_pos h (hp n List.mem_cons_self)) λx hx=>hp x (List.mem_cons_of_mem _ hx)
theorem lcm_pos{ns:List Nat}(h:∀ n∈ns,0<n):0<Bn ns:=nu ns 1 (by decide) h
theorem pj(B:Nat):∀ (ns:List Nat) (m k:Nat),0<m->m<=2^k->(∀ n∈ns,0<n/\n<=2^B)->ns.foldl Nat.lcm m<=2^(k+B*ns.length)
 | [],m,k,_,h,_=>by simpa using h
 | n::ns,m,k,h0,h,hp=>by
  have hn:=hp n List.mem_cons_self
  have h1:Nat.lcm m n<=2^(k+B):=by
   have:Nat.lcm m n<=m*n:=Nat.le_of_dvd (Nat.mul_pos h0 hn.1) (Nat.lcm_dvd (Nat.dvd_mul_right m n) (Nat.dvd_mul_left n m))
   rw[Nat.pow_add]
   exact Nat.le_trans this (Nat.mul_le_mul h hn.2)
  have h2:=pj B ns (Nat.lcm m n) (k+B) (Nat.lcm_pos h0 hn.1) h1 λx hx=>hp x (List.mem_cons_of_mem _ hx)
  have e:k+B*(n::ns).length=k+B+B*ns.length:=by
   rw[List.length_cons,Nat.mul_succ];omega
  rw[e]
  exact h2
theorem Bq(m n:Nat):m/Nat.gcd m n*n=Nat.lcm m n:=by
 unfold Nat.lcm
 rw[Nat.div_mul_right_comm (Nat.gcd_dvd_left m n)]
end Lc
namespace Rg
abbrev bJ:=Nat->Int
def aQ(s:bJ)(D:Nat->bJ)(d:Nat):Int:=if D d d=0 then s d else D d d
def G(n:Nat)(s:bJ)(D:Nat->bJ):Nat->Nat->bJ->Prop
 | 0,_,v=>∀ i,i<n->s i∣v i
 | k+1,d,v=>aQ s D d∣v d/\G n s D k (d+1) λi=>v i-v d/aQ s D d*D d i
def U(i:Nat)(c:Int):bJ:=λj=>if j=i then c else 0
section
variable{n:Nat}{s:bJ}{D:Nat->bJ}
theorem G.ext:∀ {k d:Nat} {v w:bJ},d+k=n->(∀ i,i<n->v i=w i)->G n s D k d v->G n s D k d w
 | 0,d,v,w,_,e,h=>λi hi=>by rw[← e i hi];exact h i hi
 | k+1,d,v,w,hn,e,h=>by
  have ed:=e d (by omega)
  refine⟨by rw[← ed];exact h.1,G.ext (by omega) (λi hi=>?_) h.2⟩
  rw[e i hi,ed]
theorem G.add:∀ {k d:Nat} {v w:bJ},d+k=n->G n s D k d v->G n s D k d w->G n s D k d λi=>v i+w i
 | 0,d,v,w,_,h,h'=>λi hi=>Int.dvd_add (h i hi) (h' i hi)
 | k+1,d,v,w,hn,h,h'=>by
  refine⟨Int.dvd_add h.1 h'.1,G.ext (by omega) (λi hi=>?_) (G.add (by omega) h.2 h'.2)⟩
  show _=v i+w i-(v d+w d)/aQ s D d*D d i
  rw[Int.add_ediv_of_dvd_left h.1,Int.add_mul]
  omega
theorem G.mul(c:Int):∀ {k d:Nat} {v:bJ},d+k=n->G n s D k d v->G n s D k d λi=>c*v i
 | 0,d,v,_,h=>λi hi=>Int.dvd_trans (h i hi) (Int.dvd_mul_left _ _)
 | k+1,d,v,hn,h=>by
  refine⟨Int.dvd_trans h.1 (Int.dvd_mul_left _ _),G.ext (by omega) (λi hi=>?_) (G.mul c (by omega) h.2)⟩
  show _=c*v i-c*v d/aQ s D d*D d i
  rw[Int.mul_ediv_assoc c h.1,Int.mul_sub,Int.mul_assoc]
theorem G.zero:∀ {k d:Nat},d+k=n->G n s D k d λ_=>0
 | 0,d,_=>λi _=>Int.dvd_zero _
 | k+1,d,hn=>⟨Int.dvd_zero _,G.ext (by omega) (λi hi=>by simp) (G.zero (k:=k) (d:=d+1) (by omega))⟩
theorem G.skip{v:bJ}:∀ {j k d:Nat},d+(j+k)=n->(∀ i,d<=i->i<d+j->v i=0)->G n s D k (d+j) v->G n s D (j+k) d v
 | 0,k,d,_,_,h=>by rw[Nat.zero_add];exact h
 | j+1,k,d,hn,hz,h=>by
  rw[show j+1+k=(j+k)+1 by omega]
  have z:=hz d (Nat.le_refl _) (by omega)
  refine⟨by rw[z];exact Int.dvd_zero _,G.ext (v:=v) (by omega) (λi hi=>by rw[z];simp) (G.skip (by omega) (λi h1 h2=>hz i (by omega) (by omega)) (by rw[show d+1+j=d+(j+1) by omega];exact h))⟩
end
structure Good (n:Nat) (s:bJ) (D:Nat->bJ):Prop where
 sp:∀ i,i<n->0<s i
 je:∀ d,d<n->∀ i,i<n->0<=D d i/\D d i<s i
 uo:∀ d,d<n->∀ i,i<d->D d i=0
 dv:∀ d,d<n->aQ s D d∣s d
 Iv:∀ d k,d+(k+1)=n->G n s D k (d+1) λi=>s d/aQ s D d*D d i
section
variable{n:Nat}{s:bJ}{D:Nat->bJ}
theorem Good.pos(g:Good n s D){d:Nat}(h:d<n):0<aQ s D d/\aQ s D d<=s d:=by
 have h1:=g.je d h d h
 have h2:=g.sp d h
 unfold aQ
 split <;> omega
theorem Good.diag(g:Good n s D){d:Nat}(h:d<n):s d∣D d d-aQ s D d:=by
 unfold aQ
 split
 ·rename_i z;rw[z];exact⟨-1,by omega⟩
 ·rw[Int.sub_self];exact Int.dvd_zero _
theorem Good.turn(g:Good n s D):∀ {k d i:Nat} (c:Int),d+k=n->i<n->G n s D k d (U i (c*s i))
 | 0,d,i,c,_,hi=>λj hj=>by
  unfold U
  split
  ·rename_i z;rw[z];exact Int.dvd_mul_left _ _
  ·exact Int.dvd_zero _
 | k+1,d,i,c,hn,hi=>by
  have hd:d<n:=by omega
  by_cases z:i=d
  ·subst z
   have dv:=g.dv i hi
   refine⟨by show _∣U i _ i;rw[U,if_pos rfl];exact Int.dvd_trans dv (Int.dvd_mul_left _ _),?_⟩
   refine G.ext (by omega) (λj hj=>?_) (G.add (by omega) (g.turn (k:=k) (d:=i+1) (i:=i) c (by omega) hi) (G.mul (-c) (by omega) (g.Iv i k hn)))
   show U i (c*s i) j+-c*(s i/aQ s D i*D i j)=U i (c*s i) j-U i (c*s i) i/aQ s D i*D i j
   rw[show U i (c*s i) i=c*s i by rw[U,if_pos rfl],Int.mul_ediv_assoc c dv,Int.neg_mul,Int.mul_assoc]
   omega
  ·have u0:U i (c*s i) d=0:=by rw[U,if_neg (Ne.symm z)]
   refine⟨by rw[u0];exact Int.dvd_zero _,G.ext (by omega) (λj hj=>?_) (g.turn (k:=k) (d:=d+1) (i:=i) c (by omega) hi)⟩
   rw[u0];simp
theorem G.lL{k d:Nat}{v w:bJ}(ht:∀ i c,i<n->G n s D k d (U i (c*s i)))(hn:d+k=n)(h:∀ i,i<n->s i∣w i-v i)(hv:G n s D k d v):G n s D k d w:=by
 have key:∀ m,m<=n->G n s D k d λi=>if i<m then w i else v i:=by
  intro m
  induction m with
  | zero=>intro _;exact G.ext hn (λi _=>by simp) hv
  | succ m ih =>
   intro hm
   obtain⟨c,hc⟩:=h m (by omega)
   refine G.ext hn (λi hi=>?_) (G.add hn (ih (by omega)) (ht m c (by omega)))
   show (if i<m then w i else v i)+U m (c*s m) i=if i<m+1 then w i else v i
   unfold U
   by_cases z:i=m
   ·subst z
    rw[if_neg (by omega),if_pos rfl,if_pos (by omega),Int.mul_comm c]
    omega
   ·rw[if_neg z]
    by_cases q:i<m
    ·rw[if_pos q,if_pos (by omega)];omega
    ·rw[if_neg q,if_neg (by omega)];omega
 exact G.ext hn (λi hi=>by simp[hi]) (key n (Nat.le_refl _))
theorem Good.lL(g:Good n s D){k d:Nat}{v w:bJ}(hn:d+k=n)(h:∀ i,i<n->s i∣w i-v i)(hv:G n s D k d v):G n s D k d w :=
 G.lL (λi c hi=>g.turn c hn hi) hn h hv
theorem Good.sub(g:Good n s D){k d:Nat}{v w:bJ}(hn:d+k=n)(hv:G n s D k d v)(hw:G n s D k d w):G n s D k d λi=>v i-w i :=
 G.ext hn (λi _=>by omega) (G.add hn hv (G.mul (-1) hn hw))
theorem Good.own(g:Good n s D){d k:Nat}(hn:d+(k+1)=n):G n s D (k+1) d (D d):=by
 have hd:d<n:=by omega
 by_cases z:D d d=0
 ·have e:aQ s D d=s d:=by unfold aQ;rw[if_pos z]
  have c:=g.Iv d k hn
  rw[e] at c
  refine⟨by rw[z];exact Int.dvd_zero _,G.ext (by omega) (λi hi=>?_) c⟩
  rw[z,Int.ediv_self (by have:=g.sp d hd;omega)]
  simp
 ·have e:aQ s D d=D d d:=by unfold aQ;rw[if_neg z]
  refine⟨by rw[e];exact Int.dvd_refl _,G.ext (by omega) (λi hi=>?_) (G.zero (k:=k) (d:=d+1) (by omega))⟩
  rw[e,Int.ediv_self z];omega
theorem Good.row(g:Good n s D){d:Nat}(hd:d<n):∀ {k e:Nat},e+k=n->e<=d->G n s D k e (D d):=by
 intro k e hn he
 have h:=g.own (d:=d) (k:=n-d-1) (by omega)
 have:=G.skip (n:=n) (s:=s) (D:=D) (v:=D d) (j:=d-e) (k:=n-d-1+1) (d:=e) (by omega) (λi h1 h2=>g.uo d hd i (by omega)) (by rw[show e+(d-e)=d by omega];exact h)
 rw[show d-e+(n-d-1+1)=k by omega] at this
 exact this
end
structure Tk (n:Nat) (s:bJ) (D D' L:Nat->bJ) (u v g:Nat->Int):Prop where
 gp:∀ d,d<n->0<g d
 bz:∀ d,d<n->u d*aQ s D d+v d*L d d=g d
 g1:∀ d,d<n->g d∣aQ s D d
 g2:∀ d,d<n->g d∣L d d
 IZ:∀ d,d<n->∀ i,i<n->D' d i=(u d*D d i+v d*L d i)%s i
 J7:∀ d,d<n->∀ i,i<n->L (d+1) i=(aQ s D d/g d*L d i+-(L d d/g d)*D d i)%s i
 l0:∀ i,i<n->0<=L 0 i/\L 0 i<s i
section
variable{n:Nat}{s:bJ}{D D' L:Nat->bJ}{u v g:Nat->Int}
theorem du(a b:Int):b∣a%b-a:=⟨-(a/b),by have:=Int.emod_def a b;rw[Int.mul_neg];omega⟩
theorem i5(a b:Int):b∣a-a%b:=⟨a/b,by have:=Int.emod_def a b;omega⟩
theorem Tk.kept(t:Tk n s D D' L u v g)(G:Good n s D):∀ d,d<=n->∀ i,i<n->0<=L d i/\L d i<s i:=by
 intro d hd i hi
 cases d with
 | zero=>exact t.l0 i hi
 | succ d =>
  rw[t.J7 d (by omega) i hi]
  have:=G.sp i hi
  exact⟨Int.emod_nonneg _ (by omega),Int.emod_lt_of_pos _ this⟩
theorem i_{a b:Int}(h0:0<=a)(h1:a<b)(h:b∣a):a=0:=by
 obtain⟨c,rfl⟩:=h
 rcases Int.lt_or_le 0 c with hc | hc
 ·have:b*1<=b*c:=Int.mul_le_mul_of_nonneg_left hc (by omega)
  omega
 ·have:b*c<=0:=Int.mul_nonpos_of_nonneg_of_nonpos (by omega) hc
  omega
theorem Tk.zero(t:Tk n s D D' L u v g)(G:Good n s D):∀ d,d<=n->∀ i,i<d->L d i=0:=by
 intro d
 induction d with
 | zero=>intro _ i hi;omega
 | succ d ih =>
  intro hd i hi
  have PF:d<n:=by omega
  have k:=t.kept G (d+1) hd i (by omega)
  refine i_ k.1 k.2 ?_
  rw[t.J7 d PF i (by omega)]
  rcases Nat.lt_or_ge i d with h | h
  ·rw[ih (by omega) i h,G.uo d PF i h]
   simp
  ·obtain rfl:i=d:=by omega
   refine Int.dvd_trans ?_ (Int.dvd_refl _)
   obtain⟨c,hc⟩:=G.diag PF
   obtain⟨a,ha⟩:=t.g1 i PF
   obtain⟨b,hb⟩:=t.g2 i PF
   have gp:=t.gp i PF
   have e1:aQ s D i/g i=a:=by rw[ha];exact Int.mul_ediv_cancel_left a (by omega)
   have e2:L i i/g i=b:=by rw[hb];exact Int.mul_ediv_cancel_left b (by omega)
   rw[e1,e2]
   have e3:a*L i i+-b*D i i=s i*(-b*c):=by
    have:D i i=aQ s D i+s i*c:=by omega
    rw[this,ha,hb];grind
   rw[e3,Int.mul_emod_right]
   exact Int.dvd_zero _
theorem Tk.step(t:Tk n s D D' L u v g)(G:Good n s D){d:Nat}(hd:d<n):aQ s D' d=g d:=by
 obtain⟨c,hc⟩:=G.diag hd
 have gp:=t.gp d hd
 have sp:=G.sp d hd
 have st:=G.pos hd
 have le:g d<=aQ s D d:=Int.le_of_dvd st.1 (t.g1 d hd)
 have e:D' d d=g d%s d:=by
  rw[t.IZ d hd d hd,← t.bz d hd]
  have:D d d=aQ s D d+s d*c:=by omega
  rw[this,show u d*(aQ s D d+s d*c)+v d*L d d=(u d*aQ s D d+v d*L d d)+s d*(u d*c) by grind,Int.add_mul_emod_self_left]
 unfold aQ
 rw[e]
 by_cases z:g d=s d
 ·rw[z,Int.emod_self,if_pos rfl]
 ·rw[Int.emod_eq_of_lt (by omega) (by omega),if_neg (by omega)]
theorem Tk.main(t:Tk n s D D' L u v g)(Gd:Good n s D):∀ k d,d+k=n->(∀ w,G n s D k d w->G n s D' k d w)/\G n s D' k d (L d)
 | 0,d,hn=>by
  refine⟨λw h=>h,λi hi=>?_⟩
  rw[t.zero Gd d (by omega) i (by omega)];exact Int.dvd_zero _
 | k+1,d,hn=>by
  obtain⟨i1,i2⟩:=t.main Gd k (d+1) (by omega)
  have hd:d<n:=by omega
  have turn:∀ i c,i<n->G n s D' k (d+1) (U i (c*s i)):=λi c hi=>i1 _ (Gd.turn c (by omega) hi)
  have st:=t.step Gd hd
  have gp:=t.gp d hd
  obtain⟨a,ha⟩:=t.g1 d hd
  obtain⟨b,hb⟩:=t.g2 d hd
  have e1:aQ s D d/g d=a:=by rw[ha];exact Int.mul_ediv_cancel_left a (by omega)
  have e2:L d d/g d=b:=by rw[hb];exact Int.mul_ediv_cancel_left b (by omega)
  have bz:u d*a+v d*b=1:=by
   have:=t.bz d hd
   rw[ha,hb,show u d*(g d*a)+v d*(g d*b)=g d*(u d*a+v d*b) by grind] at this
   have h2:g d*(u d*a+v d*b)=g d*1:=by omega
   exact Int.eq_of_mul_eq_mul_left (by omega) h2
  have w1:∀ i,i<n->∃ c,D' d i=u d*D d i+v d*L d i+s i*c:=λi hi=>by
   obtain⟨c,hc⟩:=du (u d*D d i+v d*L d i) (s i)
   exact⟨c,by rw[t.IZ d hd i hi];omega⟩
  have w2:∀ i,i<n->∃ c,L (d+1) i=a*L d i+-b*D d i+s i*c:=λi hi=>by
   obtain⟨c,hc⟩:=du (a*L d i+-b*D d i) (s i)
   exact⟨c,by rw[t.J7 d hd i hi,e1,e2];omega⟩
  constructor
  ·intro w h
   obtain⟨h1,h2⟩:=h
   refine⟨by rw[st];exact Int.dvd_trans (t.g1 d hd) h1,?_⟩
   obtain⟨q,hq⟩:=h1
   have sp:=(Gd.pos hd).1
   have q1:w d/aQ s D d=q:=by rw[hq];exact Int.mul_ediv_cancel_left q (by omega)
   have q2:w d/aQ s D' d=q*a:=by
    rw[st,hq,ha,show g d*a*q=g d*(q*a) by grind];exact Int.mul_ediv_cancel_left _ (by omega)
   rw[q2]
   rw[q1] at h2
   refine G.lL turn (by omega) (λi hi=>?_) (G.add (by omega) (i1 _ h2) (G.mul (q*-(v d)) (by omega) i2))
   obtain⟨c1,hc1⟩:=w1 i hi
   obtain⟨c2,Pu⟩:=w2 i hi
   refine⟨q*(v d*c2-a*c1),?_⟩
   rw[hc1,Pu];grind
  ·refine⟨by rw[st];exact t.g2 d hd,?_⟩
   rw[st,e2]
   refine G.lL turn (by omega) (λi hi=>?_) (G.mul (u d) (by omega) i2)
   obtain⟨c1,hc1⟩:=w1 i hi
   obtain⟨c2,Pu⟩:=w2 i hi
   refine⟨-(b*c1)-u d*c2,?_⟩
   rw[hc1,Pu];grind
theorem Tk.good(t:Tk n s D D' L u v g)(Gd:Good n s D):Good n s D' where
 sp:=Gd.sp
 je:=λd hd i hi=>by
  rw[t.IZ d hd i hi]
  have:=Gd.sp i hi
  exact⟨Int.emod_nonneg _ (by omega),Int.emod_lt_of_pos _ this⟩
 uo:=λd hd i hi=>by
  rw[t.IZ d hd i (by omega),Gd.uo d hd i hi,t.zero Gd d (by omega) i hi];simp
 dv:=λd hd=>by
  rw[t.step Gd hd];exact Int.dvd_trans (t.g1 d hd) (Gd.dv d hd)
 Iv:=λd k hn=>by
  have hd:d<n:=by omega
  have h1:=(t.main Gd (k+1) d hn).1 _ (Gd.turn (i:=d) 1 hn hd)
  have h2:=(t.main Gd k (d+1) (by omega)).1 _ (Gd.turn (i:=d) 1 (by omega) hd)
  have h3:=h1.2
  have ud:U d (1*s d) d=s d:=by rw[U,if_pos rfl,Int.one_mul]
  rw[ud] at h3
  refine G.ext (by omega) (λi hi=>?_) (G.add (by omega) h2 (G.mul (-1) (by omega) h3))
  show U d (1*s d) i+-1*(U d (1*s d) i-s d/aQ s D' d*D' d i)=_
  omega
end
end Rg
namespace Rg
section
variable{n:Nat}{s:bJ}{D D':Nat->bJ}
theorem Good.Ei(Gd:Good n s D)(je:∀ d,d<n->∀ i,i<n->0<=D' d i/\D' d i<s i)(uo:∀ d,d<n->∀ i,i<d->D' d i=0)(dv:∀ d,d<n->aQ s D' d∣s d)
  (h:∀ k d,d+k=n->∀ w,G n s D k d w->G n s D' k d w):Good n s D' where
 sp:=Gd.sp
 je:=je
 uo:=uo
 dv:=dv
 Iv:=λd k hn=>by
  have hd:d<n:=by omega
  have h1:=h (k+1) d hn _ (Gd.turn (i:=d) 1 hn hd)
  have h2:=h k (d+1) (by omega) _ (Gd.turn (i:=d) 1 (by omega) hd)
  have h3:=h1.2
  have ud:U d (1*s d) d=s d:=by rw[U,if_pos rfl,Int.one_mul]
  rw[ud] at h3
  refine G.ext (by omega) (λi hi=>?_) (G.add (by omega) h2 (G.mul (-1) (by omega) h3))
  show U d (1*s d) i+-1*(U d (1*s d) i-s d/aQ s D' d*D' d i)=_
  omega
structure Dn (n:Nat) (s:bJ) (D:Nat->bJ) (f:Nat) (W:Nat->bJ):Prop where
 w0:∀ i,i<n->0<=W f i/\W f i<s i
 ws:∀ d,f<=d->d<n->∀ i,i<n->W (d+1) i=(1*W d i+-(W d d/aQ s D d)*D d i)%s i
variable{f:Nat}{W:Nat->bJ}
theorem Dn.kept(h:Dn n s D f W)(Gd:Good n s D):∀ d,f<=d->d<=n->∀ i,i<n->0<=W d i/\W d i<s i:=by
 intro d hf hd i hi
 rcases Nat.lt_or_ge f d with q | q
 ·obtain⟨e,rfl⟩:∃ e,d=e+1:=⟨d-1,by omega⟩
  rw[h.ws e (by omega) (by omega) i hi]
  have:=Gd.sp i hi
  exact⟨Int.emod_nonneg _ (by omega),Int.emod_lt_of_pos _ this⟩
 ·obtain rfl:d=f:=by omega
  exact h.w0 i hi
theorem Dn.ahead(h:Dn n s D f W)(Gd:Good n s D){d i:Nat}(hf:f<=d)(hd:d<n)(hi:i<d):W (d+1) i=W d i:=by
 have k:=h.kept Gd d hf (by omega) i (by omega)
 rw[h.ws d hf hd i (by omega),Gd.uo d hd i hi,Int.mul_zero,Int.add_zero,Int.one_mul,Int.emod_eq_of_lt k.1 k.2]
theorem Dn.at_(h:Dn n s D f W)(Gd:Good n s D){d:Nat}(hf:f<=d)(hd:d<n):W (d+1) d=W d d%aQ s D d:=by
 have k:=h.kept Gd d hf (by omega) d hd
 have p:=Gd.pos hd
 rw[h.ws d hf hd d hd]
 have e:=Int.emod_def (W d d) (aQ s D d)
 have q0:=Int.emod_nonneg (W d d) (show aQ s D d≠0 by omega)
 have q1:=Int.emod_lt_of_pos (W d d) p.1
 by_cases z:D d d=0
 ·have st:aQ s D d=s d:=by unfold aQ;rw[if_pos z]
  rw[z,st,Int.emod_eq_of_lt k.1 k.2,Int.mul_zero,Int.add_zero,Int.one_mul,Int.emod_eq_of_lt k.1 k.2]
 ·have st:aQ s D d=D d d:=by unfold aQ;rw[if_neg z]
  rw[← st,show 1*W d d+-(W d d/aQ s D d)*aQ s D d=W d d%aQ s D d by rw[e];grind]
  exact Int.emod_eq_of_lt q0 (by omega)
theorem Dn.low(h:Dn n s D f W)(Gd:Good n s D):∀ d,f<=d->d<=n->∀ e,f<=e->e<d->0<=W d e/\W d e<aQ s D e:=by
 intro d
 induction d with
 | zero=>intro _ _ e _ he;omega
 | succ d ih =>
  intro hf hd e he hed
  rcases Nat.lt_or_ge e d with q | q
  ·rw[h.ahead Gd (by omega) (by omega) q];exact ih (by omega) (by omega) e he q
  ·obtain rfl:e=d:=by omega
   have p:=Gd.pos (show e<n by omega)
   rw[h.at_ Gd he (by omega)]
   exact⟨Int.emod_nonneg _ (by omega),Int.emod_lt_of_pos _ p.1⟩
theorem Dn.front(h:Dn n s D f W)(Gd:Good n s D):∀ d,f<=d->d<=n->∀ i,i<f->W d i=W f i:=by
 intro d
 induction d with
 | zero=>intro h1 _ i hi;omega
 | succ d ih =>
  intro hf hd i hi
  rcases Nat.lt_or_ge d f with q | q
  ·rw[show d+1=f by omega]
  ·rw[h.ahead Gd q (by omega) (by omega)];exact ih q (by omega) i hi
theorem Dn.run(h:Dn n s D f W)(Gd:Good n s D):∀ k d,f<=d->d+k=n->G n s D k d (W d)->∀ i,i<n->W n i=0
 | 0,d,hf,hn,g,i,hi=>by
  rw[Nat.add_zero] at hn
  subst hn
  have k:=h.kept Gd d hf (Nat.le_refl _) i hi
  exact i_ k.1 k.2 (g i hi)
 | k+1,d,hf,hn,g,i,hi=>by
  refine h.run Gd k (d+1) (by omega) (by omega) (Gd.lL (by omega) (λj hj=>?_) g.2) i hi
  rw[h.ws d hf (by omega) j hj]
  have:=du (1*W d j+-(W d d/aQ s D d)*D d j) (s j)
  rw[show 1*W d j+-(W d d/aQ s D d)*D d j=W d j-W d d/aQ s D d*D d j by grind] at this
  rw[show 1*W d j+-(W d d/aQ s D d)*D d j=W d j-W d d/aQ s D d*D d j by grind]
  exact this
theorem Dn.away(h:Dn n s D f W)(Gd:Good n s D):∀ d,f<=d->d<=n->∀ k,f+k=n->G n s D k f λi=>W f i-W d i:=by
 intro d
 induction d with
 | zero =>
  intro hf _ k hn
  obtain rfl:f=0:=by omega
  exact G.ext hn (λi _=>by omega) (G.zero hn)
 | succ d ih =>
  intro hf hd k hn
  rcases Nat.lt_or_ge d f with q | q
  ·rw[show d+1=f by omega]
   exact G.ext hn (λi _=>by omega) (G.zero hn)
  ·refine Gd.lL hn (λi hi=>?_) (G.add hn (ih q (by omega) k hn) (G.mul (W d d/aQ s D d) hn (Gd.row (show d<n by omega) hn q)))
   rw[h.ws d q (by omega) i hi]
   have:=i5 (1*W d i+-(W d d/aQ s D d)*D d i) (s i)
   obtain⟨c,hc⟩:=this
   exact⟨c,by rw[← hc];grind⟩
theorem G.small(Gd:Good n s D):∀ k d (v:bJ),d+k=n->(∀ i,i<n->0<=v i/\v i<s i)->(∀ i,d<=i->i<n->v i<aQ s D i)->G n s D k d v->∀ i,i<n->v i=0
 | 0,d,v,hn,h0,_,g,i,hi=>i_ (h0 i hi).1 (h0 i hi).2 (g i hi)
 | k+1,d,v,hn,h0,h1,g,i,hi=>by
  have z:v d=0:=i_ (h0 d (by omega)).1 (h1 d (Nat.le_refl _) (by omega)) g.1
  refine G.small Gd k (d+1) v (by omega) h0 (λj hj=>h1 j (by omega)) (G.ext (by omega) (λj hj=>?_) g.2) i hi
  rw[z];simp
theorem vD(Gd:Good n s D)(W:Nat->Nat->bJ)(hW:∀ d,d<n->Dn n s D (d+1) (W d))(h0:∀ d,d<n->∀ i,i<n->W d (d+1) i=D d i)(hD:∀ d,d<n->∀ i,i<n->D' d i=W d n i) :
  Good n s D'/\(∀ d,d<n->aQ s D' d=aQ s D d)/\(∀ d,d<n->∀ e,d<e->e<n->D' d e<aQ s D e)/\(∀ d,d<n->D' d d=0->∀ i,i<n->D' d i=0)/\(∀ k d,d+k=n->∀ w,G n s D k d w->G n s D' k d w):=by
 have dg:∀ d,d<n->∀ i,i<=d->D' d i=D d i:=λd hd i hi=>by
  rw[hD d hd i (by omega),(hW d hd).front Gd n (by omega) (Nat.le_refl _) i (by omega),h0 d hd i (by omega)]
 have st:∀ d,d<n->aQ s D' d=aQ s D d:=λd hd=>by
  unfold aQ;rw[dg d hd d (Nat.le_refl _)]
 have Qy:∀ k d,d+k=n->∀ w,G n s D k d w->G n s D' k d w:=by
  intro k
  induction k with
  | zero=>intro d _ w h;exact h
  | succ k ih =>
   intro d hn w h
   have hd:d<n:=by omega
   refine⟨by rw[st d hd];exact h.1,ih (d+1) (by omega) _ ?_⟩
   rw[st d hd]
   refine G.ext (by omega) (λi hi=>?_) (G.add (by omega) h.2 (G.mul (w d/aQ s D d) (by omega) ((hW d hd).away Gd n (by omega) (Nat.le_refl _) k (by omega))))
   show w i-w d/aQ s D d*D d i+w d/aQ s D d*(W d (d+1) i-W d n i)=_
   rw[h0 d hd i hi,hD d hd i hi];grind
 have good:Good n s D':=Gd.Ei (λd hd i hi=>by rw[hD d hd i hi];exact(hW d hd).kept Gd n (by omega) (Nat.le_refl _) i hi) (λd hd i hi=>by rw[dg d hd i (by omega)];exact Gd.uo d hd i hi) (λd hd=>by rw[st d hd];exact Gd.dv d hd) Qy
 have lt:∀ d,d<n->∀ e,d<e->e<n->D' d e<aQ s D e:=λd hd e he hen=>by
  rw[hD d hd e hen];exact((hW d hd).low Gd n (by omega) (Nat.le_refl _) e (by omega) hen).2
 refine⟨good,st,lt,λd hd z=>?_,Qy⟩
 have h1:=good.own (d:=d) (k:=n-d-1) (by omega)
 have h2:=h1.2
 refine G.small good (n-d-1) (d+1) (D' d) (by omega) (good.je d hd) (λi h1 h2=>by rw[st i h2];exact lt d hd i (by omega) h2) (G.ext (by omega) (λi hi=>?_) h2)
 rw[z];simp
end
def bC:Nat->(Nat->Int)->Int
 | 0,_=>0
 | m+1,f=>bC m f+f m
theorem h9(a b:Int)(f g h:Nat->Int):∀ m,(∀ l,l<m->h l=a*f l+b*g l)->bC m h=a*bC m f+b*bC m g
 | 0,_=>by simp[bC]
 | m+1,e=>by
  rw[bC,bC,bC,h9 a b f g h m λl hl=>e l (by omega),e m (by omega)];grind
theorem dZ{f g:Nat->Int}:∀ {m:Nat},(∀ l,l<m->f l=g l)->bC m f=bC m g
 | 0,_=>rfl
 | m+1,e=>by rw[bC,bC,dZ λl hl=>e l (by omega),e m (by omega)]
theorem g_:∀ m,bC m (λ_=>0)=0
 | 0=>rfl
 | m+1=>by rw[bC,g_ m];rfl
theorem dN(k:Nat)(a:Int):∀ m,k<m->∀ f:Nat->Int,(∀ l,l<m->f l=if l=k then a else 0)->bC m f=a
 | 0,h,_,_=>by omega
 | m+1,h,f,e=>by
  rw[bC]
  by_cases z:k=m
  ·subst z
   rw[dZ (g:=λ_=>0) λl hl=>by rw[e l (by omega),if_neg (by omega)],g_,e k (by omega),if_pos rfl];omega
  ·rw[dN k a m (by omega) f λl hl=>e l (by omega),e m (by omega),if_neg (by omega)];omega
def Led(n:Nat)(s:bJ)(m:Nat)(A:Nat->bJ)(v P:bJ):Prop:=∀ i,i<n->s i∣v i-bC m λl=>P l*A l i
theorem Led.mix{n m:Nat}{s:bJ}{A:Nat->bJ}{v w x P Q R:bJ}{a b:Int}(h1:Led n s m A v P)(h2:Led n s m A w Q)(hx:∀ i,i<n->s i∣x i-(a*v i+b*w i))(hR:∀ l,l<m->R l=a*P l+b*Q l):Led n s m A x R:=λi hi=>by
 obtain⟨c1,e1⟩:=h1 i hi
 obtain⟨c2,e2⟩:=h2 i hi
 obtain⟨c3,e3⟩:=hx i hi
 rw[h9 a b (λl=>P l*A l i) (λl=>Q l*A l i) (λl=>R l*A l i) m λl hl=>by rw[hR l hl];grind]
 exact⟨a*c1+b*c2+c3,by grind⟩
def aE:Nat->(Nat->Int)->Int
 | 0,_=>1
 | m+1,f=>aE m f*f m
theorem rm{f g h:Nat->Int}:∀ {m:Nat},(∀ l,l<m->f l=g l*h l)->aE m f=aE m g*aE m h
 | 0,_=>rfl
 | m+1,e=>by rw[aE,aE,aE,rm λl hl=>e l (by omega),e m (by omega)];grind
theorem dM{f g:Nat->Int}:∀ {m:Nat},(∀ l,l<m->f l=g l)->aE m f=aE m g
 | 0,_=>rfl
 | m+1,e=>by rw[aE,aE,dM λl hl=>e l (by omega),e m (by omega)]
theorem eO{f:Nat->Int}:∀ {m:Nat},(∀ l,l<m->0<f l)->0<aE m f
 | 0,_=>(by decide:(0:Int)<1)
 | m+1,e=>Int.mul_pos (eO λl hl=>e l (by omega)) (e m (by omega))
end Rg
namespace Rg
def vf(xs:List Int):bJ:=λi=>xs.getD i 0
theorem aS{xs:List Int}{i:Nat}(h:i<xs.length):vf xs i=xs[i]:=by
 unfold vf;rw[List.getD_eq_getElem?_getD,List.getElem?_eq_getElem h];rfl
theorem pX{xs:List Int}{i:Nat}(h:xs.length<=i):vf xs i=0:=by
 unfold vf;rw[List.getD_eq_getElem?_getD,List.getElem?_eq_none h];rfl
def nZ(xs:List Int)(a:Int)(ys:List Int)(b:Int):List Int:=(xs.zip ys).map λz=>a*z.1+b*z.2
def yA(xs sizes:List Int):List Int:=(xs.zip sizes).map λz=>z.1%z.2
theorem bX{xs ys:List Int}{a b:Int}:(nZ xs a ys b).length=min xs.length ys.length:=by simp[nZ]
theorem iX{xs ys:List Int}:(yA xs ys).length=min xs.length ys.length:=by simp[yA]
theorem fF{xs ys:List Int}{a b:Int}{i:Nat}(h1:i<xs.length)(h2:i<ys.length):vf (nZ xs a ys b) i=a*vf xs i+b*vf ys i:=by
 rw[aS (by rw[bX];omega),aS h1,aS h2]
 simp[nZ]
theorem jq{xs ys:List Int}{i:Nat}(h1:i<xs.length)(h2:i<ys.length):vf (yA xs ys) i=vf xs i%vf ys i:=by
 rw[aS (by rw[iX];omega),aS h1,aS h2]
 simp[yA]
theorem mj{xs ys:List Int}(hl:xs.length=ys.length)(h:∀ i,i<xs.length->vf xs i=vf ys i):xs=ys:=by
 refine List.ext_getElem hl λi h1 h2=>?_
 have:=h i h1
 rwa [aS h1,aS h2] at this
theorem eE(n:Nat)(i:Nat):vf (List.replicate n 0) i=0:=by
 rcases Nat.lt_or_ge i n with h | h
 ·rw[aS (by simpa using h)];simp
 ·rw[pX (by simpa using h)]
def Bd(B:Nat)(xs:List Int):Prop:=∀ x∈xs,x.natAbs<2^B
theorem Bd.mono{B C:Nat}{xs:List Int}(h:Bd B xs)(hc:B<=C):Bd C xs:=λx hx=>Nat.lt_of_lt_of_le (h x hx) (Nat.pow_le_pow_right (by decide) hc)
theorem Bd.vf{B:Nat}{xs:List Int}(h:Bd B xs)(i:Nat):(vf xs i).natAbs<2^B:=by
 rcases Nat.lt_or_ge i xs.length with q | q
 ·rw[aS q];exact h _ (List.getElem_mem q)
 ·rw[pX q];exact Nat.two_pow_pos B
theorem wA{a b:Int}{A B:Nat}(ha:a.natAbs<2^A)(hb:b.natAbs<2^B):(a*b).natAbs<2^(A+B):=by
 rw[Int.natAbs_mul,Nat.pow_add]
 have h0:0<2^A:=Nat.two_pow_pos A
 have h1:0<2^B:=Nat.two_pow_pos B
 exact Nat.mul_lt_mul_of_lt_of_le ha (Nat.le_of_lt hb) h1
theorem HE{a b:Int}{A:Nat}(ha:a.natAbs<2^A)(hb:b.natAbs<2^A):(a+b).natAbs<2^(A+1):=by
 rw[Nat.pow_succ];omega
theorem Bd.mix{A B:Nat}{xs ys:List Int}{a b:Int}(hx:Bd B xs)(hy:Bd B ys)(ha:a.natAbs<2^A)(hb:b.natAbs<2^A):Bd (A+B+1) (nZ xs a ys b):=by
 intro z hz
 obtain⟨w,hw,rfl⟩:=List.mem_map.mp hz
 have:=List.of_mem_zip (a:=w.1) (b:=w.2) hw
 exact HE (wA ha (hx _ this.1)) (wA hb (hy _ this.2))
abbrev Row:=List Int×List Int
def row(rows:List Row)(d:Nat):Row:=rows.getD d ([],[])
def DD(rows:List Row):Nat->bJ:=λd=>vf (row rows d).1
def PP(rows:List Row):Nat->bJ:=λd=>vf (row rows d).2
structure Wf (n m:Nat) (rows:List Row):Prop where
 len:rows.length=n
 l1:∀ r∈rows,r.1.length=n
 l2:∀ r∈rows,r.2.length=m
theorem hU{rows:List Row}{d:Nat}(h:d<rows.length):row rows d=rows[d]:=by
 unfold row;rw[List.getD_eq_getElem?_getD,List.getElem?_eq_getElem h];rfl
theorem Wf.oP{n m:Nat}{rows:List Row}(w:Wf n m rows){d:Nat}(h:d<n):(row rows d).1.length=n:=by
 rw[hU (by rw[w.len];exact h)];exact w.l1 _ (List.getElem_mem _)
theorem Wf.at2{n m:Nat}{rows:List Row}(w:Wf n m rows){d:Nat}(h:d<n):(row rows d).2.length=m:=by
 rw[hU (by rw[w.len];exact h)];exact w.l2 _ (List.getElem_mem _)
def qx(sizes:List Int)(r:Row)(a:Int)(q:Row)(b:Int):Row:=(yA (nZ r.1 a q.1 b) sizes,nZ r.2 a q.2 b)
def aA(c:Int->Int->Int×Int)(sizes:List Int)(rows:List Row)(left:Row):Nat->Row
 | 0=>left
 | d+1 =>
  let l:=aA c sizes rows left d
  let st:=aQ (vf sizes) (DD rows) d
  let nt:=vf l.1 d
  qx sizes l (st/(Int.gcd st nt:Nat)) (row rows d) (-(nt/(Int.gcd st nt:Nat)))
def er(c:Int->Int->Int×Int)(sizes:List Int)(rows:List Row)(left:Row)(d:Nat):Row :=
 let l:=aA c sizes rows left d
 let st:=aQ (vf sizes) (DD rows) d
 let nt:=vf l.1 d
 qx sizes (row rows d) (c st nt).1 l (c st nt).2
def cK(c:Int->Int->Int×Int)(sizes:List Int)(rows:List Row)(left:Row)(n:Nat):List Row:=(List.range n).map (er c sizes rows left)
section
variable{c:Int->Int->Int×Int}{sizes:List Int}{rows:List Row}{left:Row}{n m:Nat}
theorem de(w:Wf n m rows)(hs:sizes.length=n)(h1:left.1.length=n)(h2:left.2.length=m):∀ d,d<=n->(aA c sizes rows left d).1.length=n/\(aA c sizes rows left d).2.length=m
 | 0,_=>⟨h1,h2⟩
 | d+1,hd=>by
  obtain⟨i1,i2⟩:=de w hs h1 h2 d (by omega)
  have e1:=w.oP (d:=d) (by omega);have e2:=w.at2 (d:=d) (by omega)
  simp only[aA,qx]
  rw[iX,bX,bX]
  exact⟨by omega,by omega⟩
theorem kq{d:Nat}(h:d<n):row (cK c sizes rows left n) d=er c sizes rows left d:=by
 rw[hU (by simp[cK,h])];simp[cK]
theorem A7(w:Wf n m rows)(hs:sizes.length=n)(h1:left.1.length=n)(h2:left.2.length=m):Wf n m (cK c sizes rows left n):=by
 have key:∀ d,d<n->(er c sizes rows left d).1.length=n/\(er c sizes rows left d).2.length=m:=λd hd=>by
  obtain⟨i1,i2⟩:=de (c:=c) w hs h1 h2 d (by omega)
  have e1:=w.oP (d:=d) hd;have e2:=w.at2 (d:=d) hd
  simp only[er,qx]
  rw[iX,bX,bX]
  exact⟨by omega,by omega⟩
 refine⟨by simp[cK],λr hr=>?_,λr hr=>?_⟩
 ·obtain⟨d,hd,rfl⟩:=List.mem_map.mp hr
  exact(key d (List.mem_range.mp hd)).1
 ·obtain⟨d,hd,rfl⟩:=List.mem_map.mp hr
  exact(key d (List.mem_range.mp hd)).2
theorem gJ{a b:Int}(h:0<a):0<(Int.gcd a b:Int):=by
 have:=Int.gcd_pos_of_ne_zero_left b (show a≠0 by omega);omega
theorem JQ(w:Wf n m rows)(hs:sizes.length=n)(h1:left.1.length=n)(h2:left.2.length=m)(Gd:Good n (vf sizes) (DD rows))(h0:∀ i,i<n->0<=vf left.1 i/\vf left.1 i<vf sizes i)
  (hc:∀ d,d<n->(c (aQ (vf sizes) (DD rows) d) (vf (aA c sizes rows left d).1 d)).1*aQ (vf sizes) (DD rows) d+(c (aQ (vf sizes) (DD rows) d) (vf (aA c sizes rows left d).1 d)).2*vf (aA c sizes rows left d).1 d=(Int.gcd (aQ (vf sizes) (DD rows) d) (vf (aA c sizes rows left d).1 d):Nat)) :
  Tk n (vf sizes) (DD rows) (DD (cK c sizes rows left n)) (λd=>vf (aA c sizes rows left d).1) (λd=>(c (aQ (vf sizes) (DD rows) d) (vf (aA c sizes rows left d).1 d)).1) (λd=>(c (aQ (vf sizes) (DD rows) d) (vf (aA c sizes rows left d).1 d)).2) (λd=>(Int.gcd (aQ (vf sizes) (DD rows) d) (vf (aA c sizes rows left d).1 d):Nat)) where
 gp:=λd hd=>gJ (Gd.pos hd).1
 bz:=hc
 g1:=λd hd=>Int.gcd_dvd_left ..
 g2:=λd hd=>Int.gcd_dvd_right ..
 IZ:=λd hd i hi=>by
  obtain⟨i1,i2⟩:=de (c:=c) w hs h1 h2 d (by omega)
  have e1:=w.oP (d:=d) hd
  show vf (row (cK c sizes rows left n) d).1 i=_
  rw[kq hd]
  simp only[er,qx]
  rw[jq (by rw[bX];omega) (by omega),fF (by omega) (by omega)]
  rfl
 J7:=λd hd i hi=>by
  obtain⟨i1,i2⟩:=de (c:=c) w hs h1 h2 d (by omega)
  have e1:=w.oP (d:=d) hd
  simp only[aA,qx]
  rw[jq (by rw[bX];omega) (by omega),fF (by omega) (by omega)]
  rfl
 l0:=h0
end
end Rg
namespace Rg
section
variable{c:Int->Int->Int×Int}{sizes:List Int}{rows:List Row}{left:Row}{n m k:Nat}{A:Nat->bJ}
def CB(c:Int->Int->Int×Int):Prop:=∀ a b:Int,0<a->a<=360->0<=b->b<=360->(c a b).1*a+(c a b).2*b=(Int.gcd a b:Nat)/\(c a b).1.natAbs<2^20/\(c a b).2.natAbs<2^20
theorem j_{a b:Int}(h:0<a)(h2:a<=360):0<a/(Int.gcd a b:Nat)/\a/(Int.gcd a b:Nat)<=360:=by
 have g:=gJ (b:=b) h
 obtain⟨q,hq⟩:((Int.gcd a b:Nat):Int)∣a:=Int.gcd_dvd_left ..
 have e:a/(Int.gcd a b:Nat)=q:=by
  have:((Int.gcd a b:Nat):Int)≠0:=by omega
  exact Int.ediv_eq_of_eq_mul_right this hq
 rw[e]
 have q0:0<q:=by
  rcases Int.lt_or_le 0 q with z | z
  ·exact z
  ·have:=Int.mul_nonpos_of_nonneg_of_nonpos (Int.le_of_lt g) z;omega
 refine⟨q0,?_⟩
 have:1*q<=(Int.gcd a b:Nat)*q:=Int.mul_le_mul_of_nonneg_right (by omega) (by omega)
 omega
theorem lM{a b:Int}(h:0<a)(h1:0<=b)(h2:b<=360):0<=b/(Int.gcd a b:Nat)/\b/(Int.gcd a b:Nat)<=360:=by
 have g:=gJ (b:=b) h
 exact⟨Int.ediv_nonneg h1 (by omega),Int.le_trans (Int.ediv_le_self _ h1) h2⟩
def Zf(k m:Nat)(P:bJ):Prop:=∀ l,k<=l->l<m->P l=0
structure St (n m:Nat) (sizes:List Int) (A:Nat->bJ) (k:Nat) (rows:List Row):Prop where
 wf:Wf n m rows
 hs:sizes.length=n
 sm:∀ i,i<n->vf sizes i<=360
 gd:Good n (vf sizes) (DD rows)
 led:∀ d,d<n->Led n (vf sizes) m A (DD rows d) (PP rows d)
 zf:∀ d,d<n->Zf k m (PP rows d)
 bd:∀ d,d<n->Bd (150*k+1) (row rows d).2
 cl:∀ l,l<k->G n (vf sizes) (DD rows) n 0 (A l)
structure Lv (n m:Nat) (sizes:List Int) (A:Nat->bJ) (k:Nat) (left:Row):Prop where
 l1:left.1.length=n
 l2:left.2.length=m
 km:k<m
 at_:∀ i,i<n->vf left.1 i=A k i
 je:∀ i,i<n->0<=A k i/\A k i<vf sizes i
 un:∀ l,l<m->vf left.2 l=if l=k then 1 else 0
theorem kv(h:St n m sizes A k rows)(L:Lv n m sizes A k left):∀ d,d<=n->∀ i,i<n->0<=vf (aA c sizes rows left d).1 i/\vf (aA c sizes rows left d).1 i<vf sizes i
 | 0,_,i,hi=>by show 0<=vf left.1 i/\vf left.1 i<vf sizes i;rw[L.at_ i hi];exact L.je i hi
 | d+1,hd,i,hi=>by
  obtain⟨i1,i2⟩:=de (c:=c) h.wf h.hs L.l1 L.l2 d (by omega)
  have e1:=h.wf.oP (d:=d) (by omega)
  have hs:=h.hs
  simp only[aA,qx]
  rw[jq (by rw[bX];omega) (by omega)]
  have:=h.gd.sp i hi
  exact⟨Int.emod_nonneg _ (by omega),Int.emod_lt_of_pos _ this⟩
theorem St.tk(h:St n m sizes A k rows)(L:Lv n m sizes A k left)(cb:CB c):Tk n (vf sizes) (DD rows) (DD (cK c sizes rows left n)) (λd=>vf (aA c sizes rows left d).1) (λd=>(c (aQ (vf sizes) (DD rows) d) (vf (aA c sizes rows left d).1 d)).1) (λd=>(c (aQ (vf sizes) (DD rows) d) (vf (aA c sizes rows left d).1 d)).2) (λd=>(Int.gcd (aQ (vf sizes) (DD rows) d) (vf (aA c sizes rows left d).1 d):Nat)) :=
 JQ h.wf h.hs L.l1 L.l2 h.gd (λi hi=>by rw[L.at_ i hi];exact L.je i hi) λd hd=>by
  have p:=h.gd.pos hd
  have q:=kv (c:=c) h L d (by omega) d hd
  have s:=h.sm d hd
  exact(cb _ _ p.1 (by omega) q.1 (by omega)).1
theorem oZ(h:St n m sizes A k rows)(L:Lv n m sizes A k left):∀ d,d<=n->Led n (vf sizes) m A (vf (aA c sizes rows left d).1) (vf (aA c sizes rows left d).2)
 | 0,_=>λi hi=>by
  show vf sizes i∣vf left.1 i-bC m λl=>vf left.2 l*A l i
  rw[L.at_ i hi,dN k (A k i) m L.km (λl=>vf left.2 l*A l i) λl hl=>by
   rw[L.un l hl]
   by_cases z:l=k
   ·subst z;rw[if_pos rfl,if_pos rfl,Int.one_mul]
   ·rw[if_neg z,if_neg z,Int.zero_mul]]
  rw[Int.sub_self];exact Int.dvd_zero _
 | d+1,hd=>by
  obtain⟨i1,i2⟩:=de (c:=c) h.wf h.hs L.l1 L.l2 d (by omega)
  have e1:=h.wf.oP (d:=d) (by omega);have e2:=h.wf.at2 (d:=d) (by omega)
  have hs:=h.hs
  refine Led.mix (a:=aQ (vf sizes) (DD rows) d/(Int.gcd (aQ (vf sizes) (DD rows) d) (vf (aA c sizes rows left d).1 d):Nat)) (b:=-(vf (aA c sizes rows left d).1 d/(Int.gcd (aQ (vf sizes) (DD rows) d) (vf (aA c sizes rows left d).1 d):Nat))) (oZ h L d (by omega)) (h.led d (by omega)) (λi hi=>?_) λl hl=>?_
  ·simp only[aA,qx]
   rw[jq (by rw[bX];omega) (by omega),fF (by omega) (by omega)]
   exact du _ _
  ·simp only[aA,qx]
   rw[fF (by omega) (by omega)];rfl
theorem t9(h:St n m sizes A k rows)(L:Lv n m sizes A k left):∀ d,d<=n->Zf (k+1) m (vf (aA c sizes rows left d).2)/\vf (aA c sizes rows left d).2 k=aE d λe=>aQ (vf sizes) (DD rows) e/(Int.gcd (aQ (vf sizes) (DD rows) e) (vf (aA c sizes rows left e).1 e):Nat)
 | 0,_=>⟨λl h1 h2=>by show vf left.2 l=0;rw[L.un l h2,if_neg (by omega)],by show vf left.2 k=1;rw[L.un k L.km,if_pos rfl]⟩
 | d+1,hd=>by
  obtain⟨i1,i2⟩:=de (c:=c) h.wf h.hs L.l1 L.l2 d (by omega)
  have e2:=h.wf.at2 (d:=d) (by omega)
  obtain⟨j1,j2⟩:=t9 h L d (by omega)
  have z:=h.zf d (by omega)
  have km:=L.km
  constructor
  ·intro l h1 h2
   simp only[aA,qx]
   rw[fF (by omega) (by omega),j1 l h1 h2,show vf (row rows d).2 l=0 from z l (by omega) h2];simp
  ·rw[aE,← j2]
   simp only[aA,qx]
   rw[fF (by omega) (by omega),show vf (row rows d).2 k=0 from z k (Nat.le_refl _) km]
   grind
theorem oH(h:St n m sizes A k rows)(L:Lv n m sizes A k left)(hn:n<=6):∀ d,d<=n->Bd (150*k+1+11*d) (aA c sizes rows left d).2
 | 0,_=>λx hx=>by
  have hx:x∈left.2:=hx
  obtain⟨i,hi,rfl⟩:=List.mem_iff_getElem.mp hx
  have hm:i<m:=by rw[← L.l2];exact hi
  have e:=L.un i hm
  rw[aS hi] at e
  show (left.2[i]).natAbs<_
  rw[e]
  have:2^1<=2^(150*k+1+11*0):=Nat.pow_le_pow_right (by decide) (by omega)
  refine Nat.lt_of_lt_of_le ?_ this
  split
  ·decide
  ·decide
 | d+1,hd=>by
  have p:=h.gd.pos (show d<n by omega)
  have s:=h.sm d (by omega)
  have q:=kv (c:=c) h L d (by omega) d (by omega)
  have a1:=j_ (b:=vf (aA c sizes rows left d).1 d) p.1 (by omega)
  have a2:=lM (b:=vf (aA c sizes rows left d).1 d) p.1 q.1 (by omega)
  have:=Bd.mix (A:=9+1) (oH h L hn d (by omega)) ((h.bd d (by omega)).mono (show 150*k+1<=150*k+1+11*d by omega)) (a:=aQ (vf sizes) (DD rows) d/(Int.gcd (aQ (vf sizes) (DD rows) d) (vf (aA c sizes rows left d).1 d):Nat)) (b:=-(vf (aA c sizes rows left d).1 d/(Int.gcd (aQ (vf sizes) (DD rows) d) (vf (aA c sizes rows left d).1 d):Nat))) (by omega) (by omega)
  exact this.mono (by omega)
theorem St.next(h:St n m sizes A k rows)(L:Lv n m sizes A k left)(cb:CB c)(hn:n<=6):St n m sizes A (k+1) (cK c sizes rows left n):=by
 have T:=h.tk L cb
 have hs:=h.hs
 refine⟨A7 h.wf h.hs L.l1 L.l2,h.hs,h.sm,T.good h.gd,λd hd=>?_,λd hd=>?_,λd hd=>?_,λl hl=>?_⟩
 ·obtain⟨i1,i2⟩:=de (c:=c) h.wf h.hs L.l1 L.l2 d (by omega)
  have e1:=h.wf.oP (d:=d) hd;have e2:=h.wf.at2 (d:=d) hd
  unfold DD PP
  rw[kq hd]
  refine Led.mix (a:=(c (aQ (vf sizes) (DD rows) d) (vf (aA c sizes rows left d).1 d)).1) (b:=(c (aQ (vf sizes) (DD rows) d) (vf (aA c sizes rows left d).1 d)).2) (h.led d hd) (oZ (c:=c) h L d (by omega)) (λi hi=>?_) λl hl=>?_
  ·simp only[er,qx]
   rw[jq (by rw[bX];omega) (by omega),fF (by omega) (by omega)]
   exact du _ _
  ·simp only[er,qx]
   rw[fF (by omega) (by omega)];rfl
 ·obtain⟨i1,i2⟩:=de (c:=c) h.wf h.hs L.l1 L.l2 d (by omega)
  have e2:=h.wf.at2 (d:=d) hd
  intro l h1 h2
  unfold PP
  rw[kq hd]
  simp only[er,qx]
  rw[fF (by omega) (by omega),(t9 (c:=c) h L d (by omega)).1 l h1 h2,show vf (row rows d).2 l=0 from h.zf d hd l (by omega) h2];simp
 ·rw[kq hd]
  have p:=h.gd.pos hd
  have s:=h.sm d hd
  have q:=kv (c:=c) h L d (by omega) d hd
  have b:=cb (aQ (vf sizes) (DD rows) d) (vf (aA c sizes rows left d).1 d) p.1 (by omega) q.1 (by omega)
  have:=Bd.mix (A:=20) ((h.bd d hd).mono (show 150*k+1<=150*k+1+11*d by omega)) (oH (c:=c) h L hn d (by omega)) b.2.1 b.2.2
  exact this.mono (by omega)
 ·rcases Nat.lt_or_ge l k with q | q
  ·exact(T.main h.gd n 0 (by omega)).1 _ (h.cl l q)
  ·obtain rfl:l=k:=by omega
   exact G.ext (by omega) (λi hi=>L.at_ i hi) (T.main h.gd n 0 (by omega)).2
end
end Rg
namespace Rg
def aZ(idle:List (List Int))(k:Nat)(P:List Int):Nat->List Int
 | 0=>P
 | c+1 =>
  let z:=aZ idle k P c
  let r:=idle.getD (k-1-c) []
  nZ z 1 r (-(vf z (k-1-c)/vf r (k-1-c)))
def II(idle:List (List Int)):Nat->bJ:=λj=>vf (idle.getD j [])
structure ya (n m:Nat) (s:bJ) (A:Nat->bJ) (k:Nat) (idle:List (List Int)):Prop where
 len:idle.length=k
 l2:∀ j,j<k->(idle.getD j []).length=m
 pos:∀ j,j<k->0<II idle j j
 le:∀ j,j<k->II idle j j<2^60
 zero:∀ j,j<k->∀ l,j<l->l<m->II idle j l=0
 nf:∀ j,j<k->∀ l,l<j->0<=II idle j l/\II idle j l<II idle l l
 qV:∀ j,j<k->Led n s m A (λ_=>0) (II idle j)
section
variable{n m k:Nat}{s:bJ}{A:Nat->bJ}{idle:List (List Int)}{P:List Int}
theorem ya.bd(h:ya n m s A k idle){j:Nat}(hj:j<k)(hm:k<=m):Bd 60 (idle.getD j []):=λx hx=>by
 obtain⟨l,hl,rfl⟩:=List.mem_iff_getElem.mp hx
 rw[h.l2 j hj] at hl
 have e:II idle j l=(idle.getD j [])[l]'(by rw[h.l2 j hj];exact hl):=aS _
 rw[← e]
 rcases Nat.lt_or_ge l j with q | q
 ·have h1:=h.nf j hj l q
  have h2:=h.le l (by omega)
  omega
 ·rcases Nat.lt_or_ge j l with q2 | q2
  ·rw[h.zero j hj l q2 hl];exact Nat.two_pow_pos _
  ·obtain rfl:l=j:=by omega
   have h1:=h.pos l hj;have h2:=h.le l hj
   omega
theorem span_len(h:ya n m s A k idle)(hP:P.length=m):∀ c,c<=k->(aZ idle k P c).length=m
 | 0,_=>hP
 | c+1,hc=>by
  simp only[aZ]
  rw[bX,span_len h hP c (by omega),h.l2 _ (by omega)];omega
theorem oE(h:ya n m s A k idle)(hP:P.length=m){c l:Nat}(hc:c<k)(hl:l<m):vf (aZ idle k P (c+1)) l=vf (aZ idle k P c) l-vf (aZ idle k P c) (k-1-c)/II idle (k-1-c) (k-1-c)*II idle (k-1-c) l:=by
 simp only[aZ]
 rw[fF (by rw[span_len h hP c (by omega)];exact hl) (by rw[h.l2 _ (by omega)];exact hl)]
 unfold II
 grind
theorem uA(h:ya n m s A k idle)(hP:P.length=m):∀ c,c<=k->∀ l,k<=l->l<m->vf (aZ idle k P c) l=vf P l
 | 0,_,_,_,_=>rfl
 | c+1,hc,l,h1,h2=>by
  rw[oE h hP (by omega) h2,h.zero _ (by omega) l (by omega) h2,uA h hP c (by omega) l h1 h2];simp
theorem tq(h:ya n m s A k idle)(hP:P.length=m)(hm:k<=m):∀ c,c<=k->∀ l,k-c<=l->l<k->0<=vf (aZ idle k P c) l/\vf (aZ idle k P c) l<II idle l l
 | 0,_,l,h1,h2=>by omega
 | c+1,hc,l,h1,h2=>by
  rw[oE h hP (by omega) (by omega)]
  rcases Nat.lt_or_ge (k-1-c) l with q | q
  ·rw[h.zero _ (by omega) l q (by omega),Int.mul_zero,Int.sub_zero]
   exact tq h hP hm c (by omega) l (by omega) h2
  ·obtain rfl:l=k-1-c:=by omega
   have p:=h.pos (k-1-c) (by omega)
   have e:=Int.emod_def (vf (aZ idle k P c) (k-1-c)) (II idle (k-1-c) (k-1-c))
   rw[Int.mul_comm (vf (aZ idle k P c) (k-1-c)/_),← e]
   exact⟨Int.emod_nonneg _ (by omega),Int.emod_lt_of_pos _ p⟩
theorem pI(h:ya n m s A k idle)(hP:P.length=m){v:bJ}(hv:Led n s m A v (vf P)):∀ c,c<=k->Led n s m A v (vf (aZ idle k P c))
 | 0,_=>hv
 | c+1,hc=>by
  refine Led.mix (a:=1) (b:=-(vf (aZ idle k P c) (k-1-c)/II idle (k-1-c) (k-1-c))) (pI h hP hv c (by omega)) (h.qV (k-1-c) (by omega)) (λi hi=>?_) λl hl=>?_
  ·rw[Int.mul_zero,Int.add_zero,Int.one_mul,Int.sub_self];exact Int.dvd_zero _
  ·rw[oE h hP (by omega) hl];grind
theorem xE(h:ya n m s A k idle)(hP:P.length=m)(hm:k<=m){B:Nat}(hB:60<=B)(hb:Bd B P):∀ c,c<=k->Bd (B+62*c) (aZ idle k P c)
 | 0,_=>hb
 | c+1,hc=>by
  have ih:=xE h hP hm hB hb c (by omega)
  intro x hx
  obtain⟨l,hl,rfl⟩:=List.mem_iff_getElem.mp hx
  rw[span_len h hP (c+1) hc] at hl
  rw[← aS,oE h hP (by omega) hl]
  have p:=h.pos (k-1-c) (by omega)
  have q1:(vf (aZ idle k P c) (k-1-c)/II idle (k-1-c) (k-1-c)).natAbs<2^(B+62*c+1):=by
   have h1:=ih.vf (k-1-c)
   have h2:=Int.natAbs_ediv_le_natAbs (vf (aZ idle k P c) (k-1-c)) (II idle (k-1-c) (k-1-c))
   rw[Nat.pow_succ];omega
  have q2:(II idle (k-1-c) l).natAbs<2^60:=(h.bd (j:=k-1-c) (by omega) hm).vf l
  have q3:=wA q1 q2
  have q4:=ih.vf l
  have q5:2^(B+62*c)<=2^(B+62*c+1+60):=Nat.pow_le_pow_right (by decide) (by omega)
  have q6:(2:Nat)^(B+62*(c+1))=2^(B+62*c+1+60)*2:=by rw[← Nat.pow_succ];congr 1
  rw[q6];omega
end
section
variable{c:Int->Int->Int×Int}{sizes:List Int}{rows:List Row}{left:Row}{n m k:Nat}{A:Nat->bJ}
theorem Tk.order{s:bJ}{D D' L:Nat->bJ}{u v g:Nat->Int}(t:Tk n s D D' L u v g)(Gd:Good n s D):∀ (k d:Nat) (x:Int),d+k=n->G n s D k d (λi=>x*L d i)->aE n (λe=>aQ s D e/g e)∣x*aE d (λe=>aQ s D e/g e)
 | 0,d,x,hn,h=>by
  obtain rfl:d=n:=by omega
  exact Int.dvd_mul_left _ _
 | k+1,d,x,hn,h=>by
  have hd:d<n:=by omega
  obtain⟨a,ha⟩:=t.g1 d hd
  obtain⟨b,hb⟩:=t.g2 d hd
  have gp:=t.gp d hd
  have sp:=(Gd.pos hd).1
  have e1:aQ s D d/g d=a:=by rw[ha];exact Int.mul_ediv_cancel_left a (by omega)
  have e2:L d d/g d=b:=by rw[hb];exact Int.mul_ediv_cancel_left b (by omega)
  have bz:u d*a+v d*b=1:=by
   have:=t.bz d hd
   rw[ha,hb,show u d*(g d*a)+v d*(g d*b)=g d*(u d*a+v d*b) by grind] at this
   have h2:g d*(u d*a+v d*b)=g d*1:=by omega
   exact Int.eq_of_mul_eq_mul_left (by omega) h2
  obtain⟨q,hq⟩:=h.1
  have hax:a∣x:=by
   have h3:g d*(x*b)=g d*(a*q):=by
    have:x*L d d=aQ s D d*q:=hq
    rw[hb,ha] at this;grind
   have h4:x*b=a*q:=Int.eq_of_mul_eq_mul_left (by omega) h3
   exact⟨u d*x+v d*q,by
    have:x=x*(u d*a+v d*b):=by rw[bz,Int.mul_one]
    rw[this]
    have:x*(u d*a+v d*b)=a*(u d*x)+v d*(x*b):=by grind
    rw[this,h4];grind⟩
  obtain⟨y,hy⟩:=hax
  have Nk:q=b*y:=by
   have h3:g d*(a*q)=g d*(a*(b*y)):=by
    have:x*L d d=aQ s D d*q:=hq
    rw[hb,ha,hy] at this;grind
   have ap:a≠0:=by intro z;rw[z,Int.mul_zero] at ha;omega
   exact Int.eq_of_mul_eq_mul_left ap (Int.eq_of_mul_eq_mul_left (by omega) h3)
  have h2:=h.2
  have q1:x*L d d/aQ s D d=q:=by
   show x*L d d/aQ s D d=q
   rw[show x*L d d=aQ s D d*q from hq];exact Int.mul_ediv_cancel_left q (by omega)
  have:=t.order Gd k (d+1) y (by omega) (Gd.lL (by omega) (λi hi=>?_) h2)
  ·rw[aE,e1] at this
   rw[hy,show a*y*aE d (λe=>aQ s D e/g e)=y*(aE d (λe=>aQ s D e/g e)*a) by grind]
   exact this
  ·show s i∣y*L (d+1) i-(x*L d i-x*L d d/aQ s D d*D d i)
   rw[q1,t.J7 d hd i hi,e1,e2]
   obtain⟨z,hz⟩:=du (a*L d i+-b*D d i) (s i)
   refine⟨y*z,?_⟩
   have:(a*L d i+-b*D d i)%s i=a*L d i+-b*D d i+s i*z:=by omega
   rw[this,hy,Nk];grind
theorem G.sum(Gd:Good n (vf sizes) (DD rows)){P:bJ}:∀ k',(∀ l,l<k'->G n (vf sizes) (DD rows) n 0 (A l))->G n (vf sizes) (DD rows) n 0 (λi=>bC k' λl=>P l*A l i)
 | 0,_=>G.zero (by omega)
 | k'+1,h=>G.ext (by omega) (λi _=>rfl) (G.add (by omega) (G.sum Gd k' λl hl=>h l (by omega)) (G.mul (P k') (by omega) (h k' (by omega))))
end
end Rg
namespace Rg
def m9(m k:Nat):List Int:=(List.range m).map λl=>if l=k then 1 else 0
theorem vc{m k l:Nat}(h:l<m):vf (m9 m k) l=if l=k then 1 else 0:=by
 rw[aS (by simp[m9,h])];simp[m9]
def AA(Ls:List (List Int)):Nat->bJ:=λl=>vf (Ls.getD l [])
def bV(Ls:List (List Int))(m k:Nat):Row:=(Ls.getD k [],m9 m k)
def RK(c:Int->Int->Int×Int)(sizes:List Int)(Ls:List (List Int))(n m:Nat):Nat->List Row×List (List Int)
 | 0=>(List.replicate n (List.replicate n 0,List.replicate m 0),[])
 | k+1 =>
  (cK c sizes (RK c sizes Ls n m k).1 (bV Ls m k) n,(RK c sizes Ls n m k).2++[aZ (RK c sizes Ls n m k).2 k (aA c sizes (RK c sizes Ls n m k).1 (bV Ls m k) n).2 k])
structure Jl (n m:Nat) (sizes:List Int) (Ls:List (List Int)):Prop where
 len:Ls.length=m
 at_:∀ l,l<m->(Ls.getD l []).length=n
 je:∀ l,l<m->∀ i,i<n->0<=AA Ls l i/\AA Ls l i<vf sizes i
structure CG (n m:Nat) (sizes:List Int) (Ls:List (List Int)) (k:Nat) (r:List Row×List (List Int)):Prop where
 st:St n m sizes (AA Ls) k r.1
 qV:ya n m (vf sizes) (AA Ls) k r.2
 pr:aE k (λj=>II r.2 j j)*aE n (aQ (vf sizes) (DD r.1))=aE n (vf sizes)
 ord:∀ j,j<k->∀ P:bJ,Zf (j+1) m P->Led n (vf sizes) m (AA Ls) (λ_=>0) P->II r.2 j j∣P j
section
variable{c:Int->Int->Int×Int}{sizes:List Int}{Ls:List (List Int)}{n m k:Nat}
theorem iO{idle:List (List Int)}{x:List Int}{j:Nat}(h:j<idle.length):II (idle++[x]) j=II idle j:=by
 unfold II
 rw[List.getD_eq_getElem?_getD,List.getElem?_append_left h,← List.getD_eq_getElem?_getD]
theorem j9{idle:List (List Int)}{x:List Int}:II (idle++[x]) idle.length=vf x:=by
 unfold II
 rw[List.getD_eq_getElem?_getD,List.getElem?_append_right (Nat.le_refl _)];simp
theorem Cs{idle:List (List Int)}{x:List Int}{j:Nat}(h:j<idle.length):(idle++[x]).getD j []=idle.getD j []:=by
 rw[List.getD_eq_getElem?_getD,List.getElem?_append_left h,← List.getD_eq_getElem?_getD]
theorem BO{idle:List (List Int)}{x:List Int}:(idle++[x]).getD idle.length []=x:=by
 rw[List.getD_eq_getElem?_getD,List.getElem?_append_right (Nat.le_refl _)];simp
theorem pA{f:Nat->Int}{k:Nat}:∀ {m:Nat},k<m->(∀ l,k<l->l<m->f l=0)->bC m f=bC k f+f k
 | 0,h,_=>by omega
 | m+1,h,e=>by
  rw[bC]
  by_cases z:k=m
  ·subst z;rfl
  ·rw[pA (m:=m) (by omega) λl h1 h2=>e l h1 (by omega),e m (by omega) (by omega)];omega
theorem vQ:∀ {n:Nat} {f:Nat->Int},(∀ i,i<n->0<f i/\f i<=360)->aE n f<=360^n
 | 0,f,_=>by simp[aE]
 | n+1,f,h=>by
  rw[aE,Int.pow_succ]
  exact Int.mul_le_mul (vQ λi hi=>h i (by omega)) (h n (by omega)).2 (by have:=(h n (by omega)).1;omega) (Int.pow_nonneg (by decide))
theorem K6{n:Nat}(h:n<=6):(360:Int)^n<=360^6:=by
 have:n=0\/n=1\/n=2\/n=3\/n=4\/n=5\/n=6:=by omega
 rcases this with rfl | rfl | rfl | rfl | rfl | rfl | rfl <;> decide
theorem CG.next{r:List Row×List (List Int)}(h:CG n m sizes Ls k r)(LL:Jl n m sizes Ls)(cb:CB c)(hn:n<=6)(hk:k<m) :
  CG n m sizes Ls (k+1) (cK c sizes r.1 (bV Ls m k) n,r.2++[aZ r.2 k (aA c sizes r.1 (bV Ls m k) n).2 k]):=by
 have L:Lv n m sizes (AA Ls) k (bV Ls m k):=⟨LL.at_ k hk,by simp[bV,m9],hk,λi hi=>rfl,LL.je k hk,λl hl=>vc hl⟩
 have T:=h.st.tk L cb
 have ll:=de (c:=c) h.st.wf h.st.hs L.l1 L.l2 n (Nat.le_refl _)
 have zf:=t9 (c:=c) h.st L n (Nat.le_refl _)
 have led:=oZ (c:=c) h.st L n (Nat.le_refl _)
 have l0:=T.zero h.st.gd n (Nat.le_refl _)
 have il:r.2.length=k:=h.qV.len
 have out:=uA h.qV ll.2 k (Nat.le_refl _)
 have jk:vf (aZ r.2 k (aA c sizes r.1 (bV Ls m k) n).2 k) k=aE n λe=>aQ (vf sizes) (DD r.1) e/(Int.gcd (aQ (vf sizes) (DD r.1) e) (vf (aA c sizes r.1 (bV Ls m k) e).1 e):Nat):=by
  rw[out k (Nat.le_refl _) hk];exact zf.2
 have pos:∀ e,e<n->0<aQ (vf sizes) (DD r.1) e/(Int.gcd (aQ (vf sizes) (DD r.1) e) (vf (aA c sizes r.1 (bV Ls m k) e).1 e):Nat):=λe he=>by
  have p:=h.st.gd.pos he
  have s:=h.st.sm e he
  exact(j_ p.1 (by omega)).1
 have pr:aE (k+1) (λj=>II (r.2++[aZ r.2 k (aA c sizes r.1 (bV Ls m k) n).2 k]) j j)*aE n (aQ (vf sizes) (DD (cK c sizes r.1 (bV Ls m k) n)))=aE n (vf sizes):=by
  rw[aE,show II (r.2++[aZ r.2 k (aA c sizes r.1 (bV Ls m k) n).2 k]) k=vf (aZ r.2 k (aA c sizes r.1 (bV Ls m k) n).2 k) by rw[← il];exact j9]
  rw[dM (g:=λj=>II r.2 j j) λj hj=>by rw[iO (by omega)],← h.pr,jk]
  rw[dM (g:=λd=>((Int.gcd (aQ (vf sizes) (DD r.1) d) (vf (aA c sizes r.1 (bV Ls m k) d).1 d):Nat):Int)) λd hd=>T.step h.st.gd hd]
  rw[rm (f:=aQ (vf sizes) (DD r.1)) (g:=λd=>((Int.gcd (aQ (vf sizes) (DD r.1) d) (vf (aA c sizes r.1 (bV Ls m k) d).1 d):Nat):Int)) (h:=λe=>aQ (vf sizes) (DD r.1) e/(Int.gcd (aQ (vf sizes) (DD r.1) e) (vf (aA c sizes r.1 (bV Ls m k) e).1 e):Nat)) λd hd=>(Int.mul_ediv_cancel' (Int.gcd_dvd_left ..)).symm]
  grind
 have jpos:0<vf (aZ r.2 k (aA c sizes r.1 (bV Ls m k) n).2 k) k:=by rw[jk];exact eO pos
 have St':=h.st.next L cb hn
 have jle:vf (aZ r.2 k (aA c sizes r.1 (bV Ls m k) n).2 k) k<2^60:=by
  have b:aE n (vf sizes)<=360^n:=vQ λi hi=>⟨h.st.gd.sp i hi,h.st.sm i hi⟩
  have b2:(360:Int)^n<=360^6:=K6 hn
  have b3:(360:Int)^6<2^60:=by decide
  rw[aE,show II (r.2++[aZ r.2 k (aA c sizes r.1 (bV Ls m k) n).2 k]) k=vf (aZ r.2 k (aA c sizes r.1 (bV Ls m k) n).2 k) by rw[← il];exact j9] at pr
  have p1:0<aE k (λj=>II (r.2++[aZ r.2 k (aA c sizes r.1 (bV Ls m k) n).2 k]) j j):=eO λj hj=>by rw[iO (by omega)];exact h.qV.pos j hj
  have p2:0<aE n (aQ (vf sizes) (DD (cK c sizes r.1 (bV Ls m k) n))):=eO λd hd=>(St'.gd.pos hd).1
  generalize aE k (λj=>II (r.2++[aZ r.2 k (aA c sizes r.1 (bV Ls m k) n).2 k]) j j)=a at *
  generalize aE n (aQ (vf sizes) (DD (cK c sizes r.1 (bV Ls m k) n)))=b' at *
  generalize vf (aZ r.2 k (aA c sizes r.1 (bV Ls m k) n).2 k) k=x at *
  have e1:1*x<=a*x:=Int.mul_le_mul_of_nonneg_right (by omega) (by omega)
  have e2:a*x*1<=a*x*b':=Int.mul_le_mul_of_nonneg_left (by omega) (by omega)
  omega
 refine⟨St',⟨by simp[il],λj hj=>?_,λj hj=>?_,λj hj=>?_,λj hj l h1 h2=>?_,λj hj l hl=>?_,λj hj=>?_⟩,pr,λj hj P hz hP=>?_⟩
 all_goals
  rcases Nat.lt_or_ge j k with q | q
 ·rw[Cs (by omega)];exact h.qV.l2 j q
 ·obtain rfl:j=r.2.length:=by omega
  rw[BO];exact span_len h.qV ll.2 k (Nat.le_refl _)
 ·rw[iO (by omega)];exact h.qV.pos j q
 ·obtain rfl:j=r.2.length:=by omega
  rw[j9,il];exact jpos
 ·rw[iO (by omega)];exact h.qV.le j q
 ·obtain rfl:j=r.2.length:=by omega
  rw[j9,il];exact jle
 ·rw[iO (by omega)];exact h.qV.zero j q l h1 h2
 ·obtain rfl:j=r.2.length:=by omega
  rw[j9,out l (by omega) h2];exact zf.1 l (by omega) h2
 ·rw[iO (by omega),iO (by omega)];exact h.qV.nf j q l hl
 ·obtain rfl:j=r.2.length:=by omega
  rw[j9,iO (by omega)];exact tq h.qV ll.2 (by omega) k (Nat.le_refl _) l (by omega) (by omega)
 ·rw[iO (by omega)];exact h.qV.qV j q
 ·obtain rfl:j=r.2.length:=by omega
  rw[j9]
  refine pI h.qV ll.2 (λi hi=>?_) k (Nat.le_refl _)
  have:=led i hi
  rw[show vf (aA c sizes r.1 (bV Ls m k) n).1 i=0 from l0 i hi] at this
  exact this
 ·rw[iO (by omega)];exact h.ord j q P hz hP
 ·obtain rfl:j=k:=by omega
  rw[show II (r.2++[aZ r.2 j (aA c sizes r.1 (bV Ls m j) n).2 j]) j=vf (aZ r.2 j (aA c sizes r.1 (bV Ls m j) n).2 j) by rw[← il];exact j9,jk]
  have:=T.order h.st.gd n 0 (P j) (by omega) ?_
  ·rwa [aE,Int.mul_one] at this
  ·refine h.st.gd.lL (by omega) (λi hi=>?_) (G.mul (-1) (by omega) (G.sum (A:=AA Ls) (P:=P) h.st.gd j h.st.cl))
   have e:=hP i hi
   rw[pA hk λl h1 h2=>by rw[hz l (by omega) h2,Int.zero_mul]] at e
   obtain⟨x,hx⟩:=e
   have hx:(0:Int)-(bC j (λl=>P l*AA Ls l i)+P j*AA Ls j i)=vf sizes i*x:=hx
   show vf sizes i∣P j*AA Ls j i - -1*bC j λl=>P l*AA Ls l i
   exact⟨-x,by rw[Int.mul_neg];omega⟩
theorem CG.start(hs:sizes.length=n)(hp:∀ i,i<n->0<vf sizes i/\vf sizes i<=360):CG n m sizes Ls 0 (List.replicate n (List.replicate n 0,List.replicate m 0),[]):=by
 have rw0:∀ d,d<n->row (List.replicate n (List.replicate n 0,List.replicate m 0)) d=(List.replicate n 0,List.replicate m 0):=λd hd=>by
  rw[hU (by simpa using hd)];simp
 have D0:∀ d,d<n->∀ i,DD (List.replicate n (List.replicate n 0,List.replicate m 0)) d i=0:=λd hd i=>by
  unfold DD;rw[rw0 d hd];exact eE n i
 have P0:∀ d,d<n->∀ i,PP (List.replicate n (List.replicate n 0,List.replicate m 0)) d i=0:=λd hd i=>by
  unfold PP;rw[rw0 d hd];exact eE m i
 have st:∀ d,d<n->aQ (vf sizes) (DD (List.replicate n (List.replicate n 0,List.replicate m 0))) d=vf sizes d:=λd hd=>by
  unfold aQ;rw[if_pos (D0 d hd d)]
 refine⟨⟨⟨by simp,λr hr=>by rw[List.eq_of_mem_replicate hr];simp,λr hr=>by rw[List.eq_of_mem_replicate hr];simp⟩,hs,λi hi=>(hp i hi).2,⟨λi hi=>(hp i hi).1,λd hd i hi=>?_,λd hd i hi=>D0 d hd i,λd hd=>by rw[st d hd];exact Int.dvd_refl _,λd k hn=>?_⟩,λd hd i hi=>?_,λd hd l _ _=>P0 d hd l,λd hd=>?_,λl hl=>by omega⟩,⟨rfl,λj hj=>by omega,λj hj=>by omega,λj hj=>by omega,λj hj=>by omega,λj hj=>by omega,λj hj=>by omega⟩,?_,λj hj=>by omega⟩
 ·rw[D0 d hd i];have:=(hp i hi).1;omega
 ·exact G.ext (by omega) (λi hi=>by rw[D0 d (by omega) i,Int.mul_zero]) (G.zero (by omega))
 ·rw[D0 d hd i,dZ (g:=λ_=>0) λl hl=>by rw[P0 d hd l,Int.zero_mul],g_];exact Int.dvd_zero _
 ·rw[rw0 d hd]
  intro x hx
  rw[List.eq_of_mem_replicate hx];exact Nat.two_pow_pos _
 ·rw[aE,Int.one_mul];exact dM λd hd=>st d hd
theorem CG.all(hs:sizes.length=n)(hp:∀ i,i<n->0<vf sizes i/\vf sizes i<=360)(LL:Jl n m sizes Ls)(cb:CB c)(hn:n<=6):∀ k,k<=m->CG n m sizes Ls k (RK c sizes Ls n m k)
 | 0,_=>CG.start hs hp
 | k+1,hk=>(CG.all hs hp LL cb hn k (by omega)).next LL cb hn (by omega)
end
end Rg
namespace Rg
section
variable{n:Nat}{s:bJ}{D:Nat->bJ}
theorem ml{a b:Int}(h:b∣a)(h1:-b<a)(h2:a<b):a=0:=by
 obtain⟨c,rfl⟩:=h
 rcases Int.lt_trichotomy c 0 with q | q | q
 ·have:b*c<=b*(-1):=Int.mul_le_mul_of_nonneg_left (by omega) (by omega)
  omega
 ·rw[q,Int.mul_zero]
 ·have:b*1<=b*c:=Int.mul_le_mul_of_nonneg_left (by omega) (by omega)
  omega
theorem G.diff(Gd:Good n s D):∀ k d (v:bJ),d+k=n->(∀ i,i<n->-(s i)<v i/\v i<s i)->(∀ i,d<=i->i<n->-(aQ s D i)<v i/\v i<aQ s D i)->G n s D k d v->∀ i,i<n->v i=0
 | 0,d,v,hn,h0,_,g,i,hi=>ml (g i hi) (h0 i hi).1 (h0 i hi).2
 | k+1,d,v,hn,h0,h1,g,i,hi=>by
  have z:=ml g.1 (h1 d (Nat.le_refl _) (by omega)).1 (h1 d (Nat.le_refl _) (by omega)).2
  refine G.diff Gd k (d+1) v (by omega) h0 (λi hi=>h1 i (by omega)) (G.ext (by omega) (λi _=>?_) g.2) i hi
  show v i-v d/aQ s D d*D d i=v i
  rw[z];simp
end
end Rg
namespace Rg
def dm(n:Nat)(s:bJ)(Q:Int)(w v:bJ):Int:=bC n λi=>w i*v i*(Q/s i)
section
variable{n:Nat}{s:bJ}{D:Nat->bJ}{Q:Int}{w v u:bJ}
theorem jn(a b:Int){x:bJ}(h:∀ i,i<n->x i=a*v i+b*u i):dm n s Q w x=a*dm n s Q w v+b*dm n s Q w u :=
 h9 a b _ _ _ n λi hi=>by rw[h i hi];grind
theorem uK{f:Nat->Int}{q:Int}:∀ {m:Nat},(∀ l,l<m->q∣f l)->q∣bC m f
 | 0,_=>Int.dvd_zero _
 | m+1,h=>Int.dvd_add (uK λl hl=>h l (by omega)) (h m (by omega))
theorem xD(hq:∀ i,i<n->s i∣Q)(h:∀ i,i<n->s i∣v i):Q∣dm n s Q w v:=uK λi hi=>by
 obtain⟨c,hc⟩:=h i hi
 obtain⟨e,he⟩:=hq i hi
 by_cases z:s i=0
 ·rw[hc,z];simp
 ·rw[hc,he,Int.mul_ediv_cancel_left _ z]
  exact⟨w i*c,by grind⟩
theorem uP(hq:∀ i,i<n->s i∣Q)(h:∀ i,i<n->s i∣v i-u i):Q∣dm n s Q w v-dm n s Q w u:=by
 have:=jn (s:=s) (Q:=Q) (w:=w) (n:=n) 1 (-1) (v:=v) (u:=u) (x:=λi=>v i-u i) λi _=>by omega
 have h2:=xD (w:=w) hq h
 rw[this] at h2
 rw[show dm n s Q w v-dm n s Q w u=1*dm n s Q w v+-1*dm n s Q w u by omega]
 exact h2
theorem vz(hq:∀ i,i<n->s i∣Q):∀ (k d:Nat) (v:bJ),d+k=n->(∀ b,d<=b->b<n->Q∣dm n s Q w (D b))->G n s D k d v->Q∣dm n s Q w v
 | 0,d,v,_,_,g=>xD hq g
 | k+1,d,v,hn,hD,g=>by
  have h1:=vz hq k (d+1) _ (by omega) (λb h1 h2=>hD b (by omega) h2) g.2
  have h2:=hD d (Nat.le_refl _) (by omega)
  have e:=jn (s:=s) (Q:=Q) (w:=w) (n:=n) 1 (v d/aQ s D d) (v:=λi=>v i-v d/aQ s D d*D d i) (u:=D d) (x:=v) λi _=>by omega
  rw[e]
  exact Int.dvd_add (Int.dvd_trans h1 (Int.dvd_mul_left _ _)) (Int.dvd_trans h2 (Int.dvd_mul_left _ _))
theorem DP{c:Nat}(hc:c<n){x:Int}{w':bJ}(h0:w c=0)(h1:w' c=x)(h2:∀ i,i<n->i≠c->w' i=w i):dm n s Q w' v=dm n s Q w v+x*v c*(Q/s c):=by
 have e1:dm n s Q w' v=1*dm n s Q w v+1*bC n λi=>if i=c then x*v c*(Q/s c) else 0:=h9 1 1 _ _ _ n λi hi=>by
  by_cases z:i=c
  ·rw[z,h1,h0];simp
  ·rw[h2 i hi z];simp[z]
 have e2:=dN c (x*v c*(Q/s c)) n hc (λi=>if i=c then x*v c*(Q/s c) else 0) λ_ _=>rfl
 rw[e1,e2];omega
theorem vd(h:∀ i,i<n->w i*v i=0):dm n s Q w v=0:=by
 unfold dm
 rw[dZ (g:=λ_=>0) λi hi=>by rw[h i hi];simp,g_]
def eQ(s:bJ)(D:Nat->bJ)(d:Nat):Int:=s d/aQ s D d
theorem iL(g:Good n s D){d:Nat}(h:d<n):eQ s D d*aQ s D d=s d/\0<eQ s D d/\eQ s D d<=s d:=by
 have p:=g.pos h
 obtain⟨c,hc⟩:=g.dv d h
 have e:eQ s D d=c:=by unfold eQ;rw[hc,Int.mul_ediv_cancel_left _ (by omega)]
 have sp:=g.sp d h
 have c0:0<c:=by
  rcases Int.lt_trichotomy c 0 with q | q | q
  ·have:=Int.mul_neg_of_pos_of_neg p.1 q;omega
  ·rw[q] at hc;omega
  ·exact q
 refine⟨by rw[e,hc,Int.mul_comm],by omega,?_⟩
 rw[e]
 have:1*c<=aQ s D d*c:=Int.mul_le_mul_of_nonneg_right (by omega) (by omega)
 omega
structure Wk (n:Nat) (s:bJ) (D:Nat->bJ) (Q:Int) (dial a:Nat) (w:bJ):Prop where
 beh:∀ i,dial<i->i<n->w i=0
 at_:w dial=eQ s D dial%s dial
 ah:∀ i,a<=i->i<dial->0<=w i/\w i<eQ s D i
 no:∀ i,i<a->w i=0
 kill:∀ b,a<=b->b<n->Q∣dm n s Q w (D b)
theorem Wk.start(g:Good n s D)(hq:∀ i,i<n->s i∣Q){dial:Nat}(hd:dial<n){w:bJ}(h:∀ i,i<n->w i=if i=dial then eQ s D dial%s dial else 0):Wk n s D Q dial dial w where
 beh:=λi h1 h2=>by rw[h i h2,if_neg (by omega)]
 at_:=by rw[h dial hd,if_pos rfl]
 ah:=λi h1 h2=>by omega
 no:=λi hi=>by rw[h i (by omega),if_neg (by omega)]
 kill:=λb h1 h2=>by
  by_cases z:b=dial
  ·subst z
   obtain⟨f1,f2,f3⟩:=iL g h2
   obtain⟨e,he⟩:=hq b h2
   obtain⟨x,hx⟩:=g.diag h2
   obtain⟨y,hy⟩:=du (eQ s D b) (s b)
   have sp:=g.sp b h2
   have e1:dm n s Q w (D b)=1*bC n (λi=>if i=b then (eQ s D b%s b)*D b b*(Q/s b) else 0)+0*0:=by
    have:=h9 1 0 (λi=>if i=b then (eQ s D b%s b)*D b b*(Q/s b) else 0) (λ_=>0) (λi=>w i*D b i*(Q/s i)) n λi hi=>by
     rw[h i hi]
     by_cases z:i=b
     ·subst z;simp
     ·simp[z]
    rw[show dm n s Q w (D b)=bC n λi=>w i*D b i*(Q/s i) from rfl,this];omega
   rw[e1,dN b _ n h2 _ λ_ _=>rfl,he,Int.mul_ediv_cancel_left _ (by omega)]
   have hy':eQ s D b%s b=eQ s D b+s b*y:=by omega
   have PY:D b b=aQ s D b+s b*x:=by omega
   refine⟨1+eQ s D b*x+y*D b b,?_⟩
   rw[hy',PY]
   generalize eQ s D b=F at *
   generalize aQ s D b=T at *
   generalize s b=S at *
   subst f1
   grind
  ·rw[vd λi hi=>?_]
   ·exact Int.dvd_zero _
   ·rcases Nat.lt_or_ge i b with q | q
    ·rw[g.uo b h2 i q];simp
    ·rw[h i hi,if_neg (by omega)];simp
theorem Wk.next(g:Good n s D)(hQ:0<Q)(hq:∀ i,i<n->s i∣Q){dial c:Nat}(hd:dial<n){w w':bJ}(W:Wk n s D Q dial (c+1) w)(hc:c<dial)(h1:w' c=-(dm n s Q w (D c)%Q/(Q/eQ s D c))%eQ s D c)(h2:∀ i,i<n->i≠c->w' i=w i):Wk n s D Q dial c w':=by
 obtain⟨f1,f2,f3⟩:=iL g (show c<n by omega)
 obtain⟨e,he⟩:=hq c (by omega)
 have sp:=g.sp c (by omega)
 have sh:Q/eQ s D c=aQ s D c*e:=by
  rw[he,← f1,Int.mul_assoc,Int.mul_ediv_cancel_left _ (by omega)]
 have hs:Q/s c=e:=by rw[he,Int.mul_ediv_cancel_left _ (by omega)]
 have fQ:eQ s D c*(aQ s D c*e)=Q:=by rw[← Int.mul_assoc,f1,he]
 have sh0:0<aQ s D c*e:=by
  rcases Int.lt_trichotomy (aQ s D c*e) 0 with q | q | q
  ·have:=Int.mul_neg_of_pos_of_neg f2 q;omega
  ·rw[q] at fQ;omega
  ·exact q
 have cl:=g.Iv c (n-(c+1)) (by omega)
 have k1:=vz (w:=w) hq (n-(c+1)) (c+1) _ (by omega) (λb h1 h2=>W.kill b h1 h2) cl
 rw[jn (s:=s) (Q:=Q) (w:=w) (n:=n) (eQ s D c) 0 (v:=D c) (u:=D c) (x:=λi=>s c/aQ s D c*D c i) λi _=>by unfold eQ;omega] at k1
 obtain⟨x,hx⟩:=k1
 have dv:(aQ s D c*e)∣dm n s Q w (D c):=⟨x,by
  have:eQ s D c*dm n s Q w (D c)=eQ s D c*(aQ s D c*e*x):=by
   rw[← Int.mul_assoc,fQ];omega
  exact Int.eq_of_mul_eq_mul_left (by omega) this⟩
 have ed:=Int.emod_def (dm n s Q w (D c)) Q
 have dv2:(aQ s D c*e)∣dm n s Q w (D c)%Q:=by
  rw[ed]
  exact Int.dvd_sub dv (Int.dvd_trans ⟨eQ s D c,by rw[Int.mul_comm];exact fQ.symm⟩ (Int.dvd_mul_right _ _))
 obtain⟨q,OH⟩:=dv2
 rw[sh] at h1
 have eq1:dm n s Q w (D c)%Q/(aQ s D c*e)=q:=by rw[OH,Int.mul_ediv_cancel_left _ (by omega)]
 rw[eq1] at h1
 obtain⟨y,hy⟩:=du (-q) (eQ s D c)
 obtain⟨z,hz⟩:=g.diag (show c<n by omega)
 refine⟨λi a b=>?_,?_,λi a b=>?_,λi a=>?_,λb a1 a2=>?_⟩
 ·rw[h2 i b (by omega)];exact W.beh i a b
 ·rw[h2 dial hd (by omega)];exact W.at_
 ·by_cases q2:i=c
  ·rw[q2,h1]
   exact⟨Int.emod_nonneg _ (by omega),Int.emod_lt_of_pos _ f2⟩
  ·rw[h2 i (by omega) q2];exact W.ah i (by omega) b
 ·rw[h2 i (by omega) (by omega)];exact W.no i (by omega)
 ·rw[DP (w:=w) (show c<n by omega) (W.no c (by omega)) rfl h2]
  by_cases q2:b=c
  ·subst q2
   rw[hs]
   have e1:w' b=-q+eQ s D b*y:=by omega
   have e2:D b b=aQ s D b+s b*z:=by omega
   have e3:dm n s Q w (D b)=Q*(dm n s Q w (D b)/Q)+aQ s D b*e*q:=by omega
   refine⟨dm n s Q w (D b)/Q+y+w' b*z,?_⟩
   rw[e2]
   generalize dm n s Q w (D b)/Q=p at *
   rw[e3,e1]
   generalize eQ s D b=F at *
   generalize aQ s D b=T at *
   generalize s b=S at *
   subst f1
   rw[he]
   grind
  ·rw[g.uo b a2 c (by omega)]
   simp only[Int.mul_zero,Int.zero_mul,Int.add_zero]
   exact W.kill b (by omega) a2
theorem Wk.first(g:Good n s D)(hQ:0<Q)(hq:∀ i,i<n->s i∣Q){dial:Nat}(hd:dial<n){w l:bJ}(W:Wk n s D Q dial 0 w)(l0:∀ i,i<dial->l i=0)(l1:0<l dial)(l2:l dial<aQ s D dial):¬ Q∣dm n s Q w l:=by
 obtain⟨f1,f2,f3⟩:=iL g hd
 obtain⟨e,he⟩:=hq dial hd
 have sp:=g.sp dial hd
 have lt:eQ s D dial<s dial:=by
  rcases Int.lt_or_eq_of_le f3 with q | q
  ·exact q
  ·rw[q] at f1
   have:aQ s D dial=1:=by
    have:s dial*aQ s D dial=s dial*1:=by rw[Int.mul_one];exact f1
    exact Int.eq_of_mul_eq_mul_left (by omega) this
   omega
 have wd:w dial=eQ s D dial:=by rw[W.at_,Int.emod_eq_of_lt (by omega) lt]
 have e1:dm n s Q w l=bC n (λi=>if i=dial then eQ s D dial*l dial*e else 0):=dZ λi hi=>by
  by_cases z:i=dial
  ·rw[z,wd,he,Int.mul_ediv_cancel_left _ (by omega)];simp
  ·rcases Nat.lt_or_ge i dial with q | q
   ·rw[l0 i q];simp[z]
   ·rw[W.beh i (by omega) hi];simp[z]
 rw[e1,dN dial _ n hd _ λ_ _=>rfl]
 rintro⟨c,hc⟩
 have e0:0<e:=by
  rcases Int.lt_trichotomy e 0 with q | q | q
  ·have:=Int.mul_neg_of_pos_of_neg sp q;omega
  ·rw[q] at he;omega
  ·exact q
 have e2:eQ s D dial*e*l dial=eQ s D dial*e*(aQ s D dial*c):=by
  rw[he,← f1] at hc
  grind
 have e3:l dial=aQ s D dial*c:=Int.eq_of_mul_eq_mul_left (by
  have:=Int.mul_pos f2 e0;omega) e2
 have:=i_ (a:=l dial) (b:=aQ s D dial) (by omega) l2 ⟨c,e3⟩
 omega
end
end Rg
namespace Rg
section
variable{n:Nat}{s:bJ}{D:Nat->bJ}{Q:Int}
theorem gf(w v:bJ):dm n s Q w v=dm n s Q v w:=dZ λi _=>by rw[Int.mul_comm (w i)]
theorem Fv{u:bJ}(g:Good n s D){d:Nat}(hd:d<n)(z:∀ i,d<i->i<n->u i=0):dm n s Q u (D d)=u d*D d d*(Q/s d) :=
 dN d _ n hd _ λi hi=>by
  by_cases e:i=d
  ·rw[e];simp
  ·rcases Nat.lt_or_ge i d with q | q
   ·rw[g.uo d hd i q];simp[e]
   ·rw[z i (by omega) hi];simp[e]
theorem ym(hQ:0<Q){x:Int}(hx:0<x)(h:x∣Q):0<Q/x/\Q=x*(Q/x):=by
 obtain⟨c,hc⟩:=h
 have e:Q/x=c:=by rw[hc,Int.mul_ediv_cancel_left _ (by omega)]
 refine⟨?_,by rw[e];exact hc⟩
 rw[e]
 rcases Int.lt_trichotomy c 0 with q | q | q
 ·have:=Int.mul_neg_of_pos_of_neg hx q;omega
 ·rw[q] at hc;omega
 ·exact q
theorem DW{u:bJ}(g:Good n s D)(hQ:0<Q)(hq:∀ i,i<n->s i∣Q){d:Nat}(hd:d<n)(z:∀ i,d<i->i<n->u i=0)(k:Q∣dm n s Q u (D d)):eQ s D d∣u d:=by
 obtain⟨f1,f2,f3⟩:=iL g hd
 have p:=g.pos hd
 by_cases h0:D d d=0
 ·have e1:aQ s D d=s d:=by unfold aQ;rw[if_pos h0]
  have e2:eQ s D d=1:=by
   have:eQ s D d*s d=1*s d:=by rw[e1] at f1;omega
   exact Int.eq_of_mul_eq_mul_right (by have:=g.sp d hd;omega) this
  rw[e2];exact Int.one_dvd _
 ·have e1:D d d=aQ s D d:=by unfold aQ;rw[if_neg h0]
  rw[Fv g hd z,e1] at k
  obtain⟨e0,eq⟩:=ym hQ (g.sp d hd) (hq d hd)
  obtain⟨c,hc⟩:=k
  generalize Q/s d=e at *
  refine⟨c,?_⟩
  have:aQ s D d*e*u d=aQ s D d*e*(eQ s D d*c):=by
   rw[eq,← f1] at hc
   grind
  exact Int.eq_of_mul_eq_mul_left (by have:=Int.mul_pos p.1 e0;omega) this
variable{W:Nat->bJ}
theorem xx(hq:∀ i,i<n->s i∣Q){m:Nat}{A:Nat->bJ}{P v w:bJ}(hA:∀ l,l<m->Q∣dm n s Q w (A l))(h:∀ i,i<n->s i∣v i-bC m λl=>P l*A l i):Q∣dm n s Q w v:=by
 have c1:=uP (n:=n) (s:=s) (Q:=Q) (w:=w) hq h
 have key:∀ k,k<=m->Q∣dm n s Q w (λi=>bC k λd=>P d*A d i):=λk=>by
  induction k with
  | zero =>
   intro _
   rw[vd λi _=>by simp[bC]];exact Int.dvd_zero _
  | succ k ih =>
   intro hm
   have l1:=jn (n:=n) (s:=s) (Q:=Q) (w:=w) 1 (P k) (v:=λi=>bC k λd=>P d*A d i) (u:=A k) (x:=λi=>bC (k+1) λd=>P d*A d i) λi _=>by simp[bC]
   rw[l1]
   exact Int.dvd_add (Int.dvd_mul_of_dvd_right (ih (by omega))) (Int.dvd_mul_of_dvd_right (hA k (by omega)))
 have:=Int.dvd_add c1 (key m (Nat.le_refl _))
 rw[Int.sub_add_cancel] at this
 exact this
theorem Ag(hq:∀ i,i<n->s i∣Q)(hW:∀ d,d<n->Wk n s D Q d 0 (W d)){t u:bJ}(h:∀ i,i<n->s i∣u i-bC n λd=>t d*W d i){b:Nat}(hb:b<n):Q∣dm n s Q u (D b):=by
 rw[gf]
 exact xx hq (λd hd=>by rw[gf];exact(hW d hd).kill b (Nat.zero_le _) hb) h
end
end Rg
namespace Rg
section
variable{n:Nat}{s:bJ}{D D':Nat->bJ}{Q:Int}{W:Nat->bJ}
theorem jy(hq:∀ i,i<n->s i∣Q){u x y:bJ}{a b:Int}(h:∀ i,i<n->s i∣u i-(a*x i+b*y i)){v:bJ}(hx:Q∣dm n s Q x v)(hy:Q∣dm n s Q y v):Q∣dm n s Q u v:=by
 rw[gf] at hx hy ⊢
 have c:=uP (n:=n) (s:=s) (Q:=Q) (w:=v) hq h
 rw[jn a b (v:=x) (u:=y) (x:=λi=>a*x i+b*y i) λ_ _=>rfl] at c
 have:=Int.dvd_add c (Int.dvd_add (Int.dvd_mul_of_dvd_right (a:=Q) (b:=a) hx) (Int.dvd_mul_of_dvd_right (b:=b) hy))
 rwa [Int.sub_add_cancel] at this
theorem kX(g:Good n s D)(hQ:0<Q)(hq:∀ i,i<n->s i∣Q)(hW:∀ d,d<n->Wk n s D Q d 0 (W d)):∀ j,j<=n->∀ u:bJ,(∀ i,j<=i->i<n->u i=0)->(∀ b,b<n->Q∣dm n s Q u (D b))->∃ t:bJ,(∀ d,j<=d->t d=0)/\∀ i,i<n->s i∣u i-bC n λd=>t d*W d i
 | 0,_,u,z,_=>⟨λ_=>0,λ_ _=>rfl,λi hi=>by
   rw[z i (by omega) hi,dZ (g:=λ_=>0) λd _=>by simp,g_];exact⟨0,by simp⟩⟩
 | j+1,hj,u,z,k=>by
  have hjn:j<n:=by omega
  obtain⟨q,OH⟩:=DW g hQ hq hjn (λi h1 h2=>z i (by omega) h2) (k j hjn)
  have w:=hW j hjn
  have eu:∀ i,i<n->s i∣(if i<j then u i-q*W j i else 0)-(1*u i+(-q)*W j i):=λi hi=>by
   rcases Nat.lt_trichotomy i j with c | c | c
   ·rw[if_pos c];exact⟨0,by rw[Int.neg_mul];omega⟩
   ·subst c
    rw[if_neg (by omega),w.at_,OH]
    obtain⟨x,hx⟩:=i5 (eQ s D i) (s i)
    refine⟨-(q*x),?_⟩
    rw[show eQ s D i%s i=eQ s D i-s i*x by omega]
    generalize eQ s D i=r
    grind
   ·rw[if_neg (by omega),z i (by omega) hi,w.beh i c hi];exact⟨0,by simp⟩
  obtain⟨t,t0,ht⟩:=kX g hQ hq hW j (by omega) (λi=>if i<j then u i-q*W j i else 0) (λi h1 _=>if_neg (by omega)) λb hb=>jy hq eu (k b hb) (w.kill b (Nat.zero_le _) hb)
  refine⟨λd=>if d=j then q else t d,λd hd=>by show (if d=j then q else t d)=0;rw[if_neg (by omega)];exact t0 d (by omega),λi hi=>?_⟩
  have e:bC n (λd=>(if d=j then q else t d)*W d i)=1*bC n (λd=>t d*W d i)+1*bC n (λd=>if d=j then q*W j i else 0):=h9 1 1 _ _ _ n λd hd=>by
   by_cases x:d=j
   ·subst x;simp[t0 d (Nat.le_refl _)]
   ·simp[x]
  rw[dN j (q*W j i) n hjn (λd=>if d=j then q*W j i else 0) λ_ _=>rfl] at e
  obtain⟨a,ha⟩:=eu i hi
  obtain⟨b,hb⟩:=ht i hi
  refine⟨b-a,?_⟩
  rw[Int.mul_sub,← ha,← hb,e,Int.neg_mul]
  omega
theorem Dt(g:Good n s D)(hQ:0<Q)(hq:∀ i,i<n->s i∣Q)(hW:∀ d,d<n->Wk n s D Q d 0 (W d)){J:Nat->bJ}(pos:∀ j,j<n->0<J j j)(zero:∀ j,j<n->∀ l,j<l->l<n->J j l=0)(qV:∀ j,j<n->Led n s n W (λ_=>0) (J j))
  (ord:∀ j,j<n->∀ P:bJ,Zf (j+1) n P->Led n s n W (λ_=>0) P->J j j∣P j):∀ j,j<n->J j j=aQ s D j:=λj hj=>by
 have w:=hW j hj
 obtain⟨f1,f2,f3⟩:=iL g hj
 have p:=g.pos hj
 obtain⟨x,hx⟩:=i5 (eQ s D j) (s j)
 refine Int.dvd_antisymm (by have:=pos j hj;omega) (by omega) ?_ ?_
 ·have eu:∀ i,i<n->s i∣(if i<j then aQ s D j*W j i else 0)-(aQ s D j*W j i+0*W j i):=λi hi=>by
   rcases Nat.lt_trichotomy i j with c | c | c
   ·rw[if_pos c];exact⟨0,by omega⟩
   ·subst c
    rw[if_neg (by omega),w.at_]
    refine⟨aQ s D i*x-1,?_⟩
    rw[show eQ s D i%s i=eQ s D i-s i*x by omega]
    grind
   ·rw[if_neg (by omega),w.beh i c hi];exact⟨0,by simp⟩
  obtain⟨t,t0,ht⟩:=kX g hQ hq hW j (by omega) (λi=>if i<j then aQ s D j*W j i else 0) (λi h1 _=>if_neg (by omega)) λb hb=>jy hq eu (w.kill b (Nat.zero_le _) hb) (w.kill b (Nat.zero_le _) hb)
  have:=ord j hj (λd=>(if d=j then aQ s D j else 0)-t d) (λl h1 _=>by show (if l=j then aQ s D j else 0)-t l=0;rw[if_neg (by omega),t0 l (by omega)];rfl) λi hi=>by
   have e:bC n (λd=>((if d=j then aQ s D j else 0)-t d)*W d i)=(-1)*bC n (λd=>t d*W d i)+1*bC n (λd=>if d=j then aQ s D j*W j i else 0):=h9 (-1) 1 _ _ _ n λd hd=>by
    by_cases y:d=j
    ·subst y;simp[t0 d (Nat.le_refl _)]
    ·simp[y,Int.neg_mul]
   rw[dN j (aQ s D j*W j i) n hj (λd=>if d=j then aQ s D j*W j i else 0) λ_ _=>rfl] at e
   obtain⟨a,ha⟩:=eu i hi
   obtain⟨b,hb⟩:=ht i hi
   refine⟨a-b,?_⟩
   show 0-bC n (λd=>((if d=j then aQ s D j else 0)-t d)*W d i)=_
   rw[Int.mul_sub,← ha,← hb,e]
   omega
  simp only[if_pos,t0 j (Nat.le_refl _),Int.sub_zero] at this
  exact this
 ·obtain⟨y,hy⟩:=qV j hj j hj
  rw[dN j (J j j*W j j) n hj _ λl hl=>by
   rcases Nat.lt_trichotomy l j with c | c | c
   ·rw[(hW l hl).beh j c hj,if_neg (by omega)];simp
   ·subst c;rw[if_pos rfl]
   ·rw[zero j hj l c hl,if_neg (by omega)];simp] at hy
  rw[w.at_,show eQ s D j%s j=eQ s D j-s j*x by omega] at hy
  refine⟨J j j*x-y,?_⟩
  have:eQ s D j*J j j=eQ s D j*(aQ s D j*(J j j*x-y)):=by
   rw[← Int.mul_assoc,f1];grind
  exact Int.eq_of_mul_eq_mul_left (by omega) this
theorem zZ(g':Good n s D')(h:∀ d,d<n->G n s D' n 0 (D d)):∀ k d (v:bJ),d+k=n->G n s D k d v->G n s D' n 0 v
 | 0,d,v,_,hv=>g'.lL (by omega) (λi hi=>by rw[Int.sub_zero];exact hv i hi) (G.zero (by omega))
 | k+1,d,v,hn,hv=>by
  have a:=zZ g' h k (d+1) _ (by omega) hv.2
  exact G.ext (by omega) (λi _=>by omega) (G.add (by omega) a (G.mul (v d/aQ s D d) (by omega) (h d (by omega))))
theorem G.at_{j:Nat}:∀ {k d:Nat} {v:bJ},G n s D k d v->(∀ i,d<=i->i<j->v i=0)->d<=j->j<d+k->aQ s D j∣v j
 | 0,d,v,_,_,h1,h2=>by omega
 | k+1,d,v,g,h0,h1,h2=>by
  rcases Nat.lt_or_eq_of_le h1 with q | q
  ·have z:=h0 d (Nat.le_refl _) q
   have e:(λi=>v i-v d/aQ s D d*D d i)=v:=by funext i;rw[z];simp
   have g2:=g.2
   rw[e] at g2
   exact G.at_ g2 (λi a b=>h0 i (by omega) b) (by omega) (by omega)
  ·subst q;exact g.1
theorem x_(g:Good n s D)(g':Good n s D')(h:∀ d,d<n->G n s D n 0 (D' d)){d:Nat}(hd:d<n):aQ s D d∣aQ s D' d:=by
 have a:=G.at_ (h d hd) (j:=d) (λi _ hi=>g'.uo d hd i hi) (Nat.zero_le _) (by omega)
 have e:aQ s D' d=if D' d d=0 then s d else D' d d:=rfl
 rw[e]
 split
 ·exact g.dv d hd
 ·exact a
theorem HL(g:Good n s D)(g':Good n s D')(h:∀ d,d<n->G n s D n 0 (D' d))(h':∀ d,d<n->G n s D' n 0 (D d)):∀ d,d<n->aQ s D d=aQ s D' d:=λd hd =>
 Int.dvd_antisymm (by have:=g.pos hd;omega) (by have:=g'.pos hd;omega) (x_ g g' h hd) (x_ g' g h' hd)
end
end Rg
namespace vW
open PySem L2 PyProof.Rows Rg
local macro_rules | `(tactic| dsimp? [$ts,*])=>`(tactic| simp only[cI,a_,ax,k9,aq,vA,ux,retS,bb,n9,kK,jJ,ar,M.aO,M.bind_some,M.bind_none,M.BU,M.bind_assoc,ae,aj,ai,aa,ao,C5,D5,F6,FI,GZ,Hl,HF,Gr,GF,Fw,Hd,GH,Ib,FN,Gm,Gs,dH,kH,Lf,CQ,Hz,zc,Ml,zC,j8,IJ,k4,DM,itemsOf,jS,DE,D4,yj,Ez,DO,Cy,Ci,Bg,CZ,DB,Cr,qv,B6,dP,cO,xB,FR,List.length_cons,List.length_nil,List.map_cons,List.map_nil,List.cons_append,List.nil_append,List.replicate,List.getElem?_cons_zero,List.getElem?_cons_succ,List.getElem?_nil,List.set_cons_zero,List.set_cons_succ,List.set_nil,Nat.reduceAdd,Nat.reduceSub,if_true,if_false,Bool.not_true,Bool.not_false,Bool.false_eq_true,ite_true,ite_false,reduceIte,reduceCtorEq,Nat.sub_self,kY,cS,cA,Option.map_some,Option.map_none,CP,HX,Hj,Dr,Dg,El,GA,EH,Ed,Dp,oa,List.any_cons,List.any_nil,String.reduceBEq,Bool.or_false,Bool.or_true,Bool.true_or,Bool.false_or,Bool.and_true,Bool.and_false,Bool.true_and,Bool.false_and,DR,DU,FE,FP,C2,Em,Dv,ED,AD,Bv,f6,nI,List.foldl_cons,List.foldl_nil,sA,av trivial,$(⟨ts.elemsAndSeps⟩),*])
theorem mL(i:Int):fD [.int i]=M.ok (.bl true):=by rfl
theorem yc{α:Type}{inj:α->PV}{h:α->Bool}{p:PV}(xs:List α)(n:Int)(hp:p=.tup (xs.map inj)\/p=.lst (xs.map inj))(H:∀ a∈xs,fD [inj a]=M.ok (.bl (h a)))(hz:xs.length<=sizeLine):f9 [p,.int n]=M.ok (.bl (decide ((xs.length:Int)=n)&&xs.all h)):=by
 have key:bK (bG 0) none (ai fD (aa (ae 0) ao)) (xs.map inj) [none]=M.ok (xs.map λa=>.bl (h a)):=gv xs λa ha=>by dsimp? [H a ha]
 have key2:uZ [.lst (xs.map λa=>.bl (h a))]=M.ok (.bl (xs.all h)):=by
  have:=uQ (xs.map h)
  rw[List.map_map] at this
  rw[show (λa=>PV.bl (h a))=PV.bl∘h from rfl,this]
  simp[List.all_map]
 unfold f9 kb
 rcases hp with rfl | rfl
 all_goals
  dsimp? [List.length_map]
  by_cases e:(xs.length:Int)=n
  ·simp only[e,decide_true,Bool.not_true,M.aO,Bool.false_eq_true,if_false,vA,Bool.true_and]
   dsimp? [List.length_map,av hz,key,key2]
  ·simp only[e,decide_false,Bool.not_false,M.aO,if_true,ux,Bool.false_and]
   dsimp? []
theorem Cb(xs:List Int)(n:Int)(hz:xs.length<=sizeLine):f9 [tI xs,.int n]=M.ok (.bl (decide ((xs.length:Int)=n))):=by
 exact(yc (p:=tI xs) (h:=λ_=>true) xs n (.inl rfl) (λa _=>mL a) hz).trans (by rw[List.all_eq_true.mpr λ_ _=>rfl,Bool.and_true])
theorem F_(xs:List Int)(n:Int)(hz:xs.length<=sizeLine):f9 [lI xs,.int n]=M.ok (.bl (decide ((xs.length:Int)=n))):=by
 exact(yc (p:=lI xs) (h:=λ_=>true) xs n (.inr rfl) (λa _=>mL a) hz).trans (by rw[List.all_eq_true.mpr λ_ _=>rfl,Bool.and_true])
theorem JC{f:List Int->PV}(hf:f=tI\/f=lI)(xs:List Int)(n:Int)(hz:xs.length<=sizeLine):f9 [f xs,.int n]=M.ok (.bl (decide ((xs.length:Int)=n))):=by
 rcases hf with rfl | rfl
 ·exact Cb xs n hz
 ·exact F_ xs n hz
theorem E_{f:List Int->PV}(hf:f=tI\/f=lI)(xs:List Int):bL (f xs)=some (xs.map PV.int):=by rcases hf with rfl | rfl <;> rfl
theorem within_int(x a b:Int):dF [.int x,.int a,.int b]=M.ok (.bl (decide (a<=x/\x<=b))):=by
 unfold dF eI
 dsimp? [mL]
 by_cases h:a<=x
 ·simp only[h,decide_true,if_true,true_and];dsimp? []
 ·simp only[h,decide_false,false_and];dsimp? []
theorem iV{p:PV}{xs:List PV}(h:bL p=some xs):sU p=M.ok (.int xs.length):=by
 cases p <;> first | (cases h;rfl) | cases h
theorem q_{p:PV}(xs:List Int)(hp:bL p=some (xs.map PV.int))(h1:1<=xs.length)(h6:xs.length<=6)(hx:∀ x∈xs,2<=x/\x<=360):gL [p]=M.ok .cR:=by
 unfold gL gI
 have a1:¬ (6:Int)<xs.length:=by omega
 have a2:¬ (xs.length:Int)=0:=by omega
 dsimp? [a1,a2,decide_false,iV hp,List.length_map,um xs hp]
 refine eJ xs.zipIdx (λzs env=>(∃ b c,env=[some (.sh p),b,c])/\∀ z∈zs,2<=z.1/\z.1<=360) ⟨⟨_,_,rfl⟩,λz hz=>hx z.1 (List.fst_mem_of_mem_zipIdx hz)⟩ ?_ ?_
 ·rintro⟨a,i⟩ r env ⟨⟨b,c,rfl⟩,hz⟩
  have ha:=hz (a,i) List.mem_cons_self
  refine⟨_,[some (.sh p),some (.sh (.int i)),some (.sh (.int a))],rfl,?_,⟨_,_,rfl⟩,λz OE=>hz z (List.mem_cons_of_mem _ OE)⟩
  dsimp? [within_int,ha,and_self,decide_true]
 ·rintro MI ⟨⟨b,c,rfl⟩,_⟩;rfl
theorem o3{f:List Int->PV}(hf:f=tI\/f=lI)(n:Nat)(xs:List (List Int))(h8:xs.length<=8)(hx:∀ x∈xs,x.length=n)(hn:n<=100):fU [.lst (xs.map f),.int n]=M.ok .cR:=by
 unfold fU fW
 have a1:¬ (8:Int)<xs.length:=by omega
 dsimp? [a1,decide_false,List.length_map,oj]
 refine eJ xs.zipIdx (λzs env=>(∃ b c,env=[some (.sh (.lst (xs.map f))),some (.sh (.int n)),b,c])/\∀ z∈zs,z.1.length=n) ⟨⟨_,_,rfl⟩,λz hz=>hx z.1 (List.fst_mem_of_mem_zipIdx hz)⟩ ?_ ?_
 ·rintro⟨a,i⟩ r env ⟨⟨b,c,rfl⟩,hz⟩
  have ha:a.length=n:=hz (a,i) List.mem_cons_self
  refine⟨_,[some (.sh (.lst (xs.map f))),some (.sh (.int n)),some (.sh (.int i)),some (.sh (f a))],rfl,?_,⟨_,_,rfl⟩,λz OE=>hz z (List.mem_cons_of_mem _ OE)⟩
  dsimp? [JC hf a n (aX (by omega)),ha,decide_true]
 ·rintro MI ⟨⟨b,c,rfl⟩,_⟩;rfl
theorem ql(n:Nat)(p:PV):(List.replicate n [p]).flatten=List.replicate n p:=by
 induction n with
 | zero=>rfl
 | succ n ih=>rw[List.replicate_succ,List.flatten_cons,ih];rfl
theorem mul_one(p:PV)(n:Nat)(h8:n<=1000):bY (.tup [p]) (.int (n:Int))=M.ok (.tup (List.replicate n p)):=by
 have h2:[p].length*(n:Int).toNat<=sizeLine:=by
  rw[Int.toNat_natCast]
  exact aX (by show 1*n<=1000;omega)
 have h3:(n:Int)<2^63:=Int.lt_of_le_of_lt (Int.ofNat_le.mpr h8) (by decide)
 have h4:-(2^63)<=(n:Int):=Int.le_trans (by decide) (Int.natCast_nonneg n)
 rw[bY,av ⟨rfl,h4,h3,h2⟩,Int.toNat_natCast,ql]
theorem ke(xs:List PV)(h8:xs.length<=8):gU [.lst xs,.cR]=M.ok (tI (List.replicate xs.length 1)):=by
 unfold gU gC
 dsimp? [w6,r0,mul_one (.int 1) xs.length (by omega)]
 rw[tI,List.map_replicate]
def wL(xs sizes:List Int):List Int:=(xs.zip sizes).map λz=>z.1%z.2
theorem qf(p q:PV)(xs sizes:List Int)(hp:bL p=some (xs.map PV.int))(hq:bL q=some (sizes.map PV.int))(hs:∀ s∈sizes,0<s)(hz:xs.length<=1000):ji [p,q]=M.ok (tI (wL xs sizes)):=by
 have key:bK (bQ 0 1) none (aj cP (ae 0) (ae 1)) ((xs.zip sizes).map λz=>.tup [.int z.1,.int z.2]) [none,none]=M.ok ((xs.zip sizes).map λz=>.int (z.1%z.2)):=by
  refine iR (p:=λz:Int×Int=>PV.int z.1) (q:=λz:Int×Int=>PV.int z.2) (xs.zip sizes) λz hz=>?_
  have:=hs z.2 (List.of_mem_zip (a:=z.1) (b:=z.2) hz).2
  dsimp? [aW this]
 unfold ji kl
 have hl:(xs.zip sizes).length<=sizeLine:=by rw[List.length_zip];exact aX (Nat.le_trans (Nat.min_le_left _ _) hz)
 dsimp? [dX xs sizes hp hq,List.length_map,av hl,key]
 rw[tI,wL,List.map_map];rfl
theorem w4(a b c:PV):aT (.tup [a,b,c]) (.int 0)=M.ok a:=bD (j:=0) rfl rfl
theorem FO(a b c:PV):aT (.tup [a,b,c]) (.int 1)=M.ok b:=bD (j:=1) rfl rfl
theorem FL(a b c:PV):aT (.tup [a,b,c]) (.int 2)=M.ok c:=bD (j:=2) rfl rfl
theorem rH(a b:Int)(ha:a.natAbs<2^60)(hb:b.natAbs<2^60):∃ s t,gg [.int a,.int b]=M.ok (.tup [.int (Int.gcd a b),.int s,.int t])/\s*a+t*b=Int.gcd a b/\s.natAbs<=b.natAbs+1/\t.natAbs<=a.natAbs+(b.natAbs+1)*a.natAbs+b.natAbs+1:=by
 let J:af->Prop:=λenv=>∃ r s t r' s' t' x y,env=[some (.sh (.int a)),some (.sh (.int b)),some (.sh ((PV.tup [PV.int r,PV.int s,PV.int t]))),some (.sh ((PV.tup [PV.int r',PV.int s',PV.int t']))),x,y]/\Eu.St a b r s t r' s' t'
 let m:af->Nat:=λenv=>match env with
  | [_,_,_,some (.sh (.tup [.int r,_,_])),_,_]=>r.natAbs
  | _=>0
 have hk:(b.natAbs+1)*a.natAbs<=2^60*2^60:=Nat.mul_le_mul (by omega) (by omega)
 have hk2:(2:Nat)^60*2^60=2^120:=by decide
 have start:J [some (.sh (.int a)),some (.sh (.int b)),some (.sh ((PV.tup [PV.int a,PV.int 1,PV.int 0]))),some (.sh ((PV.tup [PV.int b,PV.int 0,PV.int 1]))),none,none]:=⟨_,_,_,_,_,_,_,_,rfl,Eu.start a b⟩
 have loop:=r_ (u:=dH (aj mM (aj aT (ae 3) (λ_=>M.ok (.int 0))) (λ_=>M.ok (.int 0)))) (b:=(aq (bb 4 (aj bw (aj aT (ae 2) (λ_=>M.ok (.int 0))) (aj aT (ae 3) (λ_=>M.ok (.int 0)))))
  (aq (bb 5 (jm (aa (aj iQ (aj aT (ae 2) (λ_=>M.ok (.int 0))) (aj bY (ae 4) (aj aT (ae 3) (λ_=>M.ok (.int 0))))) (aa (aj iQ (aj aT (ae 2) (λ_=>M.ok (.int 1))) (aj bY (ae 4) (aj aT (ae 3) (λ_=>M.ok (.int 1))))) (aa (aj iQ (aj aT (ae 2) (λ_=>M.ok (.int 2))) (aj bY (ae 4) (aj aT (ae 3) (λ_=>M.ok (.int 2))))) ao)))))
  (aq (bb 2 (ae 3))
  (aq (bb 3 (ae 5))
  ar))))) J m ?_ _ start
 ·obtain⟨MI,e1,⟨r,s,t,r',s',t',x,y,rfl,st⟩,e2⟩:=loop
  have hr':r'=0:=by
   revert e2
   dsimp? [w4]
   intro e2
   have:(!decide (r'=0))=false:=by injection e2 with e2;injection e2
   simpa using this
  subst hr'
  obtain⟨d1,d2⟩:=Eu.done st
  have hg:(r.natAbs:Int)=Int.gcd a b:=by
   have h1:r.natAbs∣Int.gcd a b:=Int.dvd_gcd (Int.natAbs_dvd.mpr d1) (Int.natAbs_dvd.mpr d2)
   have h2:((Int.gcd a b:Nat):Int)∣r:=by
    rw[st.c0]
    exact Int.dvd_add (Int.dvd_trans (Int.gcd_dvd_left ..) (Int.dvd_mul_left _ _)) (Int.dvd_trans (Int.gcd_dvd_right ..) (Int.dvd_mul_left _ _))
   have h3:Int.gcd a b∣r.natAbs:=Int.ofNat_dvd_left.mp h2
   rw[Nat.dvd_antisymm h1 h3]
  unfold gg jU
  dsimp? []
  rw[e1]
  dsimp? [w4,FO,FL]
  by_cases hneg:r<0
  ·refine⟨-s,-t,?_,?_,by rw[Int.natAbs_neg];exact st.b0,by rw[Int.natAbs_neg];exact st.d0⟩
   ·simp only[hneg,decide_true,if_true];dsimp? []
    rw[show -r=(Int.gcd a b:Int) by omega]
   ·have:=st.c0
    rw[Int.neg_mul,Int.neg_mul];omega
  ·refine⟨s,t,?_,?_,st.b0,st.d0⟩
   ·simp only[hneg,decide_false,Bool.false_eq_true,if_false];dsimp? []
    rw[show r=(Int.gcd a b:Int) by omega]
   ·have:=st.c0;omega
 ·rintro env ⟨r,s,t,r',s',t',x,y,rfl,st⟩
  by_cases h0:r'=0
  ·refine .inl ?_
   dsimp? [w4]
   simp[h0]
  ·refine .inr ⟨?_,?_⟩
   ·dsimp? [w4]
    simp[h0]
   ·obtain⟨PM,lt⟩:=Eu.turn st h0
    have b1:=st.m1;have b0:=st.m0;have c1:=st.b1;have c2:=st.d1;have c3:=PM.m1
    have q1:(r.fdiv r').natAbs<=r.natAbs+1:=by
     obtain⟨f1,f2,f3⟩:=Eu.rC r r' h0
     generalize r.fdiv r'=q at *
     have e:q*r'=r-(r-q*r'):=by omega
     have e2:(q*r').natAbs<=r.natAbs+(r-q*r').natAbs:=by omega
     rw[Int.natAbs_mul] at e2
     have:q.natAbs*1<=q.natAbs*r'.natAbs:=Nat.mul_le_mul_left _ (by omega)
     rcases Nat.lt_or_ge (r.natAbs+1) q.natAbs with h | h
     ·have h5:(r.natAbs+2)*r'.natAbs<=q.natAbs*r'.natAbs:=Nat.mul_le_mul_right _ (by omega)
      have h6:r.natAbs*1<=r.natAbs*r'.natAbs:=Nat.mul_le_mul_left _ (by omega)
      rw[Nat.add_mul] at h5
      omega
     ·exact h
    have q2:(r.fdiv r').natAbs<2^200:=by omega
    refine⟨[some (.sh (.int a)),some (.sh (.int b)),some (.sh ((PV.tup [PV.int r',PV.int s',PV.int t']))),some (.sh ((PV.tup [PV.int (r-r.fdiv r'*r'),PV.int (s-r.fdiv r'*s'),PV.int (t-r.fdiv r'*t')]))),some (.sh (.int (r.fdiv r'))),some (.sh ((PV.tup [PV.int (r-r.fdiv r'*r'),PV.int (s-r.fdiv r'*s'),PV.int (t-r.fdiv r'*t')])))],?_,⟨_,_,_,_,_,_,_,_,rfl,PM⟩,lt⟩
    dsimp? [w4,FO,FL,mq h0 (Nat.lt_of_lt_of_le (show r'.natAbs<2^200 by omega) (Nat.pow_le_pow_right (by decide) (by decide))),bg (k:=200) (l:=200) q2 (show r'.natAbs<2^200 by omega),bg (k:=200) (l:=200) q2 (show s'.natAbs<2^200 by omega),bg (k:=200) (l:=200) q2 (show t'.natAbs<2^200 by omega)]
def R(sizes:List Int):Int:=(Lc.Bn (sizes.map Int.toNat):Nat)
structure Sz (sizes:List Int):Prop where
 h1:1<=sizes.length
 h6:sizes.length<=6
 hx:∀ x∈sizes,2<=x/\x<=360
theorem rT{sizes:List Int}(h:Sz sizes):0<R sizes:=by
 refine Int.ofNat_lt.mpr (Lc.lcm_pos λn hn=>?_)
 obtain⟨x,hx,rfl⟩:=List.mem_map.mp hn
 have:=h.hx x hx;omega
theorem JY{sizes:List Int}(h:Sz sizes):R sizes<2^60:=by
 have h1:=Lc.pj 9 (sizes.map Int.toNat) 1 0 (by decide) (by decide) λn hn=>by
  obtain⟨x,hx,rfl⟩:=List.mem_map.mp hn
  have:=h.hx x hx;omega
 have h2:(2:Nat)^(0+9*(sizes.map Int.toNat).length)<=2^54:=Nat.pow_le_pow_right (by decide) (by rw[List.length_map];have:=h.h6;omega)
 have h3:Lc.Bn (sizes.map Int.toNat)<=2^54:=Nat.le_trans h1 h2
 unfold R;omega
theorem Jt{sizes:List Int}(h:Sz sizes){x:Int}(hx:x∈sizes):x∣R sizes:=by
 have h1:=Lc.lcm_dvd (ns:=sizes.map Int.toNat) (List.mem_map.mpr ⟨x,hx,rfl⟩)
 have h2:=Int.ofNat_dvd.mpr h1
 rw[Int.toNat_of_nonneg (by have:=h.hx x hx;omega)] at h2
 exact h2
structure Acc (sizes r:List Int) (acc:Nat):Prop where
 pos:0<acc
 le:acc<=2^(9*(6-r.length))
 len:r.length<=6
 val:(r.map Int.toNat).foldl Nat.lcm acc=Lc.Bn (sizes.map Int.toNat)
 je:∀ x∈r,2<=x/\x<=360
theorem Acc.start{sizes:List Int}(h:Sz sizes):Acc sizes sizes 1:=⟨by decide,Nat.one_le_two_pow,h.h6,rfl,h.hx⟩
theorem Acc.lt{sizes r:List Int}{acc:Nat}(h:Acc sizes r acc):acc<2^60:=by
 have h2:(2:Nat)^(9*(6-r.length))<=2^54:=Nat.pow_le_pow_right (by decide) (by omega)
 have:=h.le;omega
theorem Acc.turn{sizes r:List Int}{x:Int}{acc:Nat}(h:Acc sizes (x::r) acc):Acc sizes r (Nat.lcm acc x.toNat)/\(acc:Int)/(Int.gcd acc x:Nat)*x=(Nat.lcm acc x.toNat:Nat)/\(acc:Int)/(Int.gcd acc x:Nat)<=acc/\0<Int.gcd acc x:=by
 have hx:=h.je x List.mem_cons_self
 have hp:=h.pos
 obtain⟨n,rfl⟩:=Int.eq_ofNat_of_zero_le (show 0<=x by omega)
 have hg:Int.gcd (acc:Int) (n:Int)=Nat.gcd acc n:=rfl
 refine⟨⟨Nat.lcm_pos hp (by omega),?_,?_,h.val,λy hy=>h.je y (List.mem_cons_of_mem _ hy)⟩,?_,?_,?_⟩
 ·have h1:Nat.lcm acc n<=acc*n:=Nat.le_of_dvd (Nat.mul_pos hp (by omega)) (Nat.lcm_dvd (Nat.dvd_mul_right ..) (Nat.dvd_mul_left ..))
  have h2:acc*n<=2^(9*(6-(r.length+1)))*2^9:=Nat.mul_le_mul h.le (by omega)
  have hl:r.length+1<=6:=h.len
  rw[← Nat.pow_add,show 9*(6-(r.length+1))+9=9*(6-r.length) by omega] at h2
  exact Nat.le_trans h1 h2
 ·have hl:r.length+1<=6:=h.len
  omega
 ·rw[hg,Int.toNat_natCast,← Lc.Bq];norm_cast
 ·rw[hg]
  exact Int.ofNat_le.mpr (Nat.div_le_self acc (Nat.gcd acc n))
 ·rw[hg];exact Nat.gcd_pos_of_pos_left _ hp
theorem ix{p:PV}(sizes:List Int)(hp:bL p=some (sizes.map PV.int))(h:Sz sizes):fM [p]=M.ok (.int (R sizes)):=by
 unfold fM fN
 dsimp? [hp]
 refine eJ sizes (λr env=>∃ acc x,env=[some (.sh p),some (.sh (.int (acc:Nat))),x]/\Acc sizes r acc) ⟨1,_,rfl,.start h⟩ ?_ ?_
 ·rintro a r env ⟨acc,x,rfl,A⟩
  obtain⟨A2,e1,e2,e3⟩:=A.turn
  have l1:=A.lt
  have ha:=A.je a List.mem_cons_self
  obtain⟨s,t,ec,_,_,_⟩:=rH (acc:Int) a (by omega) (by omega)
  have g1:Int.gcd acc a<=acc:=Nat.le_of_dvd A.pos (Int.ofNat_dvd.mp (Int.gcd_dvd_left ..))
  have d0:0<=(acc:Int)/(Int.gcd acc a:Nat):=Int.ediv_nonneg (by omega) (by omega)
  refine⟨_,[some (.sh p),some (.sh (.int (Nat.lcm acc a.toNat:Nat))),some (.sh (.int a))],rfl,?_,_,_,rfl,A2⟩
  dsimp? [ec,w4,aL (i:=(acc:Int)) (show (0:Int)<(Int.gcd acc a:Nat) by omega) (show ((Int.gcd acc a:Nat):Int)<2^64 by omega),bg (k:=64) (l:=64) (show ((acc:Int)/(Int.gcd acc a:Nat)).natAbs<2^64 by omega) (show a.natAbs<2^64 by omega),e1]
 ·rintro MI ⟨acc,x,rfl,A⟩
  dsimp? []
  have:=A.val
  rw[R,← this];rfl
def p5(sizes:List Int)(levers:List (List Int)):List (Str×PV):=[("dial_sizes", tI sizes),("lever_settings", .tup (levers.map tI)),("lever_prices", tI (List.replicate levers.length 1)),("least_round", .int (R sizes))]
def dY(sizes:List Int)(levers:List (List Int)):PV:=.obj ay (p5 sizes levers)
structure CM (sizes xs:List Int):Prop where
 len:xs.length=sizes.length
 je:∀ z∈xs.zip sizes,0<=z.1/\z.1<z.2
theorem uN{sizes xs:List Int}(h:CM sizes xs):wL xs sizes=xs:=by
 obtain⟨hl,hr⟩:=h
 unfold wL
 induction xs generalizing sizes with
 | nil=>rfl
 | cons x r ih =>
  cases sizes with
  | nil=>cases hl
  | cons s t =>
   have h1:=hr (x,s) (by simp)
   rw[List.zip_cons_cons,List.map_cons,ih (Nat.succ.inj hl) λz hz=>hr z (by rw[List.zip_cons_cons];exact List.mem_cons_of_mem _ hz)]
   rw[show ((x,s):Int×Int).1%((x,s):Int×Int).2=x from Int.emod_eq_of_lt h1.1 h1.2]
theorem vK(f:Str)(p:PV):∀ fs:List (Str×PV),(tV f p fs).length<=fs.length+1
 | []=>by simp[tV]
 | (g,q)::r=>by
  have:=vK f p r
  unfold tV
  split
  ·simp
  ·simp;omega
theorem jG{f:Str}{p:PV}{fs:List (Str×PV)}{n:Nat}(h:fs.length<=n):(tV f p fs).length<=n+1:=Nat.le_trans (vK f p fs) (by omega)
theorem gZ(a C:Addr)(f:Str)(p:PV)(fs:List (Str×PV))(r:af)(h:fs.length<1000):Bt 0 C f p (some (.bd a C fs)::r)=M.ok (.nx (some (.bd a C (tV f p fs))::r)):=by
 show cD _ _=_
 rw[av ⟨rfl,h⟩];rfl
theorem Ex{p:PV}{f:List Int->PV}(hf:f=tI\/f=lI)(sizes:List Int)(levers:List (List Int))(hp:bL p=some (sizes.map PV.int))(h:Sz sizes)(h8:levers.length<=8)(hl:∀ l∈levers,l.length=sizes.length):cY ay eC [.cR] [p,.lst (levers.map f)]=M.ok (dY sizes (levers.map λl=>wL l sizes)):=by
 have key:∀ a,eC a ([p,.lst (levers.map f)]++[.cR])=M.ok (p5 sizes (levers.map λl=>wL l sizes)):=by
  intro a
  have e1:bK (bG 0) none (ai ji (aa (ae 0) (aa (ae 1) ao))) (levers.map f) [none,some (.sh p)]=M.ok (levers.map λl=>tI (wL l sizes)):=by
   refine gv levers λl hm=>?_
   have hs:=hl l hm
   have:=qf (f l) p l sizes (E_ hf l) hp (λs hs=>by have:=h.hx s hs;omega) (by rw[hs];have:=h.h6;omega)
   dsimp? [this]
  unfold eC jt
  simp only[l7]
  rw[av (show ([p,PV.lst (levers.map f)]++[PV.cR]).length+1=4 from rfl)]
  simp only[qL,uV]
  dsimp? [hp,iV hp,q_ sizes hp h.h1 h.h6 h.hx,o3 hf sizes.length levers h8 hl (by have:=h.h6;omega),jx,hp,iV hp,List.length_map,av (aX (show levers.length<=1000 by omega)),e1,ke _ (show (levers.map f).length<=8 by rw[List.length_map];exact h8),ix sizes hp h]
  rw[gZ _ _ _ _ _ _ (by simp)]
  dsimp? [jx,hp,iV hp,List.length_map,av (aX (show levers.length<=1000 by omega)),e1,ke _ (show (levers.map f).length<=8 by rw[List.length_map];exact h8),ix sizes hp h]
  rw[gZ _ _ _ _ _ _ (Nat.lt_of_le_of_lt (jG (Nat.zero_le 0)) (by decide))]
  dsimp? [jx,hp,iV hp,List.length_map,av (aX (show levers.length<=1000 by omega)),e1,ke _ (show (levers.map f).length<=8 by rw[List.length_map];exact h8),ix sizes hp h]
  rw[gZ _ _ _ _ _ _ (Nat.lt_of_le_of_lt (jG (jG (Nat.zero_le 0))) (by decide))]
  dsimp? [jx,hp,iV hp,List.length_map,av (aX (show levers.length<=1000 by omega)),e1,ke _ (show (levers.map f).length<=8 by rw[List.length_map];exact h8),ix sizes hp h]
  rw[gZ _ _ _ _ _ _ (Nat.lt_of_le_of_lt (jG (jG (jG (Nat.zero_le 0)))) (by decide))]
  dsimp? []
  show cD _ _=_
  rw[av ⟨rfl,rfl⟩]
  rw[p5,List.map_map,List.length_map]
  rfl
 unfold cY
 rw[tK key];rfl
theorem Ah(sizes:List Int)(levers:List (List Int)):(p5 sizes levers).lookup (Str.ofString "dial_sizes")=some (tI sizes):=rfl
theorem yN(sizes:List Int)(levers:List (List Int)):(p5 sizes levers).lookup (Str.ofString "lever_settings")=some (.tup (levers.map tI)):=rfl
theorem Ab(sizes:List Int)(levers:List (List Int)):(p5 sizes levers).lookup (Str.ofString "least_round")=some (.int (R sizes)):=rfl
theorem IT(sizes:List Int)(levers:List (List Int)):(p5 sizes levers).lookup (Str.ofString "sizes")=none:=rfl
theorem IF(sizes:List Int)(levers:List (List Int)):(p5 sizes levers).lookup (Str.ofString "levers")=none:=rfl
theorem uX(sizes:List Int)(levers:List (List Int)):aP [dY sizes levers]=M.ok (tI sizes):=by
 unfold aP a0
 dsimp? [dI,dY,beq_self_eq_true,Ah]
theorem sv(sizes:List Int)(levers:List (List Int)):bf [dY sizes levers]=M.ok (.tup (levers.map tI)):=by
 unfold bf bU
 dsimp? [dI,dY,beq_self_eq_true,yN]
theorem oK{g:af->M PV}{env:af}{sizes:List Int}{levers:List (List Int)}(h:g env=M.ok (dY sizes levers)):bo ay "sizes" aP g ao env=M.ok (tI sizes):=by
 have:=uX sizes levers
 rw[bo,h,M.aO]
 show cD _ (M.bind (ao env) _)=_
 rw[av ⟨rfl,IT sizes levers⟩]
 exact this
theorem pQ{g:af->M PV}{env:af}{sizes:List Int}{levers:List (List Int)}(h:g env=M.ok (dY sizes levers)):bo ay "levers" bf g ao env=M.ok (.tup (levers.map tI)):=by
 have:=sv sizes levers
 rw[bo,h,M.aO]
 show cD _ (M.bind (ao env) _)=_
 rw[av ⟨rfl,IF sizes levers⟩]
 exact this
def Ek(sizes xs:List Int):Bool:=decide ((xs.length:Int)=sizes.length)&&(xs.zip sizes).all λz=>decide (0<=z.1/\z.1<z.2)
theorem D_{sizes xs:List Int}:Ek sizes xs=true ↔ CM sizes xs:=by
 unfold Ek
 constructor
 ·intro h
  simp only[Bool.and_eq_true,decide_eq_true_eq,List.all_eq_true] at h
  exact⟨by omega,h.2⟩
 ·intro h
  simp only[Bool.and_eq_true,decide_eq_true_eq,List.all_eq_true]
  exact⟨by rw[h.len],h.je⟩
theorem AO(x s:Int):∀ env:af,env=[some (.sh (.int x)),some (.sh (.int s))]->k4 C8 CO (λ_=>M.ok (.int 0)) (ae 0) (ae 1) env=M.ok (.bl (decide (0<=x/\x<s))):=by
 rintro env rfl
 dsimp? []
 by_cases h:0<=x
 ·simp only[h,decide_true,if_true,true_and]
  try dsimp? []
 ·simp only[h,decide_false,false_and]
  try dsimp? []
theorem F7{α:Type}(h:α->Bool)(xs:List α):uZ [.lst (xs.map λa=>.bl (h a))]=M.ok (.bl (xs.all h)):=by
 have:=uQ (xs.map h)
 rw[List.map_map] at this
 rw[show (λa=>PV.bl (h a))=PV.bl∘h from rfl,this]
 simp[List.all_map]
section
variable{sizes:List Int}{levers:List (List Int)}
theorem wj(h:Sz sizes)(xs:List Int)(hz:xs.length<=1000):gA [dY sizes levers,tI xs]=M.ok (.bl (Ek sizes xs)):=by
 have key:bK (bQ 0 1) none (k4 C8 CO (λ_=>M.ok (.int 0)) (ae 0) (ae 1)) ((xs.zip sizes).map λz=>.tup [.int z.1,.int z.2]) [none,none]=M.ok ((xs.zip sizes).map λz=>.bl (decide (0<=z.1/\z.1<z.2))) :=
  iR (p:=λz:Int×Int=>PV.int z.1) (q:=λz:Int×Int=>PV.int z.2) (xs.zip sizes) λz hz=>AO z.1 z.2 _ rfl
 have hl:(xs.zip sizes).length<=sizeLine:=by rw[List.length_zip];exact aX (Nat.le_trans (Nat.min_le_left _ _) hz)
 unfold gA gK
 dsimp? [oK (sizes:=sizes) (levers:=levers) (g:=ae 0) (env:=[some (.sh (dY sizes levers)),some (.sh (tI xs)),none]) rfl,Cb xs sizes.length (aX hz)]
 unfold Ek
 by_cases e:(xs.length:Int)=sizes.length
 ·simp only[e,decide_true,Bool.not_true,Bool.false_eq_true,if_false,Bool.true_and]
  dsimp? [dX (p:=tI xs) (q:=tI sizes) xs sizes rfl rfl,List.length_map,av hl,key,F7]
 ·simp only[e,decide_false,Bool.not_false,if_true,Bool.false_and]
  dsimp? []
theorem lP(h:Sz sizes){xs:List Int}(hs:CM sizes xs):bR [dY sizes levers,tI xs]=M.ok .cR:=by
 unfold bR cX
 dsimp? [wj (levers:=levers) h xs (by rw[hs.len];have:=h.h6;omega),D_.mpr hs]
end
theorem jC{xs ys:List Int}{z:Int×Int}(h:z∈xs.zip ys):z.1∈xs/\z.2∈ys:=List.of_mem_zip (a:=z.1) (b:=z.2) h
theorem ot{sizes xs:List Int}(h:Sz sizes)(hs:CM sizes xs){x:Int}(hx:x∈xs):0<=x/\x<360:=by
 obtain⟨i,hi,rfl⟩:=List.mem_iff_getElem.mp hx
 have hj:i<sizes.length:=by rw[← hs.len];exact hi
 have:=hs.je (xs[i],sizes[i]) (by
  rw[List.mem_iff_getElem]
  exact⟨i,by rw[List.length_zip];omega,by rw[List.getElem_zip]⟩)
 have h2:=h.hx sizes[i] (List.getElem_mem hj)
 exact⟨this.1,by have:=this.2;simp only at this;omega⟩
theorem ue(xs sizes:List Int):wL xs sizes=yA xs sizes:=rfl
def cf(a b:Int):Int×Int:=open Classical in if h:∃ p:Int×Int,gg [.int a,.int b]=M.ok (.tup [.int (Int.gcd a b),.int p.1,.int p.2])/\p.1*a+p.2*b=Int.gcd a b/\p.1.natAbs<=b.natAbs+1/\p.2.natAbs<=a.natAbs+(b.natAbs+1)*a.natAbs+b.natAbs+1 then h.choose else (0,0)
theorem EI(a b:Int)(ha:a.natAbs<2^60)(hb:b.natAbs<2^60):gg [.int a,.int b]=M.ok (.tup [.int (Int.gcd a b),.int (cf a b).1,.int (cf a b).2])/\(cf a b).1*a+(cf a b).2*b=Int.gcd a b/\(cf a b).1.natAbs<=b.natAbs+1/\(cf a b).2.natAbs<=a.natAbs+(b.natAbs+1)*a.natAbs+b.natAbs+1:=by
 have h:∃ p:Int×Int,gg [.int a,.int b]=M.ok (.tup [.int (Int.gcd a b),.int p.1,.int p.2])/\p.1*a+p.2*b=Int.gcd a b/\p.1.natAbs<=b.natAbs+1/\p.2.natAbs<=a.natAbs+(b.natAbs+1)*a.natAbs+b.natAbs+1:=by
  obtain⟨s,t,h⟩:=rH a b ha hb
  exact⟨(s,t),h⟩
 unfold cf
 rw[dif_pos h]
 exact h.choose_spec
theorem Cd:CB cf:=λa b h1 h2 h3 h4=>by
 obtain⟨_,e,b1,b2⟩:=EI a b (by omega) (by omega)
 refine⟨e,by omega,?_⟩
 have:(b.natAbs+1)*a.natAbs<=361*360:=Nat.mul_le_mul (by omega) (by omega)
 omega
def mk(r:Row):PV:=.tup [tI r.1,tI r.2]
theorem ni(r:Row):aT (mk r) (.int 0)=M.ok (tI r.1):=bD (p:=mk r) (j:=0) rfl rfl
theorem Az(r:Row):aT (mk r) (.int 1)=M.ok (tI r.2):=bD (p:=mk r) (j:=1) rfl rfl
theorem kc{xs:List Int}{i:Nat}(h:i<xs.length):aT (tI xs) (.int (i:Int))=M.ok (.int (vf xs i)) :=
 bD (p:=tI xs) rfl (by rw[List.getElem?_map,List.getElem?_eq_getElem h,aS h];rfl)
theorem qw{rows:List Row}{d:Nat}(h:d<rows.length):aT (.lst (rows.map mk)) (.int (d:Int))=M.ok (mk (row rows d)) :=
 bD (p:=.lst (rows.map mk)) rfl (by rw[List.getElem?_map,List.getElem?_eq_getElem h,hU h];rfl)
theorem qt{A B:Nat}(p q:PV)(xs ys:List Int)(a b:Int)(hp:bL p=some (xs.map PV.int))(hq:bL q=some (ys.map PV.int))(hx:Bd B xs)(hy:Bd B ys)(ha:a.natAbs<2^A)(hb:b.natAbs<2^A)(hB:B<=9000)(hA:A<=9000)(hz:xs.length<=1000):kh [p,.int a,q,.int b]=M.ok (tI (nZ xs a ys b)):=by
 have key:bK (bQ 0 1) none (aj fE (aj bY (ae 2) (ae 0)) (aj bY (ae 3) (ae 1))) ((xs.zip ys).map λz=>.tup [.int z.1,.int z.2]) [none,none,some (.sh (.int a)),some (.sh (.int b))]=M.ok ((xs.zip ys).map λz=>.int (a*z.1+b*z.2)):=by
  refine iR (p:=λz:Int×Int=>PV.int z.1) (q:=λz:Int×Int=>PV.int z.2) (xs.zip ys) λz hz=>?_
  have m:=List.of_mem_zip (a:=z.1) (b:=z.2) hz
  dsimp? [bg (k:=A) (l:=B) ha (hx _ m.1) hA hB,bg (k:=A) (l:=B) hb (hy _ m.2) hA hB]
 have hl:(xs.zip ys).length<=sizeLine:=by rw[List.length_zip];exact aX (Nat.le_trans (Nat.min_le_left _ _) hz)
 unfold kh lN
 dsimp? [dX xs ys hp hq,List.length_map,av hl,key]
 rw[tI,nZ,List.map_map];rfl
theorem wK{A B:Nat}{sizes:List Int}{r q:Row}{a b:Int}(hs:∀ s∈sizes,0<s)(h1:Bd B r.1)(h2:Bd B r.2)(h3:Bd B q.1)(h4:Bd B q.2)(ha:a.natAbs<2^A)(hb:b.natAbs<2^A)(hB:B<=9000)(hA:A<=9000)(z1:r.1.length<=100)(z2:r.2.length<=100):dJ [tI sizes,mk r,.int a,mk q,.int b]=M.ok (mk (qx sizes r a q b)):=by
 unfold dJ eZ
 dsimp? [ni,Az,qt (tI r.1) (tI q.1) r.1 q.1 a b rfl rfl h1 h3 ha hb hB hA (by omega),qt (tI r.2) (tI q.2) r.2 q.2 a b rfl rfl h2 h4 ha hb hB hA (by omega),qf (tI (nZ r.1 a q.1 b)) (tI sizes) (nZ r.1 a q.1 b) sizes rfl rfl hs (by rw[bX];omega)]
 rfl
theorem tH{sizes:List Int}{rows:List Row}{n m d:Nat}(w:Wf n m rows)(hs:sizes.length=n)(hd:d<n):dw [tI sizes,.lst (rows.map mk),.int (d:Int)]=M.ok (.int (aQ (vf sizes) (DD rows) d)):=by
 unfold dw eN
 have e1:=w.oP hd
 dsimp? [qw (rows:=rows) (d:=d) (by rw[w.len];exact hd),ni,kc (xs:=(row rows d).1) (i:=d) (by omega)]
 unfold aQ
 by_cases z:DD rows d d=0
 ·have z':vf (row rows d).1 d=0:=z
  simp only[z',z,decide_true,if_true]
  dsimp? [kc (xs:=sizes) (i:=d) (by omega)]
 ·have z':¬ vf (row rows d).1 d=0:=z
  simp only[z',z,decide_false,Bool.false_eq_true,if_false]
  dsimp? []
  rfl
theorem drop_cons{α:Type}{xs:List α}{d:Nat}{a:α}{r:List α}(h:xs.drop d=a::r):d<xs.length/\xs[d]?=some a/\xs.drop (d+1)=r:=by
 have hd:d<xs.length:=by
  rcases Nat.lt_or_ge d xs.length with q | q
  ·exact q
  ·rw[List.drop_eq_nil_of_le q] at h;cases h
 rw[List.drop_eq_getElem_cons hd] at h
 injection h with h1 h2
 exact⟨hd,by rw[List.getElem?_eq_getElem hd,h1],h2⟩
theorem eG(env:af):jN ao env=M.ok []:=by
 simp only[jN,ao,M.aO]
 exact if_pos (Nat.zero_le _)
theorem uf{i:Nat}{f:af->M PV}{env:af}{xs:List PV}{p:PV}(h:env[i]?=some (some (.ow xs)))(hf:f env=M.ok p)(hz:xs.length<1000):iW i f env=M.ok (.nx (env.set i (some (.ow (xs++[p]))))):=by
 unfold iW
 rw[h]
 show M.bind (f env) _=_
 rw[hf,M.aO,if_pos (mB (Nat.le_of_lt hz))]
theorem sM{n:Nat}{sizes xs:List Int}(hl:xs.length=n)(h:∀ i,i<n->0<=vf xs i/\vf xs i<vf sizes i)(hs:∀ i,i<n->vf sizes i<=360):Bd 9 xs:=λx hx=>by
 obtain⟨i,hi,rfl⟩:=List.mem_iff_getElem.mp hx
 have h1:=h i (by omega);have h2:=hs i (by omega)
 rw[aS hi] at h1
 omega
theorem BQ{a b:Int}(h1:-1000<=a)(h2:a<=1000)(h3:-1000<=b)(h4:b<=1000):yP [.int a,.int b]=M.ok ((List.range (b-a).toNat).map λ(i:Nat)=>.int (a+(i:Int))):=by
 have h:-(2^62)<=a/\a<2^62/\-(2^62)<=b/\b<2^62:=by omega
 show cD (-(2^62)<=a/\a<2^62/\-(2^62)<=b/\b<2^62) _=_
 rw[av h]
section
variable{n m k:Nat}{sizes:List Int}{A:Nat->bJ}{rows:List Row}{left:Row}
theorem St.BD(h:St n m sizes A k rows){d:Nat}(hd:d<n):Bd 9 (row rows d).1:=sM (h.wf.oP hd) (λi hi=>h.gd.je d hd i hi) h.sm
theorem Ao(h:St n m sizes A k rows):∀ s∈sizes,0<s:=λs hs=>by
 obtain⟨i,hi,rfl⟩:=List.mem_iff_getElem.mp hs
 have:=h.gd.sp i (by rw[← h.hs];exact hi)
 rwa [aS hi] at this
theorem CA(h:St n m sizes A k rows)(L:Lv n m sizes A k left)(hn:n<=6)(hm:m<=8):jz [tI sizes,.lst (rows.map mk),mk left]=M.ok (.tup [.lst ((cK cf sizes rows left n).map mk),tI (aA cf sizes rows left n).2]):=by
 have rl:=h.wf.len
 have hkm:=L.km
 unfold jz jh
 dsimp? [eG,oj]
 refine eJ rows.zipIdx (λzs env=>∃ d x4 x5 x6 x7 x8,d<=n/\rows.zipIdx.drop d=zs/\env=[some (.sh (tI sizes)),some (.sh (.lst (rows.map mk))),some (.sh (mk (aA cf sizes rows left d))),some (.ow ((cK cf sizes rows left d).map mk)),x4,x5,x6,x7,x8]) ⟨0,none,none,none,none,none,Nat.zero_le _,rfl,rfl⟩ ?_ ?_
 ·rintro⟨a,i⟩ zs env ⟨d,x4,x5,x6,x7,x8,hd,OG,rfl⟩
  obtain⟨h1,h2,h3⟩:=drop_cons OG
  rw[List.length_zipIdx,rl] at h1
  have h4:a=row rows d/\i=d:=by
   rw[List.getElem?_zipIdx] at h2
   rw[hU (by rw[rl];exact h1)]
   rw[List.getElem?_eq_getElem (by rw[rl];exact h1)] at h2
   simp at h2
   exact⟨h2.1.symm,h2.2.symm⟩
  obtain⟨rfl,rfl⟩:=h4
  have ll:=de (c:=cf) h.wf h.hs L.l1 L.l2 i (by omega)
  have lk:=kv (c:=cf) h L i (by omega)
  have lb:=oH (c:=cf) h L hn i (by omega)
  have st:=h.gd.pos h1
  have sm:=h.sm i h1
  have nt:=lk i h1
  have e1:=h.wf.oP h1;have e2:=h.wf.at2 h1
  generalize Nc:aQ (vf sizes) (DD rows) i=NO at *
  generalize hnt:vf (aA cf sizes rows left i).1 i=nt' at *
  obtain⟨c1,c2,c3,c4⟩:=EI NO nt' (by omega) (by omega)
  have cb:=Cd NO nt' st.1 (by omega) nt.1 (by omega)
  have gp:=gJ (b:=nt') st.1
  have gl:(Int.gcd NO nt':Int)<=NO:=Int.le_of_dvd st.1 (Int.gcd_dvd_left ..)
  have a1:=j_ (b:=nt') st.1 (by omega)
  have a2:=lM (b:=nt') st.1 nt.1 (by omega)
  have B1:Bd 1300 (row rows i).1:=(St.BD h h1).mono (by omega)
  have B2:Bd 1300 (row rows i).2:=(h.bd i h1).mono (by omega)
  have B3:Bd 1300 (aA cf sizes rows left i).1:=(sM ll.1 lk h.sm).mono (by omega)
  have B4:Bd 1300 (aA cf sizes rows left i).2:=lb.mono (by omega)
  have w1:=wK (A:=20) (sizes:=sizes) (Ao h) B1 B2 B3 B4 cb.2.1 cb.2.2 (by decide) (by decide) (by omega) (by omega)
  have w2:=wK (A:=20) (sizes:=sizes) (a:=NO/(Int.gcd NO nt':Nat)) (b:=-(nt'/(Int.gcd NO nt':Nat))) (Ao h) B3 B4 B1 B2 (by omega) (by omega) (by decide) (by decide) (by omega) (by omega)
  have ew:er cf sizes rows left i=qx sizes (row rows i) (cf NO nt').1 (aA cf sizes rows left i) (cf NO nt').2:=by
   simp only[er,Nc,hnt]
  have el:aA cf sizes rows left (i+1)=qx sizes (aA cf sizes rows left i) (NO/(Int.gcd NO nt':Nat)) (row rows i) (-(nt'/(Int.gcd NO nt':Nat))):=by
   simp only[aA,Nc,hnt]
  refine⟨_,[some (.sh (tI sizes)),some (.sh (.lst (rows.map mk))),some (.sh (mk (aA cf sizes rows left (i+1)))),some (.ow ((cK cf sizes rows left (i+1)).map mk)),some (.sh (.int i)),some (.sh (mk (row rows i))),some (.sh (.int NO)),some (.sh (.int nt')),some (.sh (.tup [.int (Int.gcd NO nt'),.int (cf NO nt').1,.int (cf NO nt').2]))],rfl,?_,i+1,_,_,_,_,_,by omega,h3,rfl⟩
  have sok:=tH h.wf h.hs h1
  rw[Nc] at sok
  have nok:=kc (xs:=(aA cf sizes rows left i).1) (i:=i) (by omega)
  rw[hnt] at nok
  dsimp? [sok,ni,nok,c1]
  rw[uf (i:=3) rfl (p:=mk (er cf sizes rows left i)) (by dsimp? [FO,FL,w1,ew]) (by simp[cK];omega)]
  dsimp? [w4,aL (i:=NO) gp (by omega),aL (i:=nt') gp (by omega),w2,el]
  rw[cK,cK,List.range_succ,List.map_append,List.map_append]
  rfl
 ·rintro env ⟨d,x4,x5,x6,x7,x8,hd,OG,rfl⟩
  have PF:d=n:=by
   have:=congrArg List.length OG
   rw[List.length_drop,List.length_zipIdx,rl] at this
   simp at this
   omega
  subst PF
  dsimp? [Az]
def bj(sizes:List Int)(rows:List Row)(r:Row)(f:Nat):Nat->Row
 | 0=>r
 | c+1 =>
  let l:=bj sizes rows r f c
  qx sizes l 1 (row rows (f+c)) (-(vf l.1 (f+c)/aQ (vf sizes) (DD rows) (f+c)))
theorem iE(h:St n m sizes A k rows){r:Row}{f:Nat}(h1:r.1.length=n)(h2:r.2.length=m):∀ c,f+c<=n->(bj sizes rows r f c).1.length=n/\(bj sizes rows r f c).2.length=m
 | 0,_=>⟨h1,h2⟩
 | c+1,hc=>by
  obtain⟨i1,i2⟩:=iE h (f:=f) h1 h2 c (by omega)
  have e1:=h.wf.oP (d:=f+c) (by omega);have e2:=h.wf.at2 (d:=f+c) (by omega)
  have hs:=h.hs
  simp only[bj,qx]
  rw[iX,bX,bX]
  exact⟨by omega,by omega⟩
theorem mH(h:St n m sizes A k rows){r:Row}{f:Nat}(h1:r.1.length=n)(h2:r.2.length=m)(h0:∀ i,i<n->0<=vf r.1 i/\vf r.1 i<vf sizes i):Dn n (vf sizes) (DD rows) f (λd=>vf (bj sizes rows r f (d-f)).1) where
 w0:=λi hi=>by rw[Nat.sub_self];exact h0 i hi
 ws:=λd hf hd i hi=>by
  obtain⟨c,rfl⟩:∃ c,d=f+c:=⟨d-f,by omega⟩
  obtain⟨i1,i2⟩:=iE h (f:=f) h1 h2 c (by omega)
  have e1:=h.wf.oP (d:=f+c) (by omega)
  have hs:=h.hs
  show vf (bj sizes rows r f (f+c+1-f)).1 i=_
  rw[show f+c+1-f=c+1 by omega,show f+c-f=c by omega]
  simp only[bj,qx]
  rw[jq (by rw[bX];omega) (by omega),fF (by omega) (by omega)]
  rfl
theorem sX(h:St n m sizes A k rows){r:Row}{f:Nat}(h1:r.1.length=n)(h2:r.2.length=m){P₀:bJ}{B:bJ}(hl:Led n (vf sizes) m A (λi=>vf r.1 i-B i) (λl=>vf r.2 l-P₀ l)):∀ c,f+c<=n->Led n (vf sizes) m A (λi=>vf (bj sizes rows r f c).1 i-B i) (λl=>vf (bj sizes rows r f c).2 l-P₀ l)
 | 0,_=>hl
 | c+1,hc=>by
  obtain⟨i1,i2⟩:=iE h (f:=f) h1 h2 c (by omega)
  have e1:=h.wf.oP (d:=f+c) (by omega);have e2:=h.wf.at2 (d:=f+c) (by omega)
  have hs:=h.hs
  refine Led.mix (a:=1) (b:=-(vf (bj sizes rows r f c).1 (f+c)/aQ (vf sizes) (DD rows) (f+c))) (sX h (f:=f) h1 h2 hl c (by omega)) (h.led (f+c) (by omega)) (λi hi=>?_) λl hl=>?_
  ·simp only[bj,qx]
   rw[jq (by rw[bX];omega) (by omega),fF (by omega) (by omega)]
   obtain⟨z,hz⟩:=du (1*vf (bj sizes rows r f c).1 i+-(vf (bj sizes rows r f c).1 (f+c)/aQ (vf sizes) (DD rows) (f+c))*vf (row rows (f+c)).1 i) (vf sizes i)
   refine⟨z,?_⟩
   rw[← hz]
   unfold DD
   grind
  ·simp only[bj,qx]
   rw[fF (by omega) (by omega)]
   unfold PP
   grind
theorem sQ(h:St n m sizes A k rows){r:Row}{f B:Nat}(h1:r.1.length=n)(h2:r.2.length=m)(h0:∀ i,i<n->0<=vf r.1 i/\vf r.1 i<vf sizes i)(hB:150*k+1<=B)(hb:Bd B r.2):∀ c,f+c<=n->Bd (B+11*c) (bj sizes rows r f c).2
 | 0,_=>hb
 | c+1,hc=>by
  have k0:=(mH h (f:=f) h1 h2 h0).kept h.gd (f+c) (by omega) (by omega) (f+c) (by omega)
  rw[show f+c-f=c by omega] at k0
  have sm:=h.sm (f+c) (by omega)
  have p:=h.gd.pos (d:=f+c) (by omega)
  have q:=Int.ediv_le_self (aQ (vf sizes) (DD rows) (f+c)) k0.1
  have q0:=Int.ediv_nonneg k0.1 (Int.le_of_lt p.1)
  have:=Bd.mix (A:=10) (sQ h (f:=f) h1 h2 h0 hB hb c (by omega)) ((h.bd (f+c) (by omega)).mono (show 150*k+1<=B+11*c by omega)) (a:=1) (b:=-(vf (bj sizes rows r f c).1 (f+c)/aQ (vf sizes) (DD rows) (f+c))) (by decide) (by omega)
  exact this.mono (by omega)
theorem pR(h:St n m sizes A k rows){r:Row}{f B:Nat}(hn:n<=6)(hm:m<=8)(h1:r.1.length=n)(h2:r.2.length=m)(h0:∀ i,i<n->0<=vf r.1 i/\vf r.1 i<vf sizes i)(hB:150*k+1<=B)(hB2:B<=8000)(hb:Bd B r.2)(hf:f<=n):fG [tI sizes,.lst (rows.map mk),mk r,.int (f:Int)]=M.ok (mk (bj sizes rows r f (n-f))):=by
 have hs:=h.hs
 have rl:=h.wf.len
 unfold fG i0
 have je:yP [.int (f:Int),.int (sizes.length:Int)]=M.ok ((List.range (n-f)).map λ(i:Nat)=>.int ((f+i:Nat):Int)):=by
  rw[BQ (by omega) (by omega) (by omega) (by omega),hs,show ((n:Int)-(f:Int)).toNat=n-f by omega]
  simp
 dsimp? [je]
 refine eJ (List.range (n-f)) (λzs env=>∃ c x4 x5,c<=n-f/\(List.range (n-f)).drop c=zs/\env=[some (.sh (tI sizes)),some (.sh (.lst (rows.map mk))),some (.sh (mk (bj sizes rows r f c))),some (.sh (.int (f:Int))),x4,x5]) ⟨0,none,none,Nat.zero_le _,rfl,rfl⟩ ?_ ?_
 ·rintro i zs env ⟨c,x4,x5,hc,OG,rfl⟩
  obtain⟨c1,c2,c3⟩:=drop_cons OG
  rw[List.length_range] at c1
  obtain rfl:i=c:=by
   rw[List.getElem?_range c1] at c2;exact(Option.some.inj c2).symm
  have PH:f+i<n:=by omega
  have ll:=iE h (f:=f) h1 h2 i (by omega)
  have lk:=(mH h (f:=f) h1 h2 h0).kept h.gd (f+i) (by omega) (by omega)
  rw[show f+i-f=i by omega] at lk
  have k0:=lk (f+i) PH
  have sm:=h.sm (f+i) PH
  have p:=h.gd.pos PH
  have e1:=h.wf.oP PH;have e2:=h.wf.at2 PH
  have B1:Bd 8200 (row rows (f+i)).1:=(St.BD h PH).mono (by omega)
  have B2:Bd 8200 (row rows (f+i)).2:=(h.bd _ PH).mono (by omega)
  have B3:Bd 8200 (bj sizes rows r f i).1:=(sM ll.1 lk h.sm).mono (by omega)
  have B4:Bd 8200 (bj sizes rows r f i).2:=(sQ h (f:=f) h1 h2 h0 hB hb i (by omega)).mono (by omega)
  have q:=Int.ediv_le_self (aQ (vf sizes) (DD rows) (f+i)) k0.1
  have q0:=Int.ediv_nonneg k0.1 (Int.le_of_lt p.1)
  have w:=wK (A:=20) (sizes:=sizes) (a:=1) (b:=-(vf (bj sizes rows r f i).1 (f+i)/aQ (vf sizes) (DD rows) (f+i))) (Ao h) B3 B4 B1 B2 (by decide) (by omega) (by decide) (by decide) (by omega) (by omega)
  refine⟨_,[some (.sh (tI sizes)),some (.sh (.lst (rows.map mk))),some (.sh (mk (bj sizes rows r f (i+1)))),some (.sh (.int (f:Int))),some (.sh (.int ((f+i:Nat):Int))),some (.sh (.int (vf (bj sizes rows r f i).1 (f+i)/aQ (vf sizes) (DD rows) (f+i))))],rfl,?_,i+1,_,_,by omega,c3,rfl⟩
  dsimp? [ni,kc (xs:=(bj sizes rows r f i).1) (i:=f+i) (by omega),tH h.wf h.hs PH,aL (i:=vf (bj sizes rows r f i).1 (f+i)) p.1 (by omega),qw (rows:=rows) (d:=f+i) (by omega),w]
  rfl
 ·rintro env ⟨c,x4,x5,hc,OG,rfl⟩
  have:c=n-f:=by
   have:=congrArg List.length OG
   rw[List.length_drop,List.length_range] at this
   simp at this
   omega
  subst this
  dsimp? []
end
theorem Ej(m k:Nat)(hm:m<=1000):jB [.int (m:Int),.int (k:Int)]=M.ok (tI (m9 m k)):=by
 have key:bK (bG 0) none (zC (dH (aj kr (ae 0) (ae 1))) (λ_=>M.ok (.int 1)) (λ_=>M.ok (.int 0))) ((List.range m).map λ(i:Nat)=>.int (i:Int)) [none,some (.sh (.int (k:Int)))]=M.ok ((List.range m).map λ(i:Nat)=>.int (if i=k then 1 else 0)):=by
  refine gv (inj:=λ(i:Nat)=>PV.int (i:Int)) (List.range m) λi hi=>?_
  dsimp? []
  by_cases z:i=k
  ·subst z;simp only[decide_true,if_true]
  ·have z':¬ (i:Int)=(k:Int):=by omega
   simp only[z,z',decide_false,Bool.false_eq_true,if_false]
 unfold jB jl
 dsimp? [hZ (n:=(m:Int)) (by omega) (by omega),Int.toNat_natCast,List.length_map,List.length_range,av (aX hm),key]
 rw[tI,m9,List.map_map];rfl
theorem rZ{n:Int}(h:0<=n):Builtin.Range.rangeSize (n-1) (-1) (-1)=n:=by
 unfold Builtin.Range.rangeSize
 rw[if_neg (by decide)]
 split
 ·rw[show -(-1:Int)=1 from rfl,Int.ediv_one];omega
 ·omega
theorem DZ{n:Int}(h:0<=n)(h2:n<=1000):C3 (n-1) (-1) (-1)=true:=by
 unfold C3 Builtin.Range.small
 have f:∀ x:Int,-(2^40)<x->x<2^40->Builtin.Range.rangeFitsLong x=true:=λx h1 h2=>by
  unfold Builtin.Range.rangeFitsLong
  simp only[Bool.and_eq_true,decide_eq_true_eq]
  omega
 simp only[rZ h,f (n-1) (by omega) (by omega),f (-1) (by decide) (by decide),f n (by omega) (by omega),f (n-1+n*-1) (by omega) (by omega),Bool.and_true,Bool.true_and,Bool.and_self,Bool.and_eq_true,decide_eq_true_eq]
 refine⟨by decide,?_⟩
 rw[if_neg (by decide),f (-1+(-1+1)) (by decide) (by decide),Bool.or_true]
theorem vN(k:Nat)(hk:k<=1000):zq [.int ((k:Int)-1),.int (-1),.int (-1)]=M.ok ((List.range k).map λ(i:Nat)=>.int ((k:Int)-1+(i:Int)*-1)):=by
 show cD (C3 ((k:Int)-1) (-1) (-1)=true) _=_
 rw[av (DZ (by omega) (by omega)),rZ (by omega),Int.toNat_natCast]
theorem Dh{idle:List (List Int)}{j:Nat}(h:j<idle.length):aT (.lst (idle.map tI)) (.int (j:Int))=M.ok (tI (idle.getD j [])) :=
 bD (p:=.lst (idle.map tI)) rfl (by rw[List.getElem?_map,List.getElem?_eq_getElem h,List.getD_eq_getElem?_getD,List.getElem?_eq_getElem h];rfl)
theorem vT{n m k B:Nat}{s:bJ}{A:Nat->bJ}{idle:List (List Int)}{P:List Int}(h:ya n m s A k idle)(hP:P.length=m)(hm:m<=8)(hk:k<=m)(hB:60<=B)(hB2:B<=8000)(hb:Bd B P):ij [tI P,.lst (idle.map tI)]=M.ok (tI (aZ idle k P k)):=by
 have il:=h.len
 unfold ij ig
 dsimp? [List.length_map,il,vN k (by omega)]
 refine eJ (List.range k) (λzs env=>∃ c x2 x3,c<=k/\(List.range k).drop c=zs/\env=[some (.sh (tI (aZ idle k P c))),some (.sh (.lst (idle.map tI))),x2,x3]) ⟨0,none,none,Nat.zero_le _,rfl,rfl⟩ ?_ ?_
 ·rintro i zs env ⟨c,x2,x3,hc,OG,rfl⟩
  obtain⟨c1,c2,c3⟩:=drop_cons OG
  rw[List.length_range] at c1
  obtain rfl:i=c:=by
   rw[List.getElem?_range c1] at c2;exact(Option.some.inj c2).symm
  have hj:k-1-i<k:=by omega
  have ej:(k:Int)-1+(i:Int)*-1=((k-1-i:Nat):Int):=by omega
  have sl:=span_len h hP i (by omega)
  have rl:=h.l2 (k-1-i) hj
  have p:=h.pos (k-1-i) hj
  have pl60:=h.le (k-1-i) hj
  have zb:=xE h hP hk hB hb i (by omega)
  have B1:Bd 8600 (aZ idle k P i):=zb.mono (by omega)
  have B2:Bd 8600 (idle.getD (k-1-i) []):=(h.bd hj hk).mono (by omega)
  have q:(-(vf (aZ idle k P i) (k-1-i)/vf (idle.getD (k-1-i) []) (k-1-i))).natAbs<2^8600:=by
   rw[Int.natAbs_neg]
   exact Nat.lt_of_le_of_lt (Int.natAbs_ediv_le_natAbs ..) (B1.vf _)
  have w:=qt (A:=8600) (tI (aZ idle k P i)) (tI (idle.getD (k-1-i) [])) (aZ idle k P i) (idle.getD (k-1-i) []) 1 (-(vf (aZ idle k P i) (k-1-i)/vf (idle.getD (k-1-i) []) (k-1-i))) rfl rfl B1 B2 (Nat.one_lt_two_pow (by decide)) q (by decide) (by decide) (by omega)
  refine⟨_,[some (.sh (tI (aZ idle k P (i+1)))),some (.sh (.lst (idle.map tI))),some (.sh (.int ((k-1-i:Nat):Int))),some (.sh (tI (idle.getD (k-1-i) [])))],rfl,?_,i+1,_,_,by omega,c3,rfl⟩
  rw[ej]
  dsimp? [Dh (idle:=idle) (j:=k-1-i) (by omega),kc (xs:=aZ idle k P i) (i:=k-1-i) (by omega),kc (xs:=idle.getD (k-1-i) []) (i:=k-1-i) (by omega),aL (i:=vf (aZ idle k P i) (k-1-i)) (j:=vf (idle.getD (k-1-i) []) (k-1-i)) p (by show II idle (k-1-i) (k-1-i)<2^64;omega),w]
  rfl
 ·rintro env ⟨c,x2,x3,hc,OG,rfl⟩
  have:c=k:=by
   have:=congrArg List.length OG
   rw[List.length_drop,List.length_range] at this
   simp at this
   omega
  subst this
  dsimp? []
section
variable{sizes:List Int}{Ls:List (List Int)}
theorem ja(h:sizes.length<=6):gc [dY sizes Ls]=M.ok (tI (List.replicate sizes.length 0)):=by
 unfold gc hX
 dsimp? [oK (sizes:=sizes) (levers:=Ls) (g:=ae 0) (env:=[some (.sh (dY sizes Ls))]) rfl,mul_one (.int 0) sizes.length (by omega)]
 rw[tI,List.map_replicate]
theorem mR(hm:Ls.length<=8)(xs:List Int):fH [dY sizes Ls,tI xs]=M.ok (mk (xs,List.replicate Ls.length 0)):=by
 unfold fH ia
 dsimp? [pQ (sizes:=sizes) (levers:=Ls) (g:=ae 0) (env:=[some (.sh (dY sizes Ls)),some (.sh (tI xs))]) rfl,List.length_map,mul_one (.int 0) Ls.length (by omega)]
 rw[mk,tI,tI,List.map_replicate]
theorem Eg(hm:Ls.length<=8){k:Nat}(hk:k<Ls.length):fY [dY sizes Ls,.int (k:Int)]=M.ok (mk (bV Ls Ls.length k)):=by
 have e:aT (.tup (Ls.map tI)) (.int (k:Int))=M.ok (tI (Ls.getD k [])):=bD (p:=.tup (Ls.map tI)) rfl (by rw[List.getElem?_map,List.getElem?_eq_getElem hk,List.getD_eq_getElem?_getD,List.getElem?_eq_getElem hk];rfl)
 unfold fY fI
 dsimp? [pQ (sizes:=sizes) (levers:=Ls) (g:=ae 0) (env:=[some (.sh (dY sizes Ls)),some (.sh (.int (k:Int))),none]) rfl,List.length_map,e,Ej Ls.length k (by omega)]
 rfl
end
theorem AQ:∀ xs:List Int,pq (tI xs)=true:=by
 intro xs
 have:∀ ys:List Int,my (ys.map PV.int)=true:=by
  intro ys
  induction ys with
  | nil=>rfl
  | cons a r ih=>simp[my,pq,ih]
 exact this xs
theorem J8(x y:PV):aT (.tup [x,y]) (.int 0)=M.ok x:=bD (j:=0) rfl rfl
theorem IX(x y:PV):aT (.tup [x,y]) (.int 1)=M.ok y:=bD (j:=1) rfl rfl
def mI(sizes:List Int)(rows:List Row)(n:Nat):List Row:=(List.range n).map λd=>bj sizes rows (row rows d) (d+1) (n-(d+1))
def uS(V:PV)(rows:List Row)(idle:List (List Int)):List (Str×PV):=[("vault", V),("made_rows", .lst (rows.map mk)),("idle_rows", .lst (idle.map tI))]
section
variable{sizes:List Int}{Ls:List (List Int)}
theorem z7(hn1:1<=sizes.length)(hn:sizes.length<=6)(hm:Ls.length<=8)(hp:∀ i,i<sizes.length->0<vf sizes i/\vf sizes i<=360)(LL:Jl sizes.length Ls.length sizes Ls) :
  cY au bI [] [dY sizes Ls]=M.ok (.obj au (uS (dY sizes Ls) (mI sizes (RK cf sizes Ls sizes.length Ls.length Ls.length).1 sizes.length) (RK cf sizes Ls sizes.length Ls.length Ls.length).2)):=by
 have all:=λk hk=>CG.all (c:=cf) rfl hp LL Cd hn k hk
 have key:∀ a,bI a ([dY sizes Ls]++[])=M.ok (uS (dY sizes Ls) (mI sizes (RK cf sizes Ls sizes.length Ls.length Ls.length).1 sizes.length) (RK cf sizes Ls sizes.length Ls.length Ls.length).2):=by
  intro a
  have e1:bK (bG 0) none (ai fH (aa (ae 1) (aa (ai gc (aa (ae 1) ao)) ao))) (sizes.map PV.int) [none,some (.sh (dY sizes Ls))]=M.ok ((List.replicate sizes.length ((List.replicate sizes.length (0:Int)),(List.replicate Ls.length (0:Int)))).map mk):=by
   rw[gv (h:=λ_=>mk (List.replicate sizes.length 0,List.replicate Ls.length 0)) sizes λx _=>by dsimp? [ja (Ls:=Ls) hn,mR (sizes:=sizes) hm (List.replicate sizes.length 0)]]
   congr 1
   rw[List.map_const',List.map_replicate]
  have e2:bK (bQ 0 1) none (ai fG (aa (ae 2) (aa (ae 3) (aa (ae 1) (aa (aj fE (ae 0) (λ_=>M.ok (.int 1))) ao))))) ((RK cf sizes Ls sizes.length Ls.length Ls.length).1.zipIdx.map λz=>.tup [.int (z.2:Int),mk z.1]) [none,none,some (.sh (tI sizes)),some (.sh (.lst ((RK cf sizes Ls sizes.length Ls.length Ls.length).1.map mk)))]=M.ok ((mI sizes (RK cf sizes Ls sizes.length Ls.length Ls.length).1 sizes.length).map mk):=by
   have I:=all Ls.length (Nat.le_refl _)
   generalize RK cf sizes Ls sizes.length Ls.length Ls.length=rk at *
   have rl:=I.st.wf.len
   rw[iR (p:=λz:Row×Nat=>PV.int (z.2:Int)) (q:=λz:Row×Nat=>mk z.1) (h:=λz:Row×Nat=>mk (bj sizes rk.1 z.1 (z.2+1) (sizes.length-(z.2+1)))) rk.1.zipIdx λz hz=>?_]
   ·congr 1
    rw[mI,List.map_map]
    refine List.ext_getElem (by simp[rl]) λi h1 h2=>?_
    have hi:i<rk.1.length:=by simpa using h1
    simp[hU hi]
   ·obtain⟨i,hi,e⟩:=List.mem_iff_getElem.mp hz
    rw[List.length_zipIdx] at hi
    rw[List.getElem_zipIdx] at e
    have ez:z=(row rk.1 i,i):=by rw[← e,hU hi];simp
    subst ez
    have hin:i<sizes.length:=by omega
    have:=pR (f:=i+1) (B:=150*Ls.length+1) I.st hn hm (I.st.wf.oP hin) (I.st.wf.at2 hin) (λj hj=>I.st.gd.je i hin j hj) (Nat.le_refl _) (by omega) (I.st.bd i hin) (by omega)
    rw[show ((i+1:Nat):Int)=(i:Int)+1 by omega] at this
    dsimp? [this]
  have zl:sizes.length<=sizeLine:=aX (by omega)
  have I:=all Ls.length (Nat.le_refl _)
  have rl:=I.st.wf.len
  unfold bI jw
  simp only[l7]
  rw[av (show ([dY sizes Ls]++([]:List PV)).length+1=2 from rfl)]
  simp only[qL,uV]
  dsimp? [oK (sizes:=sizes) (levers:=Ls) (g:=ae 1) (env:=[some (.bd a au []),some (.sh (dY sizes Ls)),none,none,none,none,none]) rfl,List.length_map,av zl,e1,eG,pQ (sizes:=sizes) (levers:=Ls) (g:=ae 1) (env:=[some (.bd a au []),some (.sh (dY sizes Ls)),some (.sh (tI sizes)),some (.sh (.lst ((List.replicate sizes.length ((List.replicate sizes.length (0:Int)),(List.replicate Ls.length (0:Int)))).map mk))),some (.ow []),none,none]) rfl,hZ (n:=(Ls.length:Int)) (by omega) (by omega),Int.toNat_natCast]
  refine eJ (List.range Ls.length) (λzs env=>∃ k x5 x6,k<=Ls.length/\(List.range Ls.length).drop k=zs/\env=[some (.bd a au []),some (.sh (dY sizes Ls)),some (.sh (tI sizes)),some (.sh (.lst ((RK cf sizes Ls sizes.length Ls.length k).1.map mk))),some (.ow ((RK cf sizes Ls sizes.length Ls.length k).2.map tI)),x5,x6]) ⟨0,none,none,Nat.zero_le _,rfl,rfl⟩ ?_ ?_
  ·rintro i zs env ⟨k,x5,x6,hk,OG,rfl⟩
   obtain⟨c1,c2,c3⟩:=drop_cons OG
   rw[List.length_range] at c1
   obtain rfl:i=k:=by
    rw[List.getElem?_range c1] at c2;exact(Option.some.inj c2).symm
   have J:=all i hk
   have L:Lv sizes.length Ls.length sizes (AA Ls) i (bV Ls Ls.length i):=⟨LL.at_ i c1,by simp[bV,m9],c1,λj hj=>rfl,LL.je i c1,λl hl=>vc hl⟩
   have tk:=CA J.st L hn hm
   have ll:=de (c:=cf) J.st.wf J.st.hs L.l1 L.l2 sizes.length (Nat.le_refl _)
   have lb:=oH (c:=cf) J.st L hn sizes.length (Nat.le_refl _)
   have sp:=vT (B:=1400) J.qV ll.2 hm (by omega) (by decide) (by decide) (lb.mono (by omega))
   have il:=J.qV.len
   refine⟨_,[some (.bd a au []),some (.sh (dY sizes Ls)),some (.sh (tI sizes)),some (.sh (.lst ((RK cf sizes Ls sizes.length Ls.length (i+1)).1.map mk))),some (.ow ((RK cf sizes Ls sizes.length Ls.length (i+1)).2.map tI)),some (.sh (.int (i:Int))),some (.sh (.tup [.lst ((cK cf sizes (RK cf sizes Ls sizes.length Ls.length i).1 (bV Ls Ls.length i) sizes.length).map mk),tI (aA cf sizes (RK cf sizes Ls sizes.length Ls.length i).1 (bV Ls Ls.length i) sizes.length).2]))],rfl,?_,i+1,_,_,by omega,c3,rfl⟩
   dsimp? [Eg (sizes:=sizes) hm c1,tk,J8]
   rw[uf (i:=4) rfl (p:=tI (aZ (RK cf sizes Ls sizes.length Ls.length i).2 i (aA cf sizes (RK cf sizes Ls sizes.length Ls.length i).1 (bV Ls Ls.length i) sizes.length).2 i)) (by
    dsimp? [vt,ownAt,IX,sp]
    exact av (AQ _)) (by simp[il];omega)]
   dsimp? [RK,List.map_append]
  ·rintro env ⟨k,x5,x6,hk,OG,rfl⟩
   have:k=Ls.length:=by
    have:=congrArg List.length OG
    rw[List.length_drop,List.length_range] at this
    simp at this
    omega
   subst this
   dsimp? [jx]
   rw[gZ _ _ _ _ _ _ (by simp)]
   dsimp? [jx,oj,List.length_map,List.length_zipIdx,rl,av zl,e2]
   rw[gZ _ _ _ _ _ _ (Nat.lt_of_le_of_lt (jG (Nat.zero_le 0)) (by decide))]
   dsimp? [jx]
   rw[gZ _ _ _ _ _ _ (Nat.lt_of_le_of_lt (jG (jG (Nat.zero_le 0))) (by decide))]
   dsimp? []
   show cD _ _=_
   rw[av ⟨rfl,rfl⟩]
   rfl
 unfold cY
 rw[tK key];rfl
end
section
variable{n m:Nat}{sizes:List Int}{A:Nat->bJ}{rows:List Row}
theorem lA{d:Nat}(h:d<n):row (mI sizes rows n) d=bj sizes rows (row rows d) (d+1) (n-(d+1)):=by
 rw[hU (by simp[mI,h])];simp[mI]
theorem G4(h:St n m sizes A m rows)(hn:n<=6)(hA:∀ i,A m i=0):St n m sizes A (m+1) (mI sizes rows n):=by
 have hl:∀ d,d<n->(bj sizes rows (row rows d) (d+1) (n-(d+1))).1.length=n/\(bj sizes rows (row rows d) (d+1) (n-(d+1))).2.length=m:=λd hd=>iE h (h.wf.oP hd) (h.wf.at2 hd) _ (by omega)
 have lg:=vD (D':=DD (mI sizes rows n)) h.gd (λd e=>vf (bj sizes rows (row rows d) (d+1) (e-(d+1))).1) (λd hd=>mH h (h.wf.oP hd) (h.wf.at2 hd) λi hi=>h.gd.je d hd i hi) (λd hd i hi=>by
  show vf (bj sizes rows (row rows d) (d+1) (d+1-(d+1))).1 i=_
  rw[Nat.sub_self];rfl) λd hd i hi=>by
  unfold DD;rw[lA hd]
 refine⟨⟨by simp[mI],λr hr=>?_,λr hr=>?_⟩,h.hs,h.sm,lg.1,λd hd=>?_,λd hd l h1 h2=>by omega,λd hd=>?_,λl hl=>?_⟩
 ·obtain⟨d,hd,rfl⟩:=List.mem_map.mp hr
  exact(hl d (List.mem_range.mp hd)).1
 ·obtain⟨d,hd,rfl⟩:=List.mem_map.mp hr
  exact(hl d (List.mem_range.mp hd)).2
 ·unfold DD PP
  rw[lA hd]
  have:=sX h (f:=d+1) (h.wf.oP hd) (h.wf.at2 hd) (P₀:=λ_=>0) (B:=λ_=>0) (by
   have q:=h.led d hd
   intro i hi
   have:=q i hi
   simp only[Int.sub_zero];exact this) (n-(d+1)) (by omega)
  intro i hi
  have:=this i hi
  simp only[Int.sub_zero] at this
  exact this
 ·rw[lA hd]
  exact(sQ h (f:=d+1) (h.wf.oP hd) (h.wf.at2 hd) (λi hi=>h.gd.je d hd i hi) (Nat.le_refl _) (h.bd d hd) (n-(d+1)) (by omega)).mono (by omega)
 ·rcases Nat.lt_or_ge l m with q | q
  ·exact lg.2.2.2.2 n 0 (by omega) _ (h.cl l q)
  ·obtain rfl:l=m:=by omega
   exact G.ext (by omega) (λi _=>(hA i).symm) (G.zero (by omega))
end
def kM(sizes:List Int)(Ls:List (List Int))(R:List Row)(idle:List (List Int)):PV:=.obj au (uS (dY sizes Ls) R idle)
section
variable{sizes:List Int}{Ls:List (List Int)}{R:List Row}{idle:List (List Int)}
theorem JS:(uS (dY sizes Ls) R idle).lookup (Str.ofString "vault")=some (dY sizes Ls):=rfl
theorem IB:(uS (dY sizes Ls) R idle).lookup (Str.ofString "made_rows")=some (.lst (R.map mk)):=rfl
theorem JL:(uS (dY sizes Ls) R idle).lookup (Str.ofString "idle_rows")=some (.lst (idle.map tI)):=rfl
theorem K2:(uS (dY sizes Ls) R idle).lookup (Str.ofString "brought_down")=none:=rfl
theorem LS{g:af->M PV}{env:af}(h:g env=M.ok (kM sizes Ls R idle)):dI (λc=>c==au) "vault" g env=M.ok (dY sizes Ls):=by
 rw[dI,h,M.aO]
 show cD _ (fe (List.lookup _ _))=_
 rw[av (beq_self_eq_true _),JS];rfl
theorem Mf{g:af->M PV}{env:af}(h:g env=M.ok (kM sizes Ls R idle)):dI (λc=>c==au) "made_rows" g env=M.ok (.lst (R.map mk)):=by
 rw[dI,h,M.aO]
 show cD _ (fe (List.lookup _ _))=_
 rw[av (beq_self_eq_true _),IB];rfl
theorem MA{g:af->M PV}{env:af}(h:g env=M.ok (kM sizes Ls R idle)):dI (λc=>c==au) "idle_rows" g env=M.ok (.lst (idle.map tI)):=by
 rw[dI,h,M.aO]
 show cD _ (fe (List.lookup _ _))=_
 rw[av (beq_self_eq_true _),JL];rfl
theorem uj{A:Nat->bJ}{k:Nat}(S:Sz sizes)(hm:Ls.length<=8)(h:St sizes.length Ls.length sizes A k R)(hk:k<=9){xs:List Int}(hx:CM sizes xs)(h0:∀ i,i<sizes.length->0<=vf xs i/\vf xs i<vf sizes i) :
  bx [kM sizes Ls R idle,tI xs]=M.ok (mk (bj sizes R (xs,List.replicate Ls.length 0) 0 sizes.length)):=by
 have lo:=pR (f:=0) (B:=150*k+1) (r:=(xs,List.replicate Ls.length 0)) h S.h6 hm hx.len (by simp) h0 (Nat.le_refl _) (by omega) (λx hx=>by rw[List.eq_of_mem_replicate hx];exact Nat.two_pow_pos _) (Nat.zero_le _)
 rw[Nat.sub_zero] at lo
 unfold bx bT
 dsimp? [LS (sizes:=sizes) (Ls:=Ls) (R:=R) (idle:=idle) (g:=ae 0) (env:=[some (.sh (kM sizes Ls R idle)),some (.sh (tI xs))]) rfl,Mf (sizes:=sizes) (Ls:=Ls) (R:=R) (idle:=idle) (g:=ae 0) (env:=[some (.sh (kM sizes Ls R idle)),some (.sh (tI xs))]) rfl,lP (levers:=Ls) S hx,mR (sizes:=sizes) hm xs,oK (sizes:=sizes) (levers:=Ls) (g:=dI (λc=>c==au) "vault" (ae 0)) (env:=[some (.sh (kM sizes Ls R idle)),some (.sh (tI xs))]) (LS (R:=R) (idle:=idle) rfl),show fG [tI sizes,.lst (R.map mk),mk (xs,List.replicate Ls.length 0),.int 0]=_ from lo]
end
def pH(xs:List Int):List Int:=xs.map λx=>-x
theorem Gk(xs:List Int)(i:Nat):vf (pH xs) i=-vf xs i:=by
 rcases Nat.lt_or_ge i xs.length with h | h
 ·rw[aS (by simpa [pH] using h),aS h];simp[pH]
 ·rw[pX (by simpa [pH] using h),pX h];rfl
theorem FY{B:Nat}{xs:List Int}(h:Bd B xs):Bd B (pH xs):=λx hx=>by
 obtain⟨y,hy,rfl⟩:=List.mem_map.mp hx
 rw[Int.natAbs_neg];exact h y hy
section
variable{sizes:List Int}{Ls:List (List Int)}{R:List Row}{idle:List (List Int)}
def told(sizes:List Int)(Ls:List (List Int))(R:List Row)(idle:List (List Int))(xs:List Int):List Int:=aZ idle Ls.length (pH (bj sizes R (xs,List.replicate Ls.length 0) 0 sizes.length).2) Ls.length
theorem lX{A:Nat->bJ}{k:Nat}(S:Sz sizes)(hm:Ls.length<=8)(h:St sizes.length Ls.length sizes A k R)(hk:k<=9)(I:ya sizes.length Ls.length (vf sizes) A Ls.length idle){xs:List Int}(hx:CM sizes xs)(h0:∀ i,i<sizes.length->0<=vf xs i/\vf xs i<vf sizes i)(hg:G sizes.length (vf sizes) (DD R) sizes.length 0 (vf xs)) :
  bP [kM sizes Ls R idle,tI xs]=M.ok (tI (told sizes Ls R idle xs))/\(told sizes Ls R idle xs).length=Ls.length/\Led sizes.length (vf sizes) Ls.length A (vf xs) (vf (told sizes Ls R idle xs))/\∀ l,l<Ls.length->0<=vf (told sizes Ls R idle xs) l/\vf (told sizes Ls R idle xs) l<II idle l l:=by
 have l6:=S.h6
 have r2:(List.replicate Ls.length (0:Int)).length=Ls.length:=by simp
 have ll:=iE h (f:=0) (r:=(xs,List.replicate Ls.length 0)) hx.len r2 sizes.length (by omega)
 have dn:=mH h (f:=0) (r:=(xs,List.replicate Ls.length 0)) hx.len r2 h0
 have z:=dn.run h.gd sizes.length 0 (Nat.le_refl _) (by omega) (by rw[Nat.sub_self];exact hg)
 rw[Nat.sub_zero] at z
 have nz:(bj sizes R (xs,List.replicate Ls.length 0) 0 sizes.length).1=List.replicate sizes.length 0:=mj (by rw[ll.1];simp) λi hi=>by rw[z i (by omega),eE]
 have b:=sQ h (f:=0) (B:=150*k+1) (r:=(xs,List.replicate Ls.length 0)) hx.len r2 h0 (Nat.le_refl _) (λx hx=>by rw[List.eq_of_mem_replicate hx];exact Nat.two_pow_pos _) sizes.length (by omega)
 have nl:(pH (bj sizes R (xs,List.replicate Ls.length 0) 0 sizes.length).2).length=Ls.length:=by rw[pH,List.length_map];exact ll.2
 have sp:=vT (B:=1500) I nl hm (Nat.le_refl _) (by decide) (by decide) (FY (b.mono (by omega)))
 have led:=sX h (f:=0) (r:=(xs,List.replicate Ls.length 0)) hx.len r2 (P₀:=λ_=>0) (B:=vf xs) (by
  intro i hi
  rw[dZ (g:=λ_=>0) λl hl=>by
   show (vf (List.replicate Ls.length 0) l-0)*A l i=0
   rw[eE];simp,g_]
  show vf sizes i∣vf xs i-vf xs i-0
  rw[Int.sub_self];exact Int.dvd_zero _) sizes.length (by omega)
 have led2:Led sizes.length (vf sizes) Ls.length A (vf xs) (vf (pH (bj sizes R (xs,List.replicate Ls.length 0) 0 sizes.length).2)):=by
  refine Led.mix (a:=-1) (b:=0) led led (λi hi=>?_) λl hl=>?_
  ·rw[z i hi]
   exact⟨0,by omega⟩
  ·rw[Gk];omega
 refine⟨?_,span_len I nl _ (Nat.le_refl _),pI I nl led2 _ (Nat.le_refl _),λl hl=>tq I nl (Nat.le_refl _) _ (Nat.le_refl _) l (by omega) hl⟩
 have dk:=uj (idle:=idle) S hm h hk hx h0
 have md:∀ y,bo au "brought_down" bx (ae 0) (aa (ae 1) ao) [some (.sh (kM sizes Ls R idle)),some (.sh (tI xs)),y]=M.ok (mk (bj sizes R (xs,List.replicate Ls.length 0) 0 sizes.length)):=λy=>by
  show M.bind (M.ok (kM sizes Ls R idle)) _=_
  rw[M.aO]
  show cD _ (M.bind (M.ok [tI xs]) _)=_
  rw[av ⟨rfl,K2⟩,M.aO]
  exact dk
 have cm:bK (bG 0) none (j8 (ae 0)) ((bj sizes R (xs,List.replicate Ls.length 0) 0 sizes.length).2.map PV.int) [none]=M.ok ((bj sizes R (xs,List.replicate Ls.length 0) 0 sizes.length).2.map λx=>.int (-x)):=gv _ λx _=>by dsimp? []
 have lz:(bj sizes R (xs,List.replicate Ls.length 0) 0 sizes.length).2.length<=sizeLine:=by rw[ll.2];exact aX (by omega)
 have en:PV.tup ((bj sizes R (xs,List.replicate Ls.length 0) 0 sizes.length).2.map λx=>PV.int (-x))=tI (pH (bj sizes R (xs,List.replicate Ls.length 0) 0 sizes.length).2):=by rw[tI,pH,List.map_map];rfl
 unfold bP cn
 dsimp? [md,ni,Az,LS (sizes:=sizes) (Ls:=Ls) (R:=R) (idle:=idle) (g:=ae 0) (env:=[some (.sh (kM sizes Ls R idle)),some (.sh (tI xs)),some (.sh (mk (bj sizes R (xs,List.replicate Ls.length 0) 0 sizes.length)))]) rfl,ja (Ls:=Ls) l6,nz,ua,decide_true,MA (sizes:=sizes) (Ls:=Ls) (R:=R) (idle:=idle) (g:=ae 0) (env:=[some (.sh (kM sizes Ls R idle)),some (.sh (tI xs)),some (.sh (mk (bj sizes R (xs,List.replicate Ls.length 0) 0 sizes.length)))]) rfl,List.length_map,av lz,cm,en,sp]
 rfl
end
theorem yV{i j:Int}(h0:0<j)(h:j<2^200):bw (.int i) (.int j)=M.ok (.int (i/j)):=by
 rw[mq (by omega) (Nat.lt_of_lt_of_le (show j.natAbs<2^200 by omega) (Nat.pow_le_pow_right (by decide) (by decide))),Int.fdiv_eq_ediv_of_nonneg _ (by omega)]
theorem oz(ns:List Int)(k:Nat):∃ c,cB [.jO (ns.map PV.int),.int (k:Int)]=M.ok (.int c):=by
 unfold cB f7
 by_cases h:k<ns.length
 ·refine⟨ns[k],?_⟩
  have h':(k:Int)<((ns.length:Nat):Int):=by omega
  have e:=bD (p:=.jO (ns.map PV.int)) (xs:=ns.map PV.int) (j:=k) (x:=.int ns[k]) rfl (by rw[List.getElem?_map,List.getElem?_eq_getElem h];rfl)
  dsimp? [List.length_map,h',decide_true,e]
 ·refine⟨0,?_⟩
  have h':¬ (k:Int)<((ns.length:Nat):Int):=by omega
  dsimp? [List.length_map,h',decide_false]
theorem kj(c:Int)(p:PV)(bases:List Int)(hp:bL p=some (bases.map PV.int))(hb:∀ b∈bases,0<b/\b<2^200)(hl:bases.length<=100):∃ xs:List Int,cG [.int c,p]=M.ok (lI xs)/\xs.length=bases.length/\∀ z∈xs.zip bases,0<=z.1/\z.1<z.2:=by
 suffices h:∃ MI:af,i8 (bG 4) (aq (iW 2 (aj cP (ae 3) (ae 4))) (aq (bb 3 (aj bw (ae 3) (ae 4))) ar)) (bases.map PV.int) [some (.sh (.int c)),some (.sh p),some (.ow []),some (.sh (.int c)),none]=M.ok (.nx MI)/\∃ (d xs:List Int) (left:Int) (y:Option SV),MI=[some (.sh (.int c)),some (.sh p),some (.ow (xs.map PV.int)),some (.sh (.int left)),y]/\bases=d++[]/\xs.length=d.length/\∀ z∈xs.zip d,0<=z.1/\z.1<z.2 by
  obtain⟨MI,e,d,xs,left,y,rfl,hd,hx,hz⟩:=h
  rw[List.append_nil] at hd
  subst hd
  refine⟨xs,?_,hx,hz⟩
  unfold cG cM
  dsimp? [eG,hp,e]
  rfl
 refine lK (λr env=>∃ (d xs:List Int) (left:Int) (y:Option SV),env=[some (.sh (.int c)),some (.sh p),some (.ow (xs.map PV.int)),some (.sh (.int left)),y]/\bases=d++r/\xs.length=d.length/\∀ z∈xs.zip d,0<=z.1/\z.1<z.2) ?_ bases _ ⟨[],[],c,none,rfl,rfl,rfl,λ_ h=>nomatch h⟩
 rintro b r env ⟨d,xs,left,y,rfl,hd,hx,hz⟩
 have P6:=hb b (by rw[hd];simp)
 have dl:d.length<=100:=by
  have:=congrArg List.length hd
  rw[List.length_append] at this;omega
 refine⟨_,[some (.sh (.int c)),some (.sh p),some (.ow ((xs++[left%b]).map PV.int)),some (.sh (.int (left/b))),some (.sh (.int b))],rfl,?_,d++[b],xs++[left%b],left/b,_,rfl,by rw[hd];simp,by simp[hx],λz OE=>?_⟩
 ·dsimp? []
  rw[uf (i:=2) rfl (p:=.int (left%b)) (by dsimp? [aW (i:=left) P6.1]) (by simp;omega)]
  dsimp? [yV (i:=left) P6.1 P6.2,List.map_append]
 ·rw[List.zip_append hx] at OE
  rcases List.mem_append.mp OE with q | q
  ·exact hz z q
  ·rw[List.zip_cons_cons,List.zip_nil_left] at q
   rw[List.mem_singleton.mp q]
   exact⟨Int.emod_nonneg _ (by omega),Int.emod_lt_of_pos _ P6.1⟩
def ny(sizes xs ys:List Int)(t:Int):List Int:=(xs.zip (ys.zip sizes)).map λz=>(z.1+t*z.2.1)%z.2.2
theorem p8{sizes xs ys:List Int}{t:Int}(h1:xs.length=sizes.length)(h2:ys.length=sizes.length):(ny sizes xs ys t).length=sizes.length:=by
 simp[ny];omega
theorem tQ{sizes xs ys:List Int}{t:Int}{i:Nat}(h1:xs.length=sizes.length)(h2:ys.length=sizes.length)(hi:i<sizes.length):vf (ny sizes xs ys t) i=(vf xs i+t*vf ys i)%vf sizes i:=by
 rw[aS (by rw[p8 h1 h2];exact hi),aS (by omega),aS (by omega),aS hi]
 simp[ny]
theorem vq{sizes xs ys:List Int}{t:Int}{q:PV}(hs:∀ s∈sizes,0<s)(hl:sizes.length<=6)(h1:xs.length=sizes.length)(hq:bL q=some (ys.map PV.int))(hy:Bd 200 ys)(ht:t.natAbs<2^200):c9 [lI sizes,tI xs,q,.int t]=M.ok (tI (ny sizes xs ys t)):=by
 have k1:bK (nh 0 1 2) none (aj cP (aj fE (ae 0) (aj bY (ae 3) (ae 1))) (ae 2)) ((xs.zip (ys.zip sizes)).map λz=>.tup [.int z.1,.int z.2.1,.int z.2.2]) [none,none,none,some (.sh (.int t))]=M.ok ((xs.zip (ys.zip sizes)).map λz=>.int ((z.1+t*z.2.1)%z.2.2)):=by
  refine Gi (p:=λz:Int×Int×Int=>PV.int z.1) (q:=λz:Int×Int×Int=>PV.int z.2.1) (s:=λz:Int×Int×Int=>PV.int z.2.2) (xs.zip (ys.zip sizes)) λz hz=>?_
  obtain⟨m1,m2⟩:=List.of_mem_zip (a:=z.1) (b:=z.2) hz
  obtain⟨m3,m4⟩:=List.of_mem_zip (a:=z.2.1) (b:=z.2.2) m2
  dsimp? [bg (k:=200) (l:=200) ht (hy _ m3),aW (i:=z.1+t*z.2.1) (hs _ m4)]
 have z1:(xs.zip (ys.zip sizes)).length<=sizeLine:=by rw[List.length_zip];exact aX (Nat.le_trans (Nat.min_le_left _ _) (by omega))
 unfold c9 fj
 dsimp? [uR (p:=tI xs) (q:=q) (r:=lI sizes) xs ys sizes rfl hq rfl,List.length_map,av z1,k1]
 rw[tI,ny,List.map_map];rfl
theorem rV{sizes xs P:List Int}{raw:List (List Int)}{q p1:PV}{f:List Int->PV}(hf:f=tI\/f=lI)(LO:bL p1=some (raw.map f))(hs:∀ s∈sizes,0<s)(hl:sizes.length<=6)(h1:xs.length=sizes.length)(hq:bL q=some (xs.map PV.int))(hk:∀ i,i<sizes.length->0<=vf xs i/\vf xs i<vf sizes i)
  (hr:∀ l∈raw,l.length=sizes.length/\Bd 200 l) (hP:Bd 200 P) (hm:P.length=raw.length) {p2:PV} (CI:bL p2=some (P.map PV.int)):∃ F:List Int,ck [lI sizes,p1,q,p2]=M.ok (tI F)/\F.length=sizes.length/\(∀ i,i<sizes.length->0<=vf F i/\vf F i<vf sizes i)/\∀ i,i<sizes.length->vf sizes i∣vf F i-(vf xs i+bC raw.length λl=>vf P l*vf (raw.getD l []) i):=by
 have sp:∀ i,i<sizes.length->0<vf sizes i:=λi hi=>by rw[aS hi];exact hs _ (List.getElem_mem hi)
 suffices h:∃ MI:af,i8 (bQ 5 6) (aq (bb 4 (ai c9 (aa (ae 0) (aa (ae 4) (aa (ae 5) (aa (ae 6) ao)))))) ar) ((raw.zip P).map λz=>.tup [f z.1,.int z.2]) [some (.sh (lI sizes)),some (.sh p1),some (.sh q),some (.sh p2),some (.sh (tI xs)),none,none]=M.ok (.nx MI)/\∃ (c:Nat) (F:List Int) (y z:Option SV),MI=[some (.sh (lI sizes)),some (.sh p1),some (.sh q),some (.sh p2),some (.sh (tI F)),y,z]/\c<=raw.length/\(raw.zip P).drop c=[]/\F.length=sizes.length/\(∀ i,i<sizes.length->0<=vf F i/\vf F i<vf sizes i)/\∀ i,i<sizes.length->vf sizes i∣vf F i-(vf xs i+bC c λl=>vf P l*vf (raw.getD l []) i) by
  obtain⟨MI,e,c,F,y,z,rfl,hc,hd,fl,fk,fd⟩:=h
  have:c=raw.length:=by
   have:=congrArg List.length hd
   rw[List.length_drop,List.length_zip] at this
   simp at this
   omega
  subst this
  refine⟨F,?_,fl,fk,fd⟩
  have e0:zip2 [p1,p2]=M.ok ((raw.zip P).map λz=>.tup [f z.1,.int z.2]):=dX (p:=p1) (q:=p2) raw P LO CI
  unfold ck dj
  dsimp? [hq,e0]
  rw[show (PV.tup (xs.map PV.int))=tI xs from rfl,e]
  dsimp? []
 refine lK (λzs env=>∃ (c:Nat) (F:List Int) (y z:Option SV),env=[some (.sh (lI sizes)),some (.sh p1),some (.sh q),some (.sh p2),some (.sh (tI F)),y,z]/\c<=raw.length/\(raw.zip P).drop c=zs/\F.length=sizes.length/\(∀ i,i<sizes.length->0<=vf F i/\vf F i<vf sizes i)/\∀ i,i<sizes.length->vf sizes i∣vf F i-(vf xs i+bC c λl=>vf P l*vf (raw.getD l []) i)) ?_ (raw.zip P) _ ⟨0,xs,none,none,rfl,Nat.zero_le _,rfl,h1,hk,λi hi=>by rw[bC];exact⟨0,by omega⟩⟩
 rintro⟨l,t⟩ r env ⟨c,F,y,z,rfl,hc,hd,fl,fk,fd⟩
 obtain⟨c1,c2,c3⟩:=drop_cons hd
 rw[List.length_zip] at c1
 have hcr:c<raw.length:=by omega
 have hcp:c<P.length:=by omega
 have el:l=raw[c]/\t=P[c]:=by
  rw[List.getElem?_eq_getElem (by rw[List.length_zip];omega),List.getElem_zip] at c2
  have:=Option.some.inj c2
  injection this with a b
  exact⟨a.symm,b.symm⟩
 have lr:=hr l (by rw[el.1];exact List.getElem_mem _)
 have tb:t.natAbs<2^200:=by rw[el.2];exact hP _ (List.getElem_mem _)
 refine⟨_,[some (.sh (lI sizes)),some (.sh p1),some (.sh q),some (.sh p2),some (.sh (tI (ny sizes F l t))),some (.sh (f l)),some (.sh (.int t))],rfl,?_,c+1,ny sizes F l t,_,_,rfl,by omega,c3,p8 fl lr.1,λi hi=>?_,λi hi=>?_⟩
 ·dsimp? [vq (q:=f l) hs hl fl (E_ hf l) lr.2 tb]
 ·rw[tQ fl lr.1 hi]
  have:=sp i hi
  exact⟨Int.emod_nonneg _ (by omega),Int.emod_lt_of_pos _ this⟩
 ·rw[tQ fl lr.1 hi,bC]
  obtain⟨a,ha⟩:=fd i hi
  obtain⟨b,hb⟩:=du (vf F i+t*vf l i) (vf sizes i)
  have e1:vf P c=t:=by rw[aS hcp,el.2]
  have e2:raw.getD c []=l:=by rw[List.getD_eq_getElem?_getD,List.getElem?_eq_getElem hcr,el.1];rfl
  rw[e1,e2]
  exact⟨a+b,by rw[Int.mul_add];omega⟩
theorem kx(c:Int)(m:Nat)(hm:m<=100):ik (cL [.int c,.int (m:Int)]) λp=>∃ xs:List Int,p=lI xs/\xs.length=m/\∀ x∈xs,0<=x/\x<2^31:=by
 unfold cL cH
 dsimp? [eG,aW (j:=2147483629) (i:=c) (by decide),hZ (n:=(m:Int)) (by omega) (by omega)]
 refine ik.loop (xs:=List.range (m:Int).toNat) (inj:=λ(i:Nat)=>.int (i:Int)) (λzs env=>∃ (xs:List Int) (u:Int) (y:Option SV),env=[some (.sh (.int c)),some (.sh (.int (m:Int))),some (.ow (xs.map PV.int)),some (.sh (.int u)),y]/\xs.length+zs.length=m/\(∀ z∈zs,z<m)/\0<=u/\u<2^31/\∀ x∈xs,0<=x/\x<2^31) ⟨[],c%2147483629+17,none,rfl,by simp,λz hz=>by simpa using hz,by omega,by omega,λx hx=>nomatch hx⟩ ?_ ?_
 ·rintro a r env ⟨xs,u,y,rfl,hl,hz,u0,u1,hx⟩
  have ha:=hz a List.mem_cons_self
  dsimp? [bG,bg (i:=u) (j:=48271) (k:=31) (l:=31) (by omega) (by decide),bg (i:=7919) (j:=(a:Int)) (k:=31) (l:=31) (by decide) (by omega),aW (i:=u*48271+7919*(a:Int)+1) (j:=2147483647) (by decide),aL (i:=(u*48271+7919*(a:Int)+1)%2147483647) (j:=5) (by decide) (by decide),gS,ownAt,gE (xs:=xs.map PV.int) (by simp at hl ⊢;omega),fz]
  exact⟨_,rfl,_,_,_,rfl,by simp at hl ⊢;omega,λz h=>hz z (List.mem_cons_of_mem _ h),by omega,by omega,λx PY=>by
    rcases List.mem_append.mp PY with h | h
    ·exact hx x h
    ·rw[List.mem_singleton] at h;omega⟩
 ·rintro env ⟨xs,u,y,rfl,hl,_,_,_,hx⟩
  exact⟨_,rfl,xs,rfl,by simpa using hl,hx⟩
theorem vm(p:PV)(n:Nat)(h8:n<=1000):bY (.lst [p]) (.int (n:Int))=M.ok (.lst (List.replicate n p)):=by
 have h2:[p].length*(n:Int).toNat<=sizeLine:=by
  rw[Int.toNat_natCast]
  exact aX (by show 1*n<=1000;omega)
 have h3:(n:Int)<2^63:=Int.lt_of_le_of_lt (Int.ofNat_le.mpr h8) (by decide)
 have h4:-(2^63)<=(n:Int):=Int.le_trans (by decide) (Int.natCast_nonneg n)
 rw[bY,av ⟨h4,h3,h2⟩,Int.toNat_natCast,ql]
theorem xJ{n:Nat}{a b:Int}(h:b∈List.replicate n a):b=a:=List.eq_of_mem_replicate h
theorem A3:vC (.int 10) (.int 30)=M.ok (.int (10^30)):=by
 show cD (decide ((0:Int)<=30/\(30:Int)<=1000000/\(10:Int).natAbs<2^64)=true) _=_
 exact av (by decide)
theorem vo(i:Int)(h0:0<=i)(h:i<2^60):ik (e6 [.int i]) λp=>∃ x:Int,p=.int x/\x.natAbs<2^199:=by
 unfold e6 e7
 dsimp? [bg (i:=i) (j:=618033988749894848204586834365) (k:=60) (l:=200) (by omega) (by decide),A3,bg (i:=2) (j:=10^30) (k:=60) (l:=200) (by decide) (by decide),aW (i:=i*618033988749894848204586834365) (j:=2*10^30-1) (by decide)]
 exact⟨_,rfl,_,rfl,by omega⟩
theorem pick(l:List Int)(c:Int)(n:Nat)(hn:l.length=n)(h0:0<n):∃ x,x∈l/\aT (.lst (l.map PV.int)) (.int (c%(n:Int)))=M.ok (.int x):=by
 have h1:0<=c%(n:Int):=Int.emod_nonneg _ (by omega)
 have h2:c%(n:Int)<n:=Int.emod_lt_of_pos _ (by omega)
 obtain⟨j,hj⟩:=Int.eq_ofNat_of_zero_le h1
 have hj':j<l.length:=by omega
 refine⟨l[j],List.getElem_mem _,?_⟩
 rw[hj]
 exact bD (p:=.lst (l.map PV.int)) (j:=j) rfl (by rw[List.getElem?_map,List.getElem?_eq_getElem hj'];rfl)
theorem two{c:Int}:c%2=0\/c%2=1:=by omega
theorem yn(c:Int):ik (g8 [.int c]) λp=>∃ xs:List Int,p=lI xs/\Sz xs:=by
 obtain⟨m,em,m1,m6⟩:∃ m:Nat,1+c/2%6=(m:Int)/\1<=m/\m<=6:=⟨(1+c/2%6).toNat,by omega,by omega,by omega⟩
 unfold g8 gM
 dsimp? [aL (i:=c) (j:=2) (by decide) (by decide),aW (i:=c/2) (j:=6) (by decide),em,aW (i:=c) (j:=2) (by decide),aL (i:=c) (j:=12) (by decide) (by decide)]
 rcases two (c:=c) with h | h
 ·simp only[h,show ¬ (0:Int)=1 by decide,decide_false]
  obtain⟨_,es,xs,rfl,xl,xb⟩:=kx (c/12) m (by omega)
  dsimp? [eG,es,aL (i:=c) (j:=12) (by decide) (by decide)]
  refine ik.loop (xs:=xs) (inj:=PV.int) (λzs env=>∃ (ss:List Int) (y:Option SV),env=[some (.sh (.int c)),some (.sh (.int (m:Int))),some (.ow (ss.map PV.int)),y]/\ss.length+zs.length=m/\(∀ s∈ss,2<=s/\s<=360)) ⟨[],none,rfl,by simpa using xl,λ_ h=>nomatch h⟩ ?_ ?_
  ·rintro a r env ⟨ss,y,rfl,hl,hs⟩
   have OX:(ss.map PV.int).length<1000:=by simp at hl ⊢;omega
   have fin:∀ v:Int,2<=v/\v<=360->(ss++[v]).length+r.length=m/\∀ s∈ss++[v],2<=s/\s<=360:=λv hv=>⟨by simp at hl ⊢;omega,λs h'=>by
    rcases List.mem_append.mp h' with q | q
    ·exact hs s q
    ·rw[List.mem_singleton.mp q];exact hv⟩
   dsimp? [bG,aL (i:=c) (j:=12) (by decide) (by decide),aW (i:=c/12) (j:=2) (by decide)]
   rcases two (c:=c/12) with h2 | h2
   ·obtain⟨v,hv,ev⟩:=pick [2,3,4,6,8,9,12,16,24,27,32,36,64,72,81,128,243,256,360] a 19 rfl (by decide)
    simp only[h2,decide_true]
    dsimp? [aW (i:=a) (j:=19) (by decide),gS,ownAt]
    rw[show ((19:Nat):Int)=19 from rfl] at ev
    simp only[List.map_cons,List.map_nil] at ev
    rw[ev]
    dsimp? [gE OX,fz]
    obtain⟨f1,f2⟩:=fin v (by simp at hv;omega)
    exact⟨_,rfl,_,_,rfl,f1,f2⟩
   ·simp only[h2,show ¬ (1:Int)=0 by decide,decide_false]
    dsimp? [aW (i:=a) (j:=30) (by decide),bg (i:=12) (j:=1+a%30) (k:=31) (l:=31) (by decide) (by omega),gS,ownAt,gE OX,fz]
    obtain⟨f1,f2⟩:=fin (12*(1+a%30)) (by omega)
    exact⟨_,rfl,_,_,rfl,f1,f2⟩
  ·rintro env ⟨ss,y,rfl,hl,hs⟩
   refine⟨_,rfl,ss,rfl,?_,?_,hs⟩
   ·simp at hl;omega
   ·simp at hl;omega
 ·simp only[h,decide_true]
  obtain⟨xs,ex,xl,xb⟩:=kj (c/12) (.lst (List.replicate m (.int 359))) (List.replicate m 359) (by rw[List.map_replicate];rfl) (λb hb=>by rw[xJ hb];decide) (by simp;omega)
  rw[List.length_replicate] at xl
  dsimp? [aL (i:=c) (j:=12) (by decide) (by decide),vm (.int 359) m (by omega),ex,List.length_map,av (aX (show xs.length<=1000 by omega)),gv (f:=aj fE (λ_=>M.ok (.int 2)) (ae 0)) (inj:=PV.int) (h:=λx=>.int (2+x)) (rest:=[]) (x0:=none) xs λa _=>by dsimp? []]
  refine⟨_,rfl,xs.map (2+·),by rw[lI,List.map_map];rfl,by simp;omega,by simp;omega,λx hx=>?_⟩
  obtain⟨y,hy,rfl⟩:=List.mem_map.mp hx
  obtain⟨i,hi,rfl⟩:=List.mem_iff_getElem.mp hy
  have:=xb (xs[i],359) (List.mem_iff_getElem.mpr ⟨i,by simp;omega,by simp⟩)
  simp at this;omega
theorem yH{sizes:List Int}(S:Sz sizes)(c:Int):ik (gP [.int c,lI sizes]) λp=>∃ xs:List Int,p=lI xs/\xs.length=sizes.length/\Bd 200 xs:=by
 have l6:=S.h6
 obtain⟨_,es,xs,rfl,xl,xb⟩:=kx c sizes.length (by omega)
 unfold gP gz
 dsimp? [eG,es,dX (p:=lI xs) (q:=lI sizes) xs sizes rfl rfl]
 refine ik.loop (xs:=xs.zip sizes) (inj:=λz=>.tup [.int z.1,.int z.2]) (λzs env=>∃ (ss:List Int) (y1 y2 y3:Option SV),env=[some (.sh (.int c)),some (.sh (lI sizes)),some (.ow (ss.map PV.int)),y1,y2,y3]/\ss.length+zs.length=sizes.length/\Bd 200 ss/\∀ z∈zs,z.1∈xs/\z.2∈sizes) ⟨[],none,none,none,rfl,by simp;omega,(λ_ h=>nomatch h),λz hz=>jC hz⟩ ?_ ?_
 ·rintro⟨a,s⟩ r env ⟨ss,y1,y2,y3,rfl,hl,hs,hm⟩
  obtain⟨ma,ms⟩:=hm (a,s) List.mem_cons_self
  have ha:=xb a ma
  have hz:=S.hx s ms
  have hm':∀ z∈r,z.1∈xs/\z.2∈sizes:=λz hz=>hm z (List.mem_cons_of_mem _ hz)
  have OX:(ss.map PV.int).length<1000:=by simp at hl ⊢;omega
  have fin:∀ v:Int,v.natAbs<2^200->(ss++[v]).length+r.length=sizes.length/\Bd 200 (ss++[v]):=λv hv=>⟨by simp at hl ⊢;omega,λs h'=>by
   rcases List.mem_append.mp h' with q | q
   ·exact hs s q
   ·rw[List.mem_singleton.mp q];exact hv⟩
  dsimp? [bQ,aW (i:=a) (j:=4) (by decide)]
  by_cases h0:a%4=0
  ·obtain⟨_,eg,v,rfl,hv⟩:=vo (a/4) (by omega) (by omega)
   simp only[h0,decide_true]
   dsimp? [aL (i:=a) (j:=4) (by decide) (by decide),eg,gS,ownAt,gE OX,fz]
   obtain⟨f1,f2⟩:=fin v (by omega)
   exact⟨_,rfl,_,_,_,_,rfl,f1,f2,hm'⟩
  ·simp only[h0,decide_false]
   dsimp? [aW (i:=a) (j:=4) (by decide)]
   by_cases h1:a%4=1
   ·simp only[h1,decide_true]
    dsimp? [gS,ownAt,gE OX,fz]
    obtain⟨f1,f2⟩:=fin 0 (by decide)
    exact⟨_,rfl,_,_,_,_,rfl,f1,f2,hm'⟩
   ·simp only[h1,decide_false]
    obtain⟨v,hv,ev⟩:=pick [1,1,2,3,4,6,12] (a/4) 7 rfl (by decide)
    rw[show ((7:Nat):Int)=7 from rfl] at ev
    simp only[List.map_cons,List.map_nil] at ev
    have P_:1<=v/\v<=12:=by simp at hv;omega
    dsimp? [aL (i:=a) (j:=4) (by decide) (by decide),aW (i:=a/4) (j:=7) (by decide)]
    rw[ev]
    have b1:0<=a/28%s:=Int.emod_nonneg _ (by omega)
    have b2:a/28%s<s:=Int.emod_lt_of_pos _ (by omega)
    have b3:0<=a/28%s*v%s:=Int.emod_nonneg _ (by omega)
    have b4:a/28%s*v%s<s:=Int.emod_lt_of_pos _ (by omega)
    dsimp? [aL (i:=a) (j:=28) (by decide) (by decide),aW (i:=a/28) (j:=s) (by omega),bg (i:=a/28%s) (j:=v) (k:=31) (l:=31) (by omega) (by omega),aW (i:=a/28%s*v) (j:=s) (by omega),gS,ownAt,gE OX,fz]
    obtain⟨f1,f2⟩:=fin (a/28%s*v%s) (by omega)
    exact⟨_,rfl,_,_,_,_,rfl,f1,f2,hm'⟩
 ·rintro env ⟨ss,y1,y2,y3,rfl,hl,hs,_⟩
  exact⟨_,rfl,ss,rfl,by simpa using hl,hs⟩
theorem wB(ns:List Int){sizes:List Int}(S:Sz sizes):ik (fJ [.jO (ns.map PV.int),lI sizes]) λp=>∃ raw:List (List Int),p=.lst (raw.map lI)/\raw.length<=8/\∀ l∈raw,l.length=sizes.length/\Bd 200 l:=by
 have l6:=S.h6
 obtain⟨c,ec⟩:=oz ns 1
 rw[show ((1:Nat):Int)=1 from rfl] at ec
 have h1:0<=c%9:=by omega
 have h2:c%9<9:=by omega
 unfold fJ fO
 dsimp? [eG,ec,aW (i:=c) (j:=9) (by decide),hZ h1 (by omega)]
 refine ik.loop (xs:=List.range (c%9).toNat) (inj:=λ(i:Nat)=>.int (i:Int)) (λzs env=>∃ (raw:List (List Int)) (y1 y2:Option SV),env=[some (.sh (.jO (ns.map PV.int))),some (.sh (lI sizes)),some (.ow (raw.map lI)),y1,y2]/\raw.length+zs.length=(c%9).toNat/\(∀ z∈zs,z<9)/\∀ l∈raw,l.length=sizes.length/\Bd 200 l) ⟨[],none,none,rfl,by simp,(λz hz=>by rw[List.mem_range] at hz;omega),λ_ h=>nomatch h⟩ ?_ ?_
 ·rintro k r env ⟨raw,y1,y2,rfl,hl,hz,hr⟩
  have hk:=hz k List.mem_cons_self
  have OE:∀ z∈r,z<9:=λz h=>hz z (List.mem_cons_of_mem _ h)
  obtain⟨d,ed⟩:=oz ns (2+k)
  rw[show ((2+k:Nat):Int)=2+(k:Int) by omega] at ed
  have OX:(raw.map lI).length<1000:=by simp at hl ⊢;omega
  have fin:∀ v:List Int,v.length=sizes.length->Bd 200 v->(raw++[v]).length+r.length=(c%9).toNat/\∀ l∈raw++[v],l.length=sizes.length/\Bd 200 l:=λv h1 h2=>⟨by simp at hl ⊢;omega,λs h'=>by
   rcases List.mem_append.mp h' with q | q
   ·exact hr s q
   ·rw[List.mem_singleton.mp q];exact⟨h1,h2⟩⟩
  dsimp? [bG,ed,ec,aL (i:=c) (j:=9) (by decide) (by decide),aW (i:=c/9) (j:=2) (by decide)]
  rcases two (c:=c/9) with h2 | h2
  ·simp only[h2,show ¬ (0:Int)=1 by decide,decide_false]
   obtain⟨_,el,v,rfl,hv1,hv2⟩:=yH S (d+7919*(k:Int))
   dsimp? [bg (i:=7919) (j:=(k:Int)) (k:=31) (l:=31) (by decide) (by omega),el,gS,ownAt,gE OX]
   obtain⟨f1,f2⟩:=fin v hv1 hv2
   exact⟨_,rfl,raw++[v],_,_,by rw[List.map_append];rfl,f1,OE,f2⟩
  ·simp only[h2,decide_true]
   obtain⟨v,ev,hv1,hv2⟩:=kj d (lI sizes) sizes rfl (λb hb=>by have:=S.hx b hb;omega) (by omega)
   dsimp? [ev,gS,ownAt,gE OX]
   obtain⟨f1,f2⟩:=fin v hv1 λx hx=>by
    obtain⟨i,hi,rfl⟩:=List.mem_iff_getElem.mp hx
    have h3:i<sizes.length:=by omega
    have:=hv2 (v[i],sizes[i]) (List.mem_iff_getElem.mpr ⟨i,by simp;omega,by simp⟩)
    have h4:=S.hx _ (List.getElem_mem h3)
    simp at this
    omega
   exact⟨_,rfl,raw++[v],_,_,by rw[List.map_append];rfl,f1,OE,f2⟩
 ·rintro env ⟨raw,y1,y2,rfl,hl,_,hr⟩
  exact⟨_,rfl,raw,rfl,by simp at hl;omega,hr⟩
theorem zu(c:Int)(m:Nat)(hm:m<=8):ik (e_ [.int c,.int (m:Int)]) λp=>∃ xs:List Int,p=tI xs/\xs.length=m/\Bd 199 xs:=by
 unfold e_ gR
 dsimp? [aW (i:=c) (j:=2) (by decide),aL (i:=c) (j:=2) (by decide) (by decide)]
 rcases two (c:=c) with h | h
 ·simp only[h,show ¬ (0:Int)=1 by decide,decide_false]
  obtain⟨_,es,xs,rfl,xl,xb⟩:=kx (c/2) m (by omega)
  dsimp? [eG,es,aL (i:=c) (j:=2) (by decide) (by decide)]
  refine ik.loop (xs:=xs) (inj:=PV.int) (λzs env=>∃ (ss:List Int) (y:Option SV),env=[some (.sh (.int c)),some (.sh (.int (m:Int))),some (.ow (ss.map PV.int)),y]/\ss.length+zs.length=m/\Bd 199 ss/\∀ z∈zs,z∈xs) ⟨[],none,rfl,by simpa using xl,(λ_ h=>nomatch h),λ_ h=>h⟩ ?_ ?_
  ·rintro a r env ⟨ss,y,rfl,hl,hs,hz⟩
   have ha:=xb a (hz a List.mem_cons_self)
   have OX:(ss.map PV.int).length<1000:=by simp at hl ⊢;omega
   obtain⟨_,eg,g,rfl,hg⟩:=vo (a/2) (by omega) (by omega)
   obtain⟨v,hv,ev⟩:=pick [a/2%9-4,g] a 2 rfl (by decide)
   rw[show ((2:Nat):Int)=2 from rfl] at ev
   simp only[List.map_cons,List.map_nil] at ev
   dsimp? [bG,aL (i:=a) (j:=2) (by decide) (by decide),aW (i:=a/2) (j:=9) (by decide),eg,aW (i:=a) (j:=2) (by decide),gS,ownAt,ev,gE OX,fz]
   refine⟨_,rfl,_,_,rfl,by simp at hl ⊢;omega,λs h'=>?_,λz h=>hz z (List.mem_cons_of_mem _ h)⟩
   rcases List.mem_append.mp h' with q | q
   ·exact hs s q
   ·rw[List.mem_singleton.mp q]
    simp at hv
    rcases hv with rfl | rfl
    ·omega
    ·exact hg
  ·rintro env ⟨ss,y,rfl,hl,hs,_⟩
   exact⟨_,rfl,ss,rfl,by simpa using hl,hs⟩
 ·simp only[h,decide_true]
  obtain⟨xs,ex,xl,xb⟩:=kj (c/2) (.lst (List.replicate m (.int (2*10^30-1)))) (List.replicate m (2*10^30-1)) (by rw[List.map_replicate];rfl) (λb hb=>by rw[xJ hb];decide) (by simp;omega)
  rw[List.length_replicate] at xl
  dsimp? [aL (i:=c) (j:=2) (by decide) (by decide),A3,bg (i:=2) (j:=10^30) (k:=60) (l:=200) (by decide) (by decide),vm (.int (2*10^30-1)) m (by omega),ex,List.length_map,av (aX (show xs.length<=1000 by omega)),gv (f:=aj iQ (ae 0) (aj iQ (aj vC (λ_=>M.ok (.int 10)) (λ_=>M.ok (.int 30))) (λ_=>M.ok (.int 1)))) (inj:=PV.int) (h:=λx=>.int (x-(10^30-1))) (rest:=[]) (x0:=none) xs λa _=>by dsimp? [A3]]
  refine⟨_,rfl,xs.map (·-(10^30-1)),by rw[tI,List.map_map];rfl,by simp;omega,λx hx=>?_⟩
  obtain⟨y,hy,rfl⟩:=List.mem_map.mp hx
  obtain⟨i,hi,rfl⟩:=List.mem_iff_getElem.mp hy
  have:=xb (xs[i],2*10^30-1) (List.mem_iff_getElem.mpr ⟨i,by simp;omega,by simp⟩)
  simp at this
  show (xs[i]-(10^30-1)).natAbs<2^199
  omega
theorem AE{xs:List Int}{i:Nat}(h:i<xs.length):aT (lI xs) (.int (i:Int))=M.ok (.int (vf xs i)) :=
 bD (p:=lI xs) rfl (by rw[List.getElem?_map,List.getElem?_eq_getElem h,aS h];rfl)
theorem getD_at{α β:Type}(f:α->β){xs:List α}{a:α}{b:β}{l:Nat}(h:l<xs.length):(xs.map f).getD l b=f (xs.getD l a):=by
 rw[List.getD_eq_getElem?_getD,List.getD_eq_getElem?_getD,List.getElem?_map,List.getElem?_eq_getElem h];rfl
theorem getD_mem{α:Type}{xs:List α}{a:α}{l:Nat}(h:l<xs.length):xs.getD l a∈xs:=by
 rw[List.getD_eq_getElem?_getD,List.getElem?_eq_getElem h];exact List.getElem_mem h
theorem AM{sizes:List Int}{raw:List (List Int)}(S:Sz sizes)(hr:∀ l∈raw,l.length=sizes.length/\Bd 200 l):Jl sizes.length raw.length sizes (raw.map λl=>wL l sizes)/\∀ l,l<raw.length->∀ i,i<sizes.length->AA (raw.map λl=>wL l sizes) l i=vf (raw.getD l []) i%vf sizes i:=by
 have e:∀ l,l<raw.length->∀ i,i<sizes.length->AA (raw.map λl=>wL l sizes) l i=vf (raw.getD l []) i%vf sizes i:=λl hl i hi=>by
  unfold AA
  rw[getD_at (a:=[]) _ hl,ue,jq (by rw[(hr _ (getD_mem hl)).1];exact hi) hi]
 refine⟨⟨by simp,λl hl=>?_,λl hl i hi=>?_⟩,e⟩
 ·rw[getD_at (a:=[]) _ hl,ue,iX,(hr _ (getD_mem hl)).1];omega
 ·rw[e l hl i hi]
  have:=S.hx _ (List.getElem_mem hi)
  rw[← aS hi] at this
  exact⟨Int.emod_nonneg _ (by omega),Int.emod_lt_of_pos _ (by omega)⟩
theorem lV{sizes:List Int}(S:Sz sizes):∀ i,i<sizes.length->0<vf sizes i/\vf sizes i<=360:=λi hi=>by
 have:=S.hx _ (List.getElem_mem hi)
 rw[← aS hi] at this
 omega
theorem kU{sizes xs:List Int}(h:xs.length=sizes.length)(h0:∀ i,i<sizes.length->0<=vf xs i/\vf xs i<vf sizes i):CM sizes xs:=⟨h,λz hz=>by
 obtain⟨i,hi,rfl⟩:=List.mem_iff_getElem.mp hz
 rw[List.length_zip] at hi
 have:=h0 i (by omega)
 rw[aS (by omega),aS (by omega)] at this
 simpa using this⟩
theorem Dy{m:Nat}{P B C:Nat->Int}{s:Int}(h:∀ l,l<m->s∣B l-C l):s∣(bC m λl=>P l*B l)-bC m λl=>P l*C l:=by
 induction m with
 | zero=>exact⟨0,by simp[bC]⟩
 | succ m ih =>
  obtain⟨a,ha⟩:=ih λl hl=>h l (by omega)
  obtain⟨b,hb⟩:=h m (by omega)
  exact⟨a+P m*b,by rw[bC,bC];grind⟩
def oM(ns:List Int)(a b:Nat):List Int:=(ns.drop (HT.dr ns.length 0 (some (a:Int)))).take (HT.dr ns.length ns.length (some (b:Int))-HT.dr ns.length 0 (some (a:Int)))
theorem Eb(ns:List Int)(a b:Nat):J5 (.jO (ns.map PV.int)) (some (a:Int)) (some (b:Int))=M.ok (.lst ((oM ns a b).map PV.int)):=by
 show M.ok (PV.lst (nQ (ns.map PV.int) _ _))=_
 rw[nQ,oM,List.map_take,List.map_drop,List.length_map]
theorem rY(ns:List Int)(a b:Nat):(oM ns a b).length<=b-a:=by
 unfold oM
 rw[List.length_take,List.length_drop,HT.ye,HT.ye]
 omega
theorem zO(xs:List Int)(h:xs.length<=100):fE (.lst (xs.map PV.int)) (.lst [.int 0])=M.ok (lI (xs++[0])):=by
 rw[fE,av (aX (by simp;omega)),lI,List.map_append];rfl
theorem w5{xs:List Int}{z:Int×Nat}(h:z∈xs.zipIdx):z.2<xs.length:=by
 obtain⟨i,hi,rfl⟩:=List.mem_iff_getElem.mp h
 simp at hi ⊢;exact hi
theorem HV(Ls:List (List Int))(i:Nat):AA Ls Ls.length i=0:=by
 unfold AA
 rw[List.getD_eq_getElem?_getD,List.getElem?_eq_none (Nat.le_refl _)]
 exact pX (Nat.zero_le _)
section
variable{sizes:List Int}{Ls:List (List Int)}{R:List Row}{idle:List (List Int)}{A:Nat->bJ}{k:Nat}
theorem lj{m:Str}{sem:List PV->M PV}{x:M (List PV)}(h:(uS (dY sizes Ls) R idle).lookup m=none):rn au m sem (kM sizes Ls R idle) x=x.bind λps=>sem (kM sizes Ls R idle::ps):=kA h
theorem Ka:w8 (λc=>c==au) "vault" (kM sizes Ls R idle)=M.ok (dY sizes Ls):=jY (beq_self_eq_true _) JS
theorem K8:w8 (λc=>c==au) "made_rows" (kM sizes Ls R idle)=M.ok (.lst (R.map mk)):=jY (beq_self_eq_true _) IB
theorem Mo:w8 (λc=>c==au) "idle_rows" (kM sizes Ls R idle)=M.ok (.lst (idle.map tI)):=jY (beq_self_eq_true _) JL
theorem Eh:rn ay "sizes" aP (dY sizes Ls) (M.ok [])=M.ok (tI sizes):=(kA (fl:=p5 sizes Ls) rfl).trans (uX sizes Ls)
def lst(sizes:List Int)(Ls:List (List Int))(R:List Row)(xs:List Int):List Int:=(bj sizes R (xs,List.replicate Ls.length 0) 0 sizes.length).1
theorem g9(h:St sizes.length Ls.length sizes A k R){xs:List Int}(hl:xs.length=sizes.length)(h0:∀ i,i<sizes.length->0<=vf xs i/\vf xs i<vf sizes i) :
  (lst sizes Ls R xs).length=sizes.length/\(∀ i,i<sizes.length->0<=vf (lst sizes Ls R xs) i/\vf (lst sizes Ls R xs) i<aQ (vf sizes) (DD R) i)/\(∀ i,i<sizes.length->0<=vf (lst sizes Ls R xs) i/\vf (lst sizes Ls R xs) i<vf sizes i)/\G sizes.length (vf sizes) (DD R) sizes.length 0 (λi=>vf xs i-vf (lst sizes Ls R xs) i):=by
 have r2:(List.replicate Ls.length (0:Int)).length=Ls.length:=by simp
 have ll:=iE h (f:=0) (r:=(xs,List.replicate Ls.length 0)) hl r2 sizes.length (by omega)
 have dn:=mH h (f:=0) (r:=(xs,List.replicate Ls.length 0)) hl r2 h0
 exact⟨ll.1,λi hi=>dn.low h.gd sizes.length (Nat.zero_le _) (Nat.le_refl _) i (Nat.zero_le _) hi,λi hi=>dn.kept h.gd sizes.length (Nat.zero_le _) (Nat.le_refl _) i hi,dn.away h.gd sizes.length (Nat.zero_le _) (Nat.le_refl _) sizes.length (by omega)⟩
theorem Ic(h:St sizes.length Ls.length sizes A k R){xs ys:List Int}(hl:xs.length=sizes.length)(h0:∀ i,i<sizes.length->0<=vf xs i/\vf xs i<vf sizes i)(OX:ys.length=sizes.length)(h0':∀ i,i<sizes.length->0<=vf ys i/\vf ys i<vf sizes i)
  (hg:G sizes.length (vf sizes) (DD R) sizes.length 0 (λi=>vf xs i-vf ys i)):lst sizes Ls R xs=lst sizes Ls R ys:=by
 obtain⟨a1,a2,a3,a4⟩:=g9 h hl h0
 obtain⟨b1,b2,b3,b4⟩:=g9 h OX h0'
 refine mj (a1.trans b1.symm) λi hi=>?_
 have g:=G.add (by omega) (h.gd.sub (by omega) hg a4) b4
 have:=G.diff h.gd sizes.length 0 (λi=>vf (lst sizes Ls R xs) i-vf (lst sizes Ls R ys) i) (by omega) (λi hi=>by have:=a3 i hi;have:=b3 i hi;omega) (λi _ hi=>by have:=a2 i hi;have:=b2 i hi;omega) (G.ext (by omega) (λi _=>by omega) g) i (by omega)
 omega
theorem pd(S:Sz sizes)(hm:Ls.length<=8)(h:St sizes.length Ls.length sizes A k R)(hk:k<=9){xs:List Int}(hl:xs.length=sizes.length)(h0:∀ i,i<sizes.length->0<=vf xs i/\vf xs i<vf sizes i) :
  dh [kM sizes Ls R idle,tI xs]=M.ok (tI (lst sizes Ls R xs)):=by
 have dk:=uj (idle:=idle) S hm h hk (kU hl h0) h0
 unfold dh dq
 dsimp? [br,lj (m := "brought_down") rfl,dk,ni]
 rfl
def j0(sizes:List Int)(R:List Row):List Int:=(List.range sizes.length).map λd=>aQ (vf sizes) (DD R) d
theorem eW:(j0 sizes R).length=sizes.length:=by simp[j0]
theorem oA{i:Nat}(h:i<sizes.length):vf (j0 sizes R) i=aQ (vf sizes) (DD R) i:=by
 rw[aS (by rw[eW];exact h)];simp[j0]
def CN(idle:List (List Int)):List Int:=idle.zipIdx.map λz=>vf z.1 z.2
theorem oB:(CN idle).length=idle.length:=by simp[CN]
theorem Ap{i:Nat}(h:i<idle.length):vf (CN idle) i=II idle i i:=by
 rw[aS (by rw[oB];exact h)]
 simp only[CN,List.getElem_map,List.getElem_zipIdx,Nat.zero_add]
 unfold II
 rw[List.getD_eq_getElem?_getD,List.getElem?_eq_getElem h];rfl
theorem vG(S:Sz sizes)(h:St sizes.length Ls.length sizes A k R):d_ [kM sizes Ls R idle]=M.ok (tI (j0 sizes R)):=by
 have l6:=S.h6
 have key:bK (bG 0) none (ai dw (aa (ae 2) (aa (dI (λc=>c==au) "made_rows" (ae 1)) (aa (ae 0) ao)))) ((List.range sizes.length).map λ(i:Nat)=>.int (i:Int)) [none,some (.sh (kM sizes Ls R idle)),some (.sh (tI sizes))]=M.ok ((List.range sizes.length).map λd=>.int (aQ (vf sizes) (DD R) d)):=by
  refine gv (inj:=λ(i:Nat)=>PV.int (i:Int)) (List.range sizes.length) λi hi=>?_
  dsimp? [gF,K8,tH h.wf h.hs (List.mem_range.mp hi)]
 unfold d_ dW
 dsimp? [gF,Ka,br,Eh,hZ (n:=(sizes.length:Int)) (by omega) (by omega),Int.toNat_natCast,List.length_map,List.length_range,av (aX (show sizes.length<=1000 by omega)),key]
 rw[tI,j0,List.map_map];rfl
theorem yi(hm:Ls.length<=8)(I:ya sizes.length Ls.length (vf sizes) A Ls.length idle):fZ [kM sizes Ls R idle]=M.ok (tI (CN idle)):=by
 have il:=I.len
 have key:bK (bQ 0 1) none (aj aT (ae 1) (ae 0)) (idle.zipIdx.map λz=>.tup [.int (z.2:Int),tI z.1]) [none,none]=M.ok (idle.zipIdx.map λz=>.int (vf z.1 z.2)):=by
  refine iR (p:=λz:List Int×Nat=>PV.int (z.2:Int)) (q:=λz:List Int×Nat=>tI z.1) idle.zipIdx λz hz=>?_
  obtain⟨i,hi,rfl⟩:=List.mem_iff_getElem.mp hz
  rw[List.length_zipIdx] at hi
  have:=I.l2 i (by omega)
  rw[List.getD_eq_getElem?_getD,List.getElem?_eq_getElem hi] at this
  simp only[List.getElem_zipIdx,Nat.zero_add]
  dsimp? [kc (xs:=idle[i]) (i:=i) (by rw[show idle[i].length=Ls.length from this];omega)]
 unfold fZ fV
 dsimp? [gF,Mo,oj,List.length_map,List.length_zipIdx,av (aX (show idle.length<=1000 by omega)),key]
 rw[tI,CN,List.map_map];rfl
theorem Al(S:Sz sizes)(hm:Ls.length<=8)(h:St sizes.length Ls.length sizes A k R)(hk:k<=9){xs:List Int}(hl:xs.length=sizes.length)(h0:∀ i,i<sizes.length->0<=vf xs i/\vf xs i<vf sizes i)(hn:lst sizes Ls R xs≠List.replicate sizes.length 0) :
  bP [kM sizes Ls R idle,tI xs]=M.ok .cR:=by
 have dk:=uj (idle:=idle) S hm h hk (kU hl h0) h0
 unfold bP cn
 dsimp? [br,lj (m := "brought_down") rfl,dk,ni,gF,Ka,ja (Ls:=Ls) S.h6,ua]
 simp only[show ¬ (bj sizes R (xs,List.replicate Ls.length 0) 0 sizes.length).1=List.replicate sizes.length 0 from hn,decide_false]
 dsimp? []
end
section
variable{sizes:List Int}{raw Ls:List (List Int)}{R:List Row}{k:Nat}
theorem qu(S:Sz sizes):∀ s∈sizes,0<s:=λs hs=>by have:=S.hx s hs;omega
theorem BW(S:Sz sizes):∀ i,i<sizes.length->0<=vf (List.replicate sizes.length 0) i/\vf (List.replicate sizes.length 0) i<vf sizes i:=λi hi=>by rw[eE];have:=lV S i hi;omega
theorem D7{F F':List Int}(h:F.length=sizes.length)(h':F'.length=sizes.length)(k:∀ i,i<sizes.length->0<=vf F i/\vf F i<vf sizes i)(k':∀ i,i<sizes.length->0<=vf F' i/\vf F' i<vf sizes i)(d:∀ i,i<sizes.length->vf sizes i∣vf F i-vf F' i):F=F' :=
 mj (h.trans h'.symm) λi hi=>by
  have:=k i (by omega);have:=k' i (by omega)
  have:=ml (d i (by omega)) (by omega) (by omega)
  omega
theorem JW{P v:bJ}(h:St sizes.length Ls.length sizes (AA Ls) k R)(hk:Ls.length<=k)(led:Led sizes.length (vf sizes) Ls.length (AA Ls) v P):G sizes.length (vf sizes) (DD R) sizes.length 0 v:=by
 have g:=G.sum (A:=AA Ls) (P:=P) h.gd Ls.length λl hl=>h.cl l (by omega)
 exact h.gd.lL (by omega) (λi hi=>led i hi) g
theorem ET{idle:List (List Int)}{A:Nat->bJ}(I:ya sizes.length Ls.length (vf sizes) A Ls.length idle){T:List Int}(hT:T.length=Ls.length)(nf:∀ l,l<Ls.length->0<=vf T l/\vf T l<II idle l l):Bd 200 T:=λx hx=>by
 obtain⟨i,hi,rfl⟩:=List.mem_iff_getElem.mp hx
 have h2:=nf i (by omega)
 rw[aS hi] at h2
 have h3:=I.le i (by omega)
 omega
theorem wY(S:Sz sizes){F:List Int}(h:F.length=sizes.length)(k:∀ i,i<sizes.length->0<=vf F i/\vf F i<vf sizes i):Bd 200 F:=λx hx=>by
 obtain⟨i,hi,rfl⟩:=List.mem_iff_getElem.mp hx
 have h2:=k i (by omega)
 rw[aS hi] at h2
 have:=lV S i (by omega)
 omega
theorem v5(S:Sz sizes){xs ys:List Int}{t:Int}(h1:xs.length=sizes.length)(h2:ys.length=sizes.length):(ny sizes xs ys t).length=sizes.length/\(∀ i,i<sizes.length->0<=vf (ny sizes xs ys t) i/\vf (ny sizes xs ys t) i<vf sizes i)/\∀ i,i<sizes.length->vf sizes i∣vf (ny sizes xs ys t) i-(vf xs i+t*vf ys i) :=
 ⟨p8 h1 h2,λi hi=>by
  rw[tQ h1 h2 hi]
  have:=lV S i hi
  exact⟨Int.emod_nonneg _ (by omega),Int.emod_lt_of_pos _ (by omega)⟩,λi hi=>by rw[tQ h1 h2 hi];exact du _ _⟩
structure kR (ns:List Int) (sizes:List Int) (raw Ls:List (List Int)) (R:List Row) (idle:List (List Int)):Prop where
 S:Sz sizes
 hr:∀ l∈raw,l.length=sizes.length/\Bd 200 l
 eL:Ls=raw.map λl=>wL l sizes
 hm:raw.length=Ls.length
 m8:Ls.length<=8
 eA:∀ l,l<raw.length->∀ i,i<sizes.length->AA Ls l i=vf (raw.getD l []) i%vf sizes i
 LL:Jl sizes.length Ls.length sizes Ls
 st:St sizes.length Ls.length sizes (AA Ls) (Ls.length+1) R
 I:ya sizes.length Ls.length (vf sizes) (AA Ls) Ls.length idle
 pr:aE Ls.length (λj=>II idle j j)*aE sizes.length (aQ (vf sizes) (DD R))=aE sizes.length (vf sizes)
 ord:∀ j,j<Ls.length->∀ P:bJ,Zf (j+1) Ls.length P->Led sizes.length (vf sizes) Ls.length (AA Ls) (λ_=>0) P->II idle j j∣P j
 low:∀ d,d<sizes.length->∀ e,d<e->e<sizes.length->DD R d e<aQ (vf sizes) (DD R) e
 nul:∀ d,d<sizes.length->DD R d d=0->∀ i,i<sizes.length->DD R d i=0
 Jk:∀ {p:PV} {f:List Int->PV},(f=tI\/f=lI)->bL p=some (sizes.map PV.int)->cY ay eC [.cR] [p,.lst (raw.map f)]=M.ok (dY sizes Ls)
 Aw:cY au bI [] [dY sizes Ls]=M.ok (kM sizes Ls R idle)
theorem kR.get(ns:List Int){sizes:List Int}(S:Sz sizes){raw:List (List Int)}(r8:raw.length<=8)(hr:∀ l∈raw,l.length=sizes.length/\Bd 200 l):∃ Ls R idle,kR ns sizes raw Ls R idle:=by
 have l6:=S.h6
 have sp:=lV S
 obtain⟨LL,eA⟩:=AM S hr
 have Jk:=λ{p:PV} {f:List Int->PV} (hf:f=tI\/f=lI) hp=>Ex (p:=p) hf sizes raw hp S r8 λl h=>(hr l h).1
 have hm:raw.length=(raw.map λl=>wL l sizes).length:=by simp
 generalize hLs:(raw.map λl=>wL l sizes)=Ls at *
 rw[hm] at LL r8
 have K:=CG.all (c:=cf) rfl sp LL Cd l6 Ls.length (Nat.le_refl _)
 have Aw:=z7 S.h1 l6 r8 sp LL
 generalize RK cf sizes Ls sizes.length Ls.length Ls.length=rk at *
 have h:=K.st
 have hl:∀ d,d<sizes.length->(bj sizes rk.1 (row rk.1 d) (d+1) (sizes.length-(d+1))).1.length=sizes.length:=λd hd=>(iE h (h.wf.oP hd) (h.wf.at2 hd) _ (by omega)).1
 have lg:=vD (D':=DD (mI sizes rk.1 sizes.length)) h.gd (λd e=>vf (bj sizes rk.1 (row rk.1 d) (d+1) (e-(d+1))).1) (λd hd=>mH h (h.wf.oP hd) (h.wf.at2 hd) λi hi=>h.gd.je d hd i hi) (λd hd i hi=>by
  show vf (bj sizes rk.1 (row rk.1 d) (d+1) (d+1-(d+1))).1 i=_
  rw[Nat.sub_self];rfl) (λd hd i hi=>by unfold DD;rw[lA hd])
 refine⟨Ls,mI sizes rk.1 sizes.length,rk.2,S,hr,hLs.symm,hm,r8,eA,LL,G4 K.st l6 (HV Ls),K.qV,?_,K.ord,?_,?_,Jk,Aw⟩
 ·rw[dM (f:=aQ (vf sizes) (DD (mI sizes rk.1 sizes.length))) (g:=aQ (vf sizes) (DD rk.1)) lg.2.1]
  exact K.pr
 ·intro d hd e h1 h2
  rw[lg.2.1 e h2]
  exact lg.2.2.1 d hd e h1 h2
 ·exact lg.2.2.2.1
end
theorem mO{sizes:List Int}(S:Sz sizes)(c:Int):ik (cV [.int c,lI sizes]) λp=>∃ xs:List Int,p=tI xs/\xs.length=sizes.length/\∀ i,i<sizes.length->0<=vf xs i/\vf xs i<vf sizes i:=by
 have l6:=S.h6
 unfold cV fm
 dsimp? [aW (i:=c) (j:=2) (by decide)]
 rcases two (c:=c) with h | h
 ·simp only[h,show ¬ (0:Int)=1 by decide,decide_false]
  obtain⟨_,es,xs,rfl,xl,xb⟩:=kx (c/2) sizes.length (by omega)
  have key:bK (bQ 0 1) none (aj cP (ae 0) (ae 1)) ((xs.zip sizes).map λz=>.tup [.int z.1,.int z.2]) [none,none]=M.ok ((xs.zip sizes).map λz=>.int (z.1%z.2)):=by
   refine iR (p:=λz:Int×Int=>PV.int z.1) (q:=λz:Int×Int=>PV.int z.2) (xs.zip sizes) λz hz=>?_
   dsimp? [aW (i:=z.1) (qu S _ (jC hz).2)]
  have hz:(xs.zip sizes).length<=sizeLine:=by rw[List.length_zip];exact aX (Nat.le_trans (Nat.min_le_left _ _) (by omega))
  dsimp? [aL (i:=c) (j:=2) (by decide) (by decide),es,dX (p:=lI xs) (q:=lI sizes) xs sizes rfl rfl,List.length_map,av hz,key]
  refine⟨_,rfl,(xs.zip sizes).map λz=>z.1%z.2,by rw[tI,List.map_map];rfl,by simp;omega,λi hi=>?_⟩
  have:=lV S i hi
  rw[aS (by simp;omega)]
  simp only[List.getElem_map,List.getElem_zip]
  rw[aS hi] at this ⊢
  exact⟨Int.emod_nonneg _ (by omega),Int.emod_lt_of_pos _ (by omega)⟩
 ·simp only[h,decide_true]
  obtain⟨xs,ex,xl,xb⟩:=kj (c/2) (lI sizes) sizes rfl (λb hb=>by have:=S.hx b hb;omega) (by omega)
  dsimp? [aL (i:=c) (j:=2) (by decide) (by decide),ex]
  refine⟨_,rfl,xs,rfl,xl,λi hi=>?_⟩
  have:=xb (xs[i]'(by omega),sizes[i]) (List.mem_iff_getElem.mpr ⟨i,by simp;omega,by simp⟩)
  rw[aS (by omega),aS hi]
  exact this
theorem zP(sizes:List Int)(levers:List (List Int)):cW [dY sizes levers]=M.ok (.int (R sizes)):=by
 unfold cW dE
 dsimp? [dI,dY,beq_self_eq_true,Ab]
theorem L9{sizes:List Int}{Ls:List (List Int)}:rn ay "around" cW (dY sizes Ls) (M.ok [])=M.ok (.int (R sizes)):=(kA (fl:=p5 sizes Ls) rfl).trans (zP sizes Ls)
def Kk(sizes ws xs:List Int):Int:=((((ws.zip sizes).map λz=>z.1*(R sizes/z.2)).zip xs).map λz=>z.1*z.2).sum%R sizes
theorem oX{sizes:List Int}(h:Sz sizes){s:Int}(hs:s∈sizes):0<=R sizes/s/\R sizes/s<2^60:=by
 have h1:=rT h;have h2:=JY h;have h3:=h.hx s hs
 refine⟨Int.ediv_nonneg (by omega) (by omega),Int.lt_of_le_of_lt (Int.ediv_le_self s (by omega)) h2⟩
theorem BR{sizes:List Int}(h:Sz sizes){w s:Int}(hw:0<=w/\w<360)(hs:s∈sizes):(w*(R sizes/s)).natAbs<2^80:=by
 have h1:=oX h hs
 rw[Int.natAbs_mul]
 have:w.natAbs*(R sizes/s).natAbs<=2^9*2^60:=Nat.mul_le_mul (by omega) (by omega)
 exact Nat.lt_of_le_of_lt this (by decide)
theorem A8{sizes:List Int}{levers:List (List Int)}(h:Sz sizes){ws xs:List Int}(hw:CM sizes ws)(hs:CM sizes xs):oF [dY sizes levers,tI ws,tI xs]=M.ok (.int (Kk sizes ws xs)):=by
 have l6:=h.h6
 have k1:bK (bQ 0 1) none (aj bY (ae 0) (aj bw (ae 2) (ae 1))) ((ws.zip sizes).map λz=>.tup [.int z.1,.int z.2]) [none,none,some (.sh (.int (R sizes)))]=M.ok ((ws.zip sizes).map λz=>.int (z.1*(R sizes/z.2))):=by
  refine iR (p:=λz:Int×Int=>PV.int z.1) (q:=λz:Int×Int=>PV.int z.2) (ws.zip sizes) λz hz=>?_
  obtain⟨m1,m2⟩:=jC hz
  have a1:=h.hx z.2 m2;have a2:=ot h hw m1;have a3:=oX h m2
  dsimp? [aL (i:=R sizes) (show 0<z.2 by omega) (show z.2<2^64 by omega),bg (k:=64) (l:=64) (show z.1.natAbs<2^64 by omega) (show (R sizes/z.2).natAbs<2^64 by omega)]
 have z1:(ws.zip sizes).length<=sizeLine:=by rw[List.length_zip];exact aX (Nat.le_trans (Nat.min_le_right _ _) (by omega))
 let us:=(ws.zip sizes).map λz=>z.1*(R sizes/z.2)
 have k2:bK (bQ 0 1) none (aj bY (ae 0) (ae 1)) ((us.zip xs).map λz=>.tup [.int z.1,.int z.2]) [none,none]=M.ok ((us.zip xs).map λz=>.int (z.1*z.2)):=by
  refine iR (p:=λz:Int×Int=>PV.int z.1) (q:=λz:Int×Int=>PV.int z.2) (us.zip xs) λz hz=>?_
  obtain⟨m1,m2⟩:=jC hz
  obtain⟨y,hy,e⟩:=List.mem_map.mp m1
  obtain⟨n1,n2⟩:=jC hy
  have a1:=BR h (ot h hw n1) n2
  rw[e] at a1
  have a2:=ot h hs m2
  dsimp? [bg (k:=80) (l:=64) a1 (show z.2.natAbs<2^64 by omega)]
 have z2:(us.zip xs).length<=sizeLine:=by rw[List.length_zip];exact aX (Nat.le_trans (Nat.min_le_right _ _) (by rw[hs.len];omega))
 have k3:jg [.lst ((ws.zip sizes).map λz=>.int (z.1*(R sizes/z.2))),tI xs,.int (R sizes)]=M.ok (.int (Kk sizes ws xs)):=by
  have e0:bL (.lst ((ws.zip sizes).map λz=>PV.int (z.1*(R sizes/z.2))))=some (us.map PV.int):=by
   rw[qv,List.map_map];rfl
  have e1:yq [.lst ((us.zip xs).map λz=>PV.int (z.1*z.2))]=M.ok (.int ((us.zip xs).map λz=>z.1*z.2).sum):=by
   have:=BL ((us.zip xs).map λz=>z.1*z.2)
   rw[List.map_map] at this
   exact this
  unfold jg jv
  dsimp? [dX (q:=tI xs) us xs e0 rfl,List.length_map,av z2,k2,e1,aW (rT h)]
  rfl
 unfold oF om
 dsimp? [lP (levers:=levers) h hw,lP (levers:=levers) h hs,br,L9,Eh,dX (p:=tI ws) (q:=tI sizes) ws sizes rfl rfl,List.length_map,av z1,k1,k3]
theorem vk(xs:List Int):∀ m,m<=xs.length->(xs.take m).sum=bC m (vf xs)
 | 0,_=>by simp[bC]
 | m+1,h=>by
  rw[bC,← vk xs m (by omega),List.take_succ_eq_append_getElem (by omega),List.sum_append,aS (by omega)];simp
theorem uY(xs:List Int):xs.sum=bC xs.length (vf xs):=by
 rw[← vk xs _ (Nat.le_refl _),List.take_length]
theorem D8{sizes ws xs:List Int}(h1:ws.length=sizes.length)(h2:xs.length=sizes.length):Kk sizes ws xs=dm sizes.length (vf sizes) (R sizes) (vf ws) (vf xs)%R sizes:=by
 unfold Kk dm
 rw[uY]
 have hl:((((ws.zip sizes).map λz=>z.1*(R sizes/z.2)).zip xs).map λz=>z.1*z.2).length=sizes.length:=by simp;omega
 rw[hl]
 congr 1
 refine dZ λi hi=>?_
 rw[aS (by rw[hl];exact hi),aS (by omega),aS (by omega),aS (by omega)]
 simp only[List.getElem_map,List.getElem_zip]
 rw[Int.mul_assoc,Int.mul_comm (R sizes/_),← Int.mul_assoc]
section
variable{ns:List Int}{sizes:List Int}{raw Ls:List (List Int)}{T:List Row}{idle:List (List Int)}
theorem ze(S:Sz sizes):∀ i,i<sizes.length->vf sizes i∣R sizes:=λi hi=>by rw[aS hi];exact Jt S (List.getElem_mem hi)
def uh(sizes:List Int)(T:List Row):List Int:=(sizes.zip (j0 sizes T)).map λz=>z.1/z.2
theorem p_:(uh sizes T).length=sizes.length:=by simp[uh,eW]
theorem xp{i:Nat}(h:i<sizes.length):vf (uh sizes T) i=eQ (vf sizes) (DD T) i:=by
 have e:=oA (R:=T) h
 rw[aS (by rw[eW];exact h)] at e
 rw[aS (by rw[p_];exact h)]
 simp only[uh,List.getElem_map,List.getElem_zip]
 rw[e,← aS h];rfl
theorem H_{n j:Nat}(h:j<n):zV n (j:Int)=some j:=by
 unfold zV;rw[if_pos (by omega),if_pos (by omega)];simp
theorem uE{i j:Nat}{xs:List Int}{v:Int}{env:af}(h:j<xs.length):EV i (xs.map PV.int) (.int v) env (.int (j:Int))=M.ok (.nx (env.set i (some (.ow ((xs.set j v).map PV.int))))):=by
 show (match zV (xs.map PV.int).length (j:Int) with | some j=>_ | none=>_)=_
 rw[List.length_map,H_ h,List.map_set]
theorem pN{xs:List Int}{j i:Nat}{v:Int}(h:i<xs.length):vf (xs.set j v) i=if i=j then v else vf xs i:=by
 rw[aS (by rw[List.length_set];exact h),List.getElem_set,aS h]
 by_cases z:i=j
 ·rw[if_pos z,if_pos z.symm]
 ·rw[if_neg z,if_neg (Ne.symm z)]
theorem BH(x:Int):B8 (M.ok (.int x))=M.ok (.int x):=Eq.trans rfl rfl
theorem pL(Q:kR ns sizes raw Ls T idle){d:Nat}(hd:d<sizes.length):ik (bp [kM sizes Ls T idle,.int (d:Int)]) λp=>∃ W:List Int,p=tI W/\W.length=sizes.length/\(∀ i,i<sizes.length->0<=vf W i/\vf W i<vf sizes i)/\Wk sizes.length (vf sizes) (DD T) (R sizes) d 0 (vf W):=by
 have l6:=Q.S.h6
 have l1:=Q.S.h1
 have g:=Q.st.gd
 have rl:=Q.st.wf.len
 have qd:=ze Q.S
 have q0:=rT Q.S
 have q1:=JY Q.S
 have so:=vG (idle:=idle) Q.S Q.st
 have fl:∀ i,i<sizes.length->0<eQ (vf sizes) (DD T) i/\eQ (vf sizes) (DD T) i<=vf sizes i/\vf sizes i<=360:=λi hi=>⟨(iL g hi).2.1,(iL g hi).2.2,(lV Q.S i hi).2⟩
 have key:bK (bQ 0 1) none (aj bw (ae 0) (ae 1)) ((sizes.zip (j0 sizes T)).map λz=>.tup [.int z.1,.int z.2]) [none,none]=M.ok ((sizes.zip (j0 sizes T)).map λz=>.int (z.1/z.2)):=by
  refine iR (p:=λz:Int×Int=>PV.int z.1) (q:=λz:Int×Int=>PV.int z.2) (sizes.zip (j0 sizes T)) λz hz=>?_
  obtain⟨i,hi,e⟩:=List.mem_iff_getElem.mp (jC hz).2
  rw[eW] at hi
  have e2:=oA (R:=T) hi
  rw[aS (by rw[eW];exact hi),e] at e2
  have p:=g.pos hi
  have:=lV Q.S i hi
  dsimp? [aL (i:=z.1) (j:=z.2) (by omega) (by omega)]
 have zl:(sizes.zip (j0 sizes T)).length<=sizeLine:=by rw[List.length_zip];exact aX (Nat.le_trans (Nat.min_le_left _ _) (by omega))
 have ef:PV.lst ((sizes.zip (j0 sizes T)).map λz=>PV.int (z.1/z.2))=lI (uh sizes T):=by rw[lI,uh,List.map_map];rfl
 have wi:dF [.int (d:Int),.int 0,.int ((sizes.length:Int)-1)]=M.ok (.bl true):=by
  rw[within_int,decide_eq_true (by omega)]
 have e0:Ac (.lst [.int 0]) (.int (sizes.length:Int))=M.ok ((List.replicate sizes.length 0).map PV.int):=by
  rw[Ac,av ⟨by omega,by omega,by rw[Int.toNat_natCast];exact aX (by show 1*sizes.length<=1000;omega)⟩,Int.toNat_natCast,ql,List.map_replicate]
 unfold bp cp
 dsimp? [gF,Ka,br,Eh,wi,lj (m := "steps") rfl,so,dX (p:=tI sizes) (q:=tI (j0 sizes T)) sizes (j0 sizes T) rfl rfl,List.length_map,av zl,key,ef,Ho,e0,JO,ownAt,AE (xs:=uh sizes T) (i:=d) (by rw[p_];exact hd),xp hd,kc (xs:=sizes) (i:=d) hd,aW (i:=eQ (vf sizes) (DD T) d) (j:=vf sizes d) (by have:=fl d hd;omega),uE (i:=4) (xs:=List.replicate sizes.length 0) (j:=d) (by simp;exact hd),vN d (by omega)]
 refine ik.loop (xs:=List.range d) (inj:=λ(i:Nat)=>.int ((d:Int)-1+(i:Int)*-1)) (λzs env=>∃ (c:Nat) (W:List Int) (y5 y6 y7:Option SV),env=[some (.sh (kM sizes Ls T idle)),some (.sh (.int (d:Int))),some (.sh (tI sizes)),some (.sh (lI (uh sizes T))),some (.ow (W.map PV.int)),y5,y6,y7]/\c<=d/\zs=(List.range d).drop c/\W.length=sizes.length/\(∀ i,i<sizes.length->0<=vf W i/\vf W i<vf sizes i)/\Wk sizes.length (vf sizes) (DD T) (R sizes) d (d-c) (vf W)) ⟨0,_,_,_,_,rfl,by omega,rfl,by simp,λi hi=>?_,Wk.start g qd hd λi hi=>?_⟩ ?_ ?_
 ·rw[pN (by simp;exact hi),eE]
  have:=fl i hi
  split
  ·rename_i z;subst z;exact⟨Int.emod_nonneg _ (by omega),Int.emod_lt_of_pos _ (by omega)⟩
  ·omega
 ·rw[pN (by simp;exact hi),eE]
 ·rintro k r env ⟨c,W,y5,y6,y7,rfl,hc,hz,Wl,W0,Wt⟩
  obtain⟨c1,c2,c3⟩:=drop_cons hz.symm
  rw[List.length_range] at c1
  have ek:k=c:=by rw[List.getElem?_range c1] at c2;exact(Option.some.inj c2).symm
  subst ek
  obtain⟨a,ha⟩:∃ a,a=d-1-k:=⟨_,rfl⟩
  have ea:((d:Int)-1+(k:Int)*-1)=(a:Int):=by omega
  have an:a<sizes.length:=by omega
  have fa:=fl a an
  have r1:=Q.st.wf.oP an
  have rk:∀ i,i<sizes.length->0<=vf (row T a).1 i/\vf (row T a).1 i<vf sizes i:=λi hi=>g.je a an i hi
  have we:=A8 (levers:=Ls) Q.S (kU Wl W0) (kU r1 rk)
  rw[D8 Wl r1] at we
  have eq:vf (row T a).1=DD T a:=rfl
  rw[eq] at we
  have p0:0<=dm sizes.length (vf sizes) (R sizes) (vf W) (DD T a)%R sizes:=Int.emod_nonneg _ (by omega)
  have p1:dm sizes.length (vf sizes) (R sizes) (vf W) (DD T a)%R sizes<R sizes:=Int.emod_lt_of_pos _ q0
  have fR:eQ (vf sizes) (DD T) a∣R sizes:=Int.dvd_trans ⟨_,(iL g an).1.symm⟩ (qd a an)
  have s0:0<R sizes/eQ (vf sizes) (DD T) a:=by
   obtain⟨x,hx⟩:=fR
   rw[hx,Int.mul_ediv_cancel_left _ (by omega)]
   rcases Int.lt_trichotomy x 0 with q | q | q
   ·have:=Int.mul_neg_of_pos_of_neg fa.1 q;omega
   ·rw[q] at hx;omega
   ·exact q
  have s1:R sizes/eQ (vf sizes) (DD T) a<=R sizes:=Int.ediv_le_self _ (by omega)
  have tw:PV.tup (W.map PV.int)=tI W:=rfl
  dsimp? [bG,ea,vt,ownAt,sA,gF,Ka,tw,K8,qw (rows:=T) (d:=a) (by omega),ni,we,BH,br,L9,AE (xs:=uh sizes T) (i:=a) (by rw[p_];exact an),xp an,aL (i:=R sizes) (j:=eQ (vf sizes) (DD T) a) (by omega) (by omega),aL (i:=dm sizes.length (vf sizes) (R sizes) (vf W) (DD T a)%R sizes) (j:=R sizes/eQ (vf sizes) (DD T) a) (by omega) (by omega),aW (i:=-(dm sizes.length (vf sizes) (R sizes) (vf W) (DD T a)%R sizes/(R sizes/eQ (vf sizes) (DD T) a))) (j:=eQ (vf sizes) (DD T) a) (by omega),JO,uE (i:=4) (xs:=W) (j:=a) (by omega)]
  refine⟨_,rfl,k+1,_,_,_,_,rfl,by omega,c3.symm,by simpa using Wl,λi hi=>?_,?_⟩
  ·rw[pN (by omega)]
   split
   ·rename_i z;subst z
    have h1:=Int.emod_nonneg (-(dm sizes.length (vf sizes) (R sizes) (vf W) (DD T i)%R sizes/(R sizes/eQ (vf sizes) (DD T) i))) (show eQ (vf sizes) (DD T) i≠0 by omega)
    have h2:=Int.emod_lt_of_pos (-(dm sizes.length (vf sizes) (R sizes) (vf W) (DD T i)%R sizes/(R sizes/eQ (vf sizes) (DD T) i))) fa.1
    omega
   ·exact W0 i hi
  ·rw[show d-(k+1)=a by omega]
   refine Wk.next g q0 qd hd (w:=vf W) (by rw[show a+1=d-k by omega];exact Wt) (by omega) ?_ λi hi OC=>?_
   ·rw[pN (by omega),if_pos rfl]
   ·rw[pN (by omega),if_neg OC]
 ·rintro env ⟨c,W,y5,y6,y7,rfl,hc,hz,Wl,W0,Wt⟩
  have:c=d:=by
   have:=congrArg List.length hz
   rw[List.length_drop,List.length_range] at this
   simp at this;omega
  subst this
  rw[Nat.sub_self] at Wt
  exact⟨_,rfl,W,rfl,Wl,W0,Wt⟩
end
theorem xM(i j:Nat)(env:af)(p q:PV):Iy i j env [p,q]=M.ok (.nx ((env.set i (some (.sh p))).set j (some (.sh q)))):=rfl
theorem Ad(sizes:List Int)(h:Sz sizes):gG [lI sizes]=M.ok (.int (R sizes)):=by
 unfold gG gY
 dsimp? []
 refine eJ sizes (λr env=>∃ acc x y z,env=[some (.sh (lI sizes)),some (.sh (.int (acc:Nat))),x,y,z]/\Acc sizes r acc) ⟨1,_,_,_,rfl,.start h⟩ ?_ ?_
 ·rintro a r env ⟨acc,x,y,z,rfl,A⟩
  obtain⟨A2,e1,e2,e3⟩:=A.turn
  have l1:=A.lt
  have ha:=A.je a List.mem_cons_self
  have g1:Int.gcd acc a<=acc:=Nat.le_of_dvd A.pos (Int.ofNat_dvd.mp (Int.gcd_dvd_left ..))
  have d0:0<=(acc:Int)/(Int.gcd acc a:Nat):=Int.ediv_nonneg (by omega) (by omega)
  refine⟨_,[some (.sh (lI sizes)),some (.sh (.int (Nat.lcm acc a.toNat:Nat))),some (.sh (.int a)),some (.sh (.int (Int.gcd acc a:Nat))),some (.sh (.int 0))],rfl,?_,_,_,_,_,rfl,A2⟩
  dsimp? [Cj,xM]
  refine xm (λenv=>∃ p q:Nat,env=[some (.sh (lI sizes)),some (.sh (.int (acc:Nat))),some (.sh (.int a)),some (.sh (.int p)),some (.sh (.int q))]/\Nat.gcd p q=Int.gcd acc a) (λenv=>match env with
   | [_,_,_,_,some (.sh (.int q))]=>q.toNat
   | _=>0) ⟨acc,a.toNat,by rw[Int.toNat_of_nonneg (by omega)],?_⟩ ?_ ?_
  ·obtain⟨n,rfl⟩:=Int.eq_ofNat_of_zero_le (show 0<=a by omega)
   rfl
  ·rintro env ⟨p,q,rfl,hg⟩
   by_cases h0:(q:Int)=0
   ·exact .inl (by dsimp? [h0,decide_true])
   ·have h0':(0:Int)<q:=by omega
    refine .inr ⟨by dsimp? [h0,decide_false],[some (.sh (lI sizes)),some (.sh (.int (acc:Nat))),some (.sh (.int a)),some (.sh (.int q)),some (.sh (.int ((p%q:Nat):Int)))],?_,⟨q,p%q,rfl,?_⟩,?_⟩
    ·dsimp? [Cj,xM,aW (i:=(p:Int)) h0']
     rfl
    ·rw[← hg,Nat.gcd_comm p q,Nat.gcd_rec q p,Nat.gcd_comm]
    ·show ((p%q:Nat):Int).toNat<(q:Int).toNat
     have:=Nat.mod_lt p (show 0<q by omega)
     omega
  ·rintro MI ⟨p,q,rfl,hg⟩ hu
   have hq:q=0:=by
    revert hu
    dsimp? []
    intro hu
    have:(!decide ((q:Int)=0))=false:=by injection hu with hu;injection hu
    simp at this
    exact this
   subst hq
   rw[Nat.gcd_zero_right] at hg
   subst hg
   dsimp? [aL (i:=(acc:Int)) (show (0:Int)<(Int.gcd acc a:Nat) by omega) (show ((Int.gcd acc a:Nat):Int)<2^64 by omega),bg (k:=64) (l:=64) (show ((acc:Int)/(Int.gcd acc a:Nat)).natAbs<2^64 by omega) (show a.natAbs<2^64 by omega),e1]
   rfl
 ·rintro MI ⟨acc,x,y,z,rfl,A⟩
  dsimp? []
  have:=A.val
  rw[R,← this];rfl
theorem mT{sizes W ys:List Int}{q:PV}(S:Sz sizes)(Wl:W.length=sizes.length)(W0:∀ x∈W,0<=x/\x<360)(yl:ys.length=sizes.length)(yb:Bd 200 ys)(hq:bL q=some (ys.map PV.int)):dz [lI sizes,tI W,q]=M.ok (.int (dm sizes.length (vf sizes) (R sizes) (vf W) (vf ys)%R sizes)):=by
 have l6:=S.h6
 let tm:Int×Int×Int->Int:=λz=>z.1*z.2.1*(R sizes/z.2.2)
 have et:((W.zip (ys.zip sizes)).map tm).sum=dm sizes.length (vf sizes) (R sizes) (vf W) (vf ys):=by
  have hl:((W.zip (ys.zip sizes)).map tm).length=sizes.length:=by simp;omega
  rw[uY,hl]
  refine dZ λi hi=>?_
  rw[aS (by rw[hl];exact hi),aS (by omega),aS (by omega),aS (by omega)]
  simp[tm]
 rw[← et]
 refine ik.eq ?_
 unfold dz eV
 dsimp? [Ad sizes S,uR (p:=tI W) (q:=q) (r:=lI sizes) W ys sizes rfl hq rfl]
 refine ik.loop (xs:=W.zip (ys.zip sizes)) (inj:=λz=>.tup [.int z.1,.int z.2.1,.int z.2.2]) (λzs env=>∃ (t:Int) (y5 y6 y7:Option SV),env=[some (.sh (lI sizes)),some (.sh (tI W)),some (.sh q),some (.sh (.int (R sizes))),some (.sh (.int t)),y5,y6,y7]/\t+(zs.map tm).sum=((W.zip (ys.zip sizes)).map tm).sum/\∀ z∈zs,z∈W.zip (ys.zip sizes)) ⟨0,_,_,_,rfl,by omega,λz h=>h⟩ ?_ ?_
 ·rintro z r env ⟨t,y5,y6,y7,rfl,ht,hz⟩
  obtain⟨m1,m2⟩:=List.of_mem_zip (a:=z.1) (b:=z.2) (hz z List.mem_cons_self)
  obtain⟨m3,m4⟩:=List.of_mem_zip (a:=z.2.1) (b:=z.2.2) m2
  have a1:=W0 _ m1;have a2:=yb _ m3;have a3:=oX S m4;have a4:=S.hx _ m4
  have a5:(z.1*z.2.1).natAbs<2^210:=by
   rw[Int.natAbs_mul]
   have:z.1.natAbs*z.2.1.natAbs<=2^9*2^200:=Nat.mul_le_mul (by omega) (by omega)
   exact Nat.lt_of_le_of_lt this (by decide)
  dsimp? [nh,aL (i:=R sizes) (j:=z.2.2) (by omega) (by omega),bg (k:=64) (l:=200) (show z.1.natAbs<2^64 by omega) a2,bg (k:=210) (l:=64) a5 (show (R sizes/z.2.2).natAbs<2^64 by omega)]
  refine⟨_,rfl,t+tm z,_,_,_,rfl,?_,λz h=>hz z (List.mem_cons_of_mem _ h)⟩
  rw[← ht,List.map_cons,List.sum_cons];omega
 ·rintro env ⟨t,y5,y6,y7,rfl,ht,_⟩
  dsimp? [aW (i:=t) (j:=R sizes) (rT S)]
  simp at ht
  subst ht
  exact⟨_,rfl,rfl⟩
section
variable{ns:List Int}{sizes:List Int}{raw Ls:List (List Int)}{T:List Row}{idle:List (List Int)}
theorem Kf:rn ay "levers" bf (dY sizes Ls) (M.ok [])=M.ok (.tup (Ls.map tI)):=(kA (fl:=p5 sizes Ls) rfl).trans (sv sizes Ls)
def ad(sizes xs ys:List Int)(t:Int):List Int:=wL ((xs.zip ys).map λz=>z.1+t*z.2) sizes
theorem Af{xs ys:List Int}{t:Int}(S:Sz sizes)(h1:xs.length=sizes.length)(h2:ys.length=sizes.length):(ad sizes xs ys t).length=sizes.length/\∀ i,i<sizes.length->vf (ad sizes xs ys t) i=(vf xs i+t*vf ys i)%vf sizes i:=by
 have hl:((xs.zip ys).map λz=>z.1+t*z.2).length=sizes.length:=by simp;omega
 refine⟨by rw[ad,ue,iX,hl];simp,λi hi=>?_⟩
 rw[ad,ue,jq (by rw[hl];exact hi) hi,aS (by rw[hl];exact hi),aS (xs:=xs) (by omega),aS (xs:=ys) (by omega)]
 simp
theorem zm{xs ys:List Int}{t:Int}(S:Sz sizes)(h1:xs.length=sizes.length)(hy:Bd 200 ys)(ht:t.natAbs<2^200):oG [dY sizes Ls,tI xs,tI ys,.int t]=M.ok (tI (ad sizes xs ys t)):=by
 have l6:=S.h6
 have k1:bK (bQ 0 1) none (aj fE (ae 0) (aj bY (ae 2) (ae 1))) ((xs.zip ys).map λz=>.tup [.int z.1,.int z.2]) [none,none,some (.sh (.int t))]=M.ok ((xs.zip ys).map λz=>.int (z.1+t*z.2)):=by
  refine iR (p:=λz:Int×Int=>PV.int z.1) (q:=λz:Int×Int=>PV.int z.2) (xs.zip ys) λz hz=>?_
  dsimp? [bg (k:=200) (l:=200) ht (hy _ (jC hz).2)]
 have z1:(xs.zip ys).length<=sizeLine:=by rw[List.length_zip];exact aX (Nat.le_trans (Nat.min_le_left _ _) (by omega))
 have e0:bL (.lst ((xs.zip ys).map λz=>PV.int (z.1+t*z.2)))=some (((xs.zip ys).map λz=>z.1+t*z.2).map PV.int):=by
  rw[qv,List.map_map];rfl
 have r:=qf (.lst ((xs.zip ys).map λz=>PV.int (z.1+t*z.2))) (tI sizes) _ sizes e0 rfl (qu S) (by rw[List.length_map,List.length_zip];omega)
 unfold oG oy
 dsimp? [dX (p:=tI xs) (q:=tI ys) xs ys rfl rfl,List.length_map,av z1,k1,br,Eh,r]
 rfl
structure Ws (sizes:List Int) (T:List Row) (d:Nat) (W:List Int):Prop where
 len:W.length=sizes.length
 je:∀ i,i<sizes.length->0<=vf W i/\vf W i<vf sizes i
 wk:Wk sizes.length (vf sizes) (DD T) (R sizes) d 0 (vf W)
theorem Ws.kill(Q:kR ns sizes raw Ls T idle){d:Nat}{W:List Int}(h:Ws sizes T d W){v:bJ}(g:G sizes.length (vf sizes) (DD T) sizes.length 0 v):R sizes∣dm sizes.length (vf sizes) (R sizes) (vf W) v :=
 vz (ze Q.S) sizes.length 0 v (by omega) (λb _ hb=>h.wk.kill b (Nat.zero_le _) hb) g
end
section
variable{ns:List Int}{sizes:List Int}{raw Ls:List (List Int)}{T:List Row}{idle:List (List Int)}
def Kp(sizes xs:List Int):Prop:=xs.length=sizes.length/\∀ i,i<sizes.length->0<=vf xs i/\vf xs i<vf sizes i
theorem Kp.Gf{xs:List Int}(h:Kp sizes xs):CM sizes xs:=kU h.1 h.2
theorem Kp.bd(S:Sz sizes){xs:List Int}(h:Kp sizes xs):Bd 200 xs:=wY S h.1 h.2
theorem rK(S:Sz sizes){xs ys:List Int}{t:Int}(h1:xs.length=sizes.length)(h2:ys.length=sizes.length):Kp sizes (ad sizes xs ys t)/\∀ i,i<sizes.length->vf sizes i∣vf (ad sizes xs ys t) i-(vf xs i+t*vf ys i):=by
 obtain⟨a,b⟩:=Af (t:=t) S h1 h2
 refine⟨⟨a,λi hi=>?_⟩,λi hi=>?_⟩
 ·have:=lV S i hi
  rw[b i hi]
  exact⟨Int.emod_nonneg _ (by omega),Int.emod_lt_of_pos _ this.1⟩
 ·rw[b i hi]
  have:=Int.emod_def (vf xs i+t*vf ys i) (vf sizes i)
  exact⟨-((vf xs i+t*vf ys i)/vf sizes i),by rw[this];grind⟩
theorem oY(S:Sz sizes){one other:List Int}(h1:Kp sizes one)(h2:Kp sizes other):jd [dY sizes Ls,tI one,tI other]=M.ok (tI (ad sizes other one (-1))):=by
 unfold jd i7
 dsimp? [lP (levers:=Ls) S h1.Gf,lP (levers:=Ls) S h2.Gf,zm (Ls:=Ls) S h2.1 (h1.bd S) (show (-1:Int).natAbs<2^200 by decide)]
def Ge(P:List Int):List (Str×PV):=[("pulls", tI P)]
def GS(W:List Int):List (Str×PV):=[("weights", tI W)]
def way(P:List Int):PV:=.obj eH (Ge P)
def bar(W:List Int):PV:=.obj eP (GS W)
theorem GY(P:List Int):cY eH ph [] [tI P]=M.ok (way P):=by
 have key:∀ a,ph a ([tI P]++[])=M.ok (Ge P):=by
  intro a
  unfold ph k8
  simp only[l7]
  rw[av (show ([tI P]++([]:List PV)).length+1=2 from rfl)]
  simp only[qL,uV]
  dsimp? [jx]
  rw[gZ _ _ _ _ _ _ (by simp)]
  dsimp? []
  show cD _ _=_
  rw[av ⟨rfl,rfl⟩]
  rfl
 unfold cY
 rw[tK key];rfl
theorem HY(W:List Int):cY eP pK [] [tI W]=M.ok (bar W):=by
 have key:∀ a,pK a ([tI W]++[])=M.ok (GS W):=by
  intro a
  unfold pK k6
  simp only[l7]
  rw[av (show ([tI W]++([]:List PV)).length+1=2 from rfl)]
  simp only[qL,uV]
  dsimp? [jx]
  rw[gZ _ _ _ _ _ _ (by simp)]
  dsimp? []
  show cD _ _=_
  rw[av ⟨rfl,rfl⟩]
  rfl
 unfold cY
 rw[tK key];rfl
theorem AL{L:List Int}(hl:L.length<=1000){c:Nat}(hc:c<L.length)(h0:∀ i,i<c->vf L i=0)(h1:vf L c≠0):fb [tI L]=M.ok (.int (c:Int)):=by
 have key:bK (bG 0) none (aj mM (ae 0) (λ_=>M.ok (.int 0))) (L.map PV.int) [none]=M.ok ((L.map λx=>!decide (x=0)).map PV.bl):=by
  rw[List.map_map]
  refine gv (inj:=PV.int) L λx _=>?_
  dsimp? []
  rfl
 have ef:(L.map λx=>!decide (x=0)).findIdx? (·==true)=some c:=by
  rw[List.findIdx?_eq_some_iff_getElem]
  refine⟨by simpa using hc,?_,λj hj=>?_⟩
  ·rw[aS hc] at h1
   simpa using h1
  ·have:=h0 j hj
   rw[aS (by omega)] at this
   simpa using this
 have e1:Fp (.lst ((L.map λx=>!decide (x=0)).map PV.bl)) (.bl true)=M.ok (.int (c:Int)):=by
  show fe ((wm ((L.map λx=>!decide (x=0)).map PV.bl)).bind λbs=>(bs.findIdx? (·==true)).map λ(j:Nat)=>PV.int (j:Int))=_
  rw[o5,Option.bind_some,ef];rfl
 unfold fb fc
 dsimp? [zW,List.length_map,av (aX hl),key,J4,e1]
theorem vn(Q:kR ns sizes raw Ls T idle){one other:List Int}(h1:Kp sizes one)(h2:Kp sizes other) :
  (G sizes.length (vf sizes) (DD T) sizes.length 0 (vf (ad sizes other one (-1)))/\kd [dY sizes Ls,tI one,tI other]=M.ok (way (told sizes Ls T idle (ad sizes other one (-1)))))
  \/ (¬ G sizes.length (vf sizes) (DD T) sizes.length 0 (vf (ad sizes other one (-1)))/\∃ (c:Nat) (W:List Int),c<sizes.length/\Ws sizes T c W/\kd [dY sizes Ls,tI one,tI other]=M.ok (bar W)/\¬ R sizes∣dm sizes.length (vf sizes) (R sizes) (vf W) (vf (ad sizes other one (-1)))):=by
 have S:=Q.S
 have m8:=Q.m8
 have l6:=S.h6
 have bt:=oY (Ls:=Ls) S h1 h2
 obtain⟨⟨dl,d0⟩,_⟩:=rK (t:=-1) S h2.1 h1.1
 generalize ad sizes other one (-1)=d at *
 obtain⟨b1,b2,b3,b4⟩:=g9 Q.st dl d0
 by_cases z:lst sizes Ls T d=List.replicate sizes.length 0
 ·have gx:G sizes.length (vf sizes) (DD T) sizes.length 0 (vf d):=G.ext (by omega) (λi hi=>by rw[z,eE];omega) b4
  obtain⟨et,_⟩:=lX (k:=Ls.length+1) S m8 Q.st (by omega) Q.I (kU dl d0) d0 gx
  refine .inl ⟨gx,?_⟩
  unfold kd lW
  dsimp? [bt,Q.Aw,br,lj (m := "pulls_to") rfl,et,show ∀ xs:List Int,kn (tI xs) .cR=M.ok (.bl true) from λ_=>rfl,GY]
 ·have ng:¬ G sizes.length (vf sizes) (DD T) sizes.length 0 (vf d):=λgx=>z (by
   refine mj (by simpa using b1) λi hi=>?_
   have g:=Q.st.gd.sub (by omega) gx b4
   have:=G.diff Q.st.gd sizes.length 0 (λi=>vf (lst sizes Ls T d) i) (by omega) (λi hi=>by have:=b3 i hi;omega) (λi _ hi=>by have:=b2 i hi;omega) (G.ext (by omega) (λi _=>by omega) g) i (by omega)
   rw[eE];exact this)
  have ex:∃ c,c<sizes.length/\(∀ i,i<c->vf (lst sizes Ls T d) i=0)/\vf (lst sizes Ls T d) c≠0:=by
   have:¬ ∀ c,c<=sizes.length->∀ i,i<c->vf (lst sizes Ls T d) i=0:=λh=>z (mj (by simpa using b1) λi hi=>by rw[eE];exact h sizes.length (Nat.le_refl _) i (by omega))
   apply Classical.byContradiction
   intro no
   refine this λc=>?_
   induction c with
   | zero=>intro _ i hi;omega
   | succ c ih =>
    intro hc i hi
    have ih:=ih (by omega)
    rcases Nat.lt_succ_iff_lt_or_eq.mp hi with q | q
    ·exact ih i q
    ·subst q
     apply Classical.byContradiction
     intro OC
     exact no ⟨i,by omega,ih,OC⟩
  obtain⟨c,hc,c0,c1⟩:=ex
  obtain⟨_,e,W,rfl,w1,w2,w3⟩:=pL Q hc
  have w:Ws sizes T c W:=⟨w1,w2,w3⟩
  refine .inr ⟨ng,c,W,hc,w,?_,λhd=>?_⟩
  ·unfold kd lW
   dsimp? [bt,Q.Aw,br,lj (m := "pulls_to") rfl,Al S m8 Q.st (show Ls.length+1<=9 by omega) dl d0 z,show kn .cR .cR=M.ok (.bl false) from rfl,lj (m := "least") rfl,pd (idle:=idle) S m8 Q.st (show Ls.length+1<=9 by omega) dl d0,AL (L:=lst sizes Ls T d) (by omega) (c:=c) (by omega) c0 c1,lj (m := "weights_at") rfl,e,HY]
  ·have a:=b2 c hc
   have sp:=jn (n:=sizes.length) (s:=vf sizes) (Q:=R sizes) (w:=vf W) 1 1 (x:=vf d) (v:=λi=>vf d i-vf (lst sizes Ls T d) i) (u:=vf (lst sizes Ls T d)) λi _=>by omega
   rw[sp,Int.one_mul,Int.one_mul] at hd
   exact Wk.first Q.st.gd (rT S) (ze S) hc w3 c0 (by omega) a.2 ((Int.dvd_add_right (w.kill Q b4)).mp hd)
end
section
variable{ns:List Int}{sizes:List Int}{raw Ls:List (List Int)}{T:List Row}{idle:List (List Int)}{P W:List Int}{m:Str}{s1 s2:List PV->M PV}{x:M (List PV)}
theorem Mz:w8 (λc=>c==eH) "pulls" (way P)=M.ok (tI P):=jY (beq_self_eq_true _) rfl
theorem Me:w8 (λc=>c==eP) "weights" (bar W)=M.ok (tI W):=jY (beq_self_eq_true _) rfl
def Bl(sizes:List Int)(T:List Row)(one other:List Int):Prop:=G sizes.length (vf sizes) (DD T) sizes.length 0 (vf (ad sizes other one (-1)))
theorem nq(Q:kR ns sizes raw Ls T idle){xs:List Int}(h:Kp sizes xs):ic [dY sizes Ls,tI xs]=M.ok (tI (lst sizes Ls T xs)):=by
 unfold ic jj
 dsimp? [Q.Aw,br,lj (m := "least") rfl,pd (idle:=idle) Q.S Q.m8 Q.st (show Ls.length+1<=9 by have:=Q.m8;omega) h.1 h.2]
theorem A4(Q:kR ns sizes raw Ls T idle){one other:List Int}(h1:Kp sizes one)(h2:Kp sizes other):Bl sizes T one other ↔ G sizes.length (vf sizes) (DD T) sizes.length 0 (λi=>vf other i-vf one i):=by
 obtain⟨_,a⟩:=rK (t:=-1) Q.S h2.1 h1.1
 constructor
 ·intro g
  refine Q.st.gd.lL (by omega) (λi hi=>?_) g
  obtain⟨x,hx⟩:=a i hi
  exact⟨-x,by rw[Int.mul_neg,← hx];omega⟩
 ·intro g
  refine Q.st.gd.lL (by omega) (λi hi=>?_) g
  obtain⟨x,hx⟩:=a i hi
  exact⟨x,by rw[← hx];omega⟩
theorem Bj(Q:kR ns sizes raw Ls T idle){d:List Int}(h:Kp sizes d):lst sizes Ls T d=List.replicate sizes.length 0 ↔ G sizes.length (vf sizes) (DD T) sizes.length 0 (vf d):=by
 obtain⟨b1,b2,b3,b4⟩:=g9 Q.st h.1 h.2
 constructor
 ·intro z
  exact G.ext (by omega) (λi hi=>by rw[z,eE];omega) b4
 ·intro gx
  refine mj (by simpa using b1) λi hi=>?_
  have g:=Q.st.gd.sub (by omega) gx b4
  have:=G.diff Q.st.gd sizes.length 0 (λi=>vf (lst sizes Ls T d) i) (by omega) (λi hi=>by have:=b3 i hi;omega) (λi _ hi=>by have:=b2 i hi;omega) (G.ext (by omega) (λi _=>by omega) g) i (by omega)
  rw[eE];exact this
theorem BF(Q:kR ns sizes raw Ls T idle){one other:List Int}(h1:Kp sizes one)(h2:Kp sizes other):lst sizes Ls T one=lst sizes Ls T other ↔ Bl sizes T one other:=by
 rw[A4 Q h1 h2]
 obtain⟨_,_,_,b4⟩:=g9 Q.st h1.1 h1.2
 obtain⟨_,_,_,c4⟩:=g9 Q.st h2.1 h2.2
 constructor
 ·intro e
  rw[e] at b4
  exact G.ext (by omega) (λi hi=>by omega) (Q.st.gd.sub (by omega) c4 b4)
 ·intro g
  exact(Ic Q.st h2.1 h2.2 h1.1 h1.2 g).symm
theorem zk(Q:kR ns sizes raw Ls T idle){one other:List Int}(h1:Kp sizes one)(h2:Kp sizes other):∃ b:Bool,lU [dY sizes Ls,tI one,tI other]=M.ok (.bl b)/\(b=true ↔ Bl sizes T one other):=by
 obtain⟨ak,_⟩:=rK (t:=-1) Q.S h2.1 h1.1
 refine⟨decide (lst sizes Ls T (ad sizes other one (-1))=List.replicate sizes.length 0),?_,?_⟩
 ·unfold lU ly
  dsimp? [oY (Ls:=Ls) Q.S h1 h2,Q.Aw,br,lj (m := "least") rfl,pd (idle:=idle) Q.S Q.m8 Q.st (show Ls.length+1<=9 by have:=Q.m8;omega) ak.1 ak.2,ja (Ls:=Ls) Q.S.h6,tD]
 ·rw[decide_eq_true_iff]
  exact Bj Q ak
theorem oh{xs:List Int}(hx:∀ x∈xs,0<x/\x<2^60):∀ c,c<=xs.length->0<aE c (vf xs)/\aE c (vf xs)<2^(60*c+1)
 | 0,_=>⟨show (0:Int)<1 by decide,show (1:Int)<2^1 by decide⟩
 | c+1,h=>by
  obtain⟨a,b⟩:=oh hx c (by omega)
  have q:=hx (vf xs c) (by rw[aS (by omega)];exact List.getElem_mem _)
  show 0<aE c (vf xs)*vf xs c/\aE c (vf xs)*vf xs c<_
  refine⟨Int.mul_pos a q.1,?_⟩
  have e:(2:Int)^(60*(c+1)+1)=2^(60*c+1)*2^60:=by rw[show 60*(c+1)+1=60*c+1+60 by omega,Int.pow_add]
  rw[e]
  exact Int.lt_of_lt_of_le (Int.mul_lt_mul_of_pos_right b q.1) (Int.mul_le_mul_of_nonneg_left (by omega) (Int.le_of_lt (Int.lt_trans a b)))
theorem pO{a:Int}{k:Nat}(h:0<a/\a<2^k):a.natAbs<2^k:=by
 have:(a.natAbs:Int)<((2^k:Nat):Int):=by
  rw[Int.natAbs_of_nonneg (by omega)];push_cast;exact h.2
 exact Int.ofNat_lt.mp this
theorem qh{xs:List Int}(hl:xs.length<=8)(hx:∀ x∈xs,0<x/\x<2^60):fu [tI xs]=M.ok (.int (aE xs.length (vf xs))):=by
 refine ik.eq ?_
 unfold fu eX
 dsimp? []
 refine ik.loop (xs:=xs) (inj:=PV.int) (λzs env=>∃ (c:Nat) (y:Option SV),env=[some (.sh (tI xs)),some (.sh (.int (aE c (vf xs)))),y]/\zs=xs.drop c/\c<=xs.length) ⟨0,_,rfl,rfl,by omega⟩ ?_ ?_
 ·rintro a r env ⟨c,y,rfl,hd,hc⟩
  obtain⟨c1,c2,c3⟩:=drop_cons hd.symm
  rw[List.getElem?_eq_getElem c1] at c2
  have e2:xs[c]=a:=Option.some.inj c2
  have ha:=hx a (by rw[← e2];exact List.getElem_mem _)
  have b:=pO (oh hx c hc)
  have b':(aE c (vf xs)).natAbs<2^490:=Nat.lt_of_lt_of_le b (Nat.pow_le_pow_right (by decide) (by omega))
  have ep:aE c (vf xs)*a=aE (c+1) (vf xs):=by show _=aE c (vf xs)*vf xs c;rw[aS c1,e2]
  dsimp? [bG,bg (i:=aE c (vf xs)) (j:=a) (k:=490) (l:=60) b' (pO ha),ep]
  exact⟨_,rfl,c+1,_,rfl,c3.symm,by omega⟩
 ·rintro env ⟨c,y,rfl,hd,hc⟩
  have:=congrArg List.length hd
  rw[List.length_drop] at this
  simp at this
  obtain rfl:c=xs.length:=by omega
  dsimp? []
  exact⟨_,rfl,rfl⟩
theorem vI(Q:kR ns sizes raw Ls T idle):(CN idle).length=Ls.length/\(∀ x∈CN idle,0<x/\x<2^60)/\aE Ls.length (vf (CN idle))=aE Ls.length λj=>II idle j j:=by
 have il:=Q.I.len
 refine⟨by rw[oB,il],λx hx=>?_,dM λj hj=>Ap (by omega)⟩
 obtain⟨i,hi,rfl⟩:=List.mem_iff_getElem.mp hx
 rw[oB,il] at hi
 have:=Ap (idle:=idle) (i:=i) (by omega)
 rw[aS (by rw[oB];omega)] at this
 rw[this]
 exact⟨Q.I.pos i hi,Q.I.le i hi⟩
theorem mZ(Q:kR ns sizes raw Ls T idle):cT [dY sizes Ls]=M.ok (.int (aE Ls.length λj=>II idle j j)):=by
 obtain⟨a,b,c⟩:=vI Q
 have p:=qh (xs:=CN idle) (by have:=Q.m8;omega) b
 rw[a,c] at p
 unfold cT dO
 dsimp? [Q.Aw,br,lj (m := "spans") rfl,yi (R:=T) Q.m8 Q.I,p]
theorem uU(Q:kR ns sizes raw Ls T idle):(∀ x∈j0 sizes T,0<x/\x<2^60)/\aE sizes.length (vf (j0 sizes T))=aE sizes.length (aQ (vf sizes) (DD T)):=by
 refine⟨λx hx=>?_,dM λj hj=>oA hj⟩
 obtain⟨i,hi,rfl⟩:=List.mem_iff_getElem.mp hx
 rw[eW] at hi
 have:=oA (sizes:=sizes) (R:=T) hi
 rw[aS (by rw[eW];exact hi)] at this
 rw[this]
 have a:=Q.st.gd.pos hi
 have b:=lV Q.S i hi
 omega
theorem vJ(Q:kR ns sizes raw Ls T idle):dU [dY sizes Ls]=M.ok (.int (aE sizes.length (aQ (vf sizes) (DD T)))):=by
 obtain⟨b,c⟩:=uU Q
 have p:=qh (xs:=j0 sizes T) (by rw[eW];have:=Q.S.h6;omega) b
 rw[eW,c] at p
 unfold dU fX
 dsimp? [Q.Aw,br,lj (m := "steps") rfl,vG (idle:=idle) Q.S Q.st,p]
theorem sd(L:List (Addr×(List PV->M PV)))(m:Str)(g:af->M PV)(fs:af->M (List PV))(env:af):j3 L m g fs env=(g env).bind λp=>p4 L m p (fs env):=rfl
theorem rR{L:List (Addr×(List PV->M PV))}{C:Addr}{fl:List (Str×PV)}(e:L.lookup C=some s1)(h:fl.lookup m=none):p4 L m (.obj C fl) x=x.bind λps=>s1 (.obj C fl::ps):=by
 show cD _ _=_
 rw[av ⟨by rw[e];rfl,h⟩]
 unfold Ky
 rw[e]
theorem xN(h:(Ge P).lookup m=none):p4 [(eH,s1),(eP,s2)] m (way P) x=x.bind λps=>s1 (way P::ps):=rR rfl h
theorem xO(h:(GS W).lookup m=none):p4 [(eH,s1),(eP,s2)] m (bar W) x=x.bind λps=>s2 (bar W::ps):=rR rfl h
theorem Mn:gH [way P]=M.ok (.bl true):=by
 unfold gH gO
 dsimp? []
theorem Md(p:PV):eU [p]=M.ok (.bl false):=by
 unfold eU e9
 dsimp? []
theorem Mw:iI [way P]=M.ok (.tup [.str "pulls", tI P]):=by
 unfold iI iz
 dsimp? [gF,Mz]
theorem bwd:iD [bar W]=M.ok (.tup [.str "weights", tI W]):=by
 unfold iD iy
 dsimp? [gF,Me]
theorem three{c:Int}:c%3=0\/c%3=1\/c%3=2:=by omega
theorem wH(Q:kR ns sizes raw Ls T idle)(k:Nat)(hk:k<100)(a:Int){one:List Int}(h1:Kp sizes one):∃ o0 o1 o2:List Int,Kp sizes o0/\Kp sizes o1/\Kp sizes o2/\G sizes.length (vf sizes) (DD T) sizes.length 0 (vf (ad sizes o0 one (-1)))
  /\ (∃ P:List Int,e_ [.int (a/5+(k:Int)),.int (raw.length:Int)]=M.ok (tI P)/\ck [lI sizes,.lst (raw.map lI),tI one,tI P]=M.ok (tI o0))
  /\ (∃ c,cB [.jO (ns.map PV.int),.int (40+(k:Int))]=M.ok (.int c)/\cV [.int c,lI sizes]=M.ok (tI o1))
  /\ (∃ us:List PV,bK (bG 0) none (ai sx (aa (aj kr (ae 0) (aj cP (aj bw (ae 2) (λ_=>M.ok (.int 3))) (ai dP (aa (ae 1) ao)))) ao)) ((List.range sizes.length).map λ(i:Nat)=>.int (i:Int)) [none,some (.sh (lI sizes)),some (.sh (.int a))]=M.ok us/\c9 [lI sizes,tI o0,.lst us,.int 1]=M.ok (tI o2)):=by
 have S:=Q.S
 have l6:=S.h6
 have l1:=S.h1
 have m8:=Q.m8
 have hm:=Q.hm
 obtain⟨_,ep,P,rfl,Pl,Pb⟩:=zu (a/5+(k:Int)) raw.length (by omega)
 have Pb:=Pb.mono (show 199<=200 by omega)
 obtain⟨F,eF,Fl,F0,Fd⟩:=rV (.inr rfl) (p1:=.lst (raw.map lI)) rfl (q:=tI one) (p2:=tI P) (qu S) l6 h1.1 rfl h1.2 Q.hr Pb Pl rfl
 obtain⟨c,ec⟩:=oz ns (40+k)
 rw[Int.natCast_add,show ((40:Nat):Int)=40 from rfl] at ec
 obtain⟨_,e1,o1,rfl,o1l,o10⟩:=mO S c
 have hF:Kp sizes F:=⟨Fl,F0⟩
 obtain⟨j,hj⟩:=Int.eq_ofNat_of_zero_le (Int.emod_nonneg (a/3) (show (sizes.length:Int)≠0 by omega))
 have em:cP (.int (a/3)) (.int (sizes.length:Int))=M.ok (.int (j:Int)):=by rw[aW (by omega),hj]
 have ku:bK (bG 0) none (ai sx (aa (aj kr (ae 0) (aj cP (aj bw (ae 2) (λ_=>M.ok (.int 3))) (ai dP (aa (ae 1) ao)))) ao)) ((List.range sizes.length).map λ(i:Nat)=>.int (i:Int)) [none,some (.sh (lI sizes)),some (.sh (.int a))]=M.ok ((List.range sizes.length).map λ(i:Nat)=>.int (if (i:Int)=(j:Int) then 1 else 0)):=by
  refine gv (inj:=λ(i:Nat)=>PV.int (i:Int)) (List.range sizes.length) λi hi=>?_
  have e:sx [.bl (decide ((i:Int)=(j:Int)))]=M.ok (.int (if (i:Int)=(j:Int) then 1 else 0)):=by
   by_cases q:(i:Int)=(j:Int)
   ·rw[decide_eq_true q,if_pos q];rfl
   ·rw[decide_eq_false q,if_neg q];rfl
  dsimp? [aL (i:=a) (j:=3) (by decide) (by decide),em,e]
 let us:=(List.range sizes.length).map λ(i:Nat)=>(if (i:Int)=(j:Int) then (1:Int) else 0)
 have ul:us.length=sizes.length:=by simp[us]
 have ub:Bd 200 us:=λx hx=>by
  obtain⟨i,_,rfl⟩:=List.mem_map.mp hx
  split <;> decide
 have eu:PV.lst ((List.range sizes.length).map λ(i:Nat)=>PV.int (if (i:Int)=(j:Int) then 1 else 0))=lI us:=by rw[lI,List.map_map];rfl
 have ea:=vq (sizes:=sizes) (xs:=F) (ys:=us) (t:=1) (q:=lI us) (qu S) l6 Fl rfl ub (by decide)
 obtain⟨k1,k2,_⟩:=v5 S (t:=1) Fl ul
 obtain⟨_,ac⟩:=rK (t:=-1) S Fl h1.1
 have led:Led sizes.length (vf sizes) Ls.length (AA Ls) (λi=>vf F i-vf one i) (vf P):=λi hi=>by
  obtain⟨x,hx⟩:=Fd i hi
  obtain⟨y,hy⟩:=Dy (m:=Ls.length) (P:=vf P) (B:=λl=>vf (raw.getD l []) i) (C:=λl=>AA Ls l i) (s:=vf sizes i) λl hl=>by
   rw[Q.eA l (by omega) i hi];exact i5 _ _
  rw[hm] at hx
  exact⟨x+y,by rw[Int.mul_add,← hx,← hy];show vf F i-vf one i-_=_;omega⟩
 have g:G sizes.length (vf sizes) (DD T) sizes.length 0 (vf (ad sizes F one (-1))):=Q.st.gd.lL (by omega) (λi hi=>by
  obtain⟨y,hy⟩:=ac i hi
  exact⟨y,by omega⟩) (JW Q.st (by omega) led)
 exact⟨F,o1,_,hF,⟨o1l,o10⟩,⟨k1,k2⟩,g,⟨P,ep,eF⟩,⟨c,ec,e1⟩,⟨_,ku,by rw[eu];exact ea⟩⟩
end
theorem DL{α:Type}{t:af->M Bool}{f:af->M PV}{inj h:α->PV}{b:α->Bool}{rest:af}{x0:Option SV}(xs:List α)(Ht:∀ a∈xs,t (some (.sh (inj a))::rest)=M.ok (b a))(H:∀ a∈xs,f (some (.sh (inj a))::rest)=M.ok (h a)):bK (bG 0) (some t) f (xs.map inj) (x0::rest)=M.ok ((xs.filter b).map h):=by
 induction xs generalizing x0 with
 | nil=>rfl
 | cons a r ih =>
  have i:=ih (x0:=some (.sh (inj a))) (λc hc=>Ht c (List.mem_cons_of_mem _ hc)) λc hc=>H c (List.mem_cons_of_mem _ hc)
  rw[List.map_cons,bK]
  show M.bind (M.ok ((x0::rest).set 0 (some (.sh (inj a))))) _=_
  rw[M.aO,List.set_cons_zero]
  show M.bind (t _) _=_
  rw[Ht a List.mem_cons_self,M.aO]
  cases e:b a with
  | true=>rw[if_pos rfl,H a List.mem_cons_self,M.aO,i,List.filter_cons_of_pos e];rfl
  | false=>rw[if_neg (by simp),i,List.filter_cons_of_neg (by simp[e])]
section
variable{ns:List Int}{sizes:List Int}{raw Ls Nj:List (List Int)}{T T':List Row}{idle M0:List (List Int)}{P W:List Int}
theorem DV(h:T.length<=1000):gX [kM sizes Ls T idle]=M.ok (.lst (T.map λr=>tI r.1)):=by
 have key:bK (bG 0) none (aj aT (ae 0) (λ_=>M.ok (.int 0))) (T.map mk) [none]=M.ok (T.map λr=>tI r.1):=gv T λr _=>by dsimp? [show aT (mk r) (.int 0)=M.ok (tI r.1) from bD (j:=0) rfl rfl]
 unfold gX gD
 dsimp? [gF,K8,List.length_map,av (aX h),key]
def nz(n:Nat)(T:List Row):List (List Int):=(T.filter λr=>!decide (r.1=List.replicate n 0)).map (·.1)
theorem Bi{n:Nat}{l:List Int}(h:l∈nz n T):∃ d,d<T.length/\(row T d).1=l:=by
 obtain⟨r,hr,rfl⟩:=List.mem_map.mp h
 obtain⟨d,hd,e⟩:=List.mem_iff_getElem.mp (List.mem_filter.mp hr).1
 exact⟨d,hd,by rw[hU hd,e]⟩
theorem HI{n d:Nat}(h:d<T.length)(z:(row T d).1≠List.replicate n 0):(row T d).1∈nz n T :=
 List.mem_map.mpr ⟨row T d,List.mem_filter.mpr ⟨by rw[hU h];exact List.getElem_mem _,by simpa using z⟩,rfl⟩
theorem As(Q:kR ns sizes raw Ls T idle):∃ Nj T' M0,oq [dY sizes Ls]=M.ok (dY sizes Nj)/\kR ns sizes (nz sizes.length T) Nj T' M0/\Nj=nz sizes.length T:=by
 have tl:=Q.st.wf.len
 have l6:=Q.S.h6
 have kp:∀ l∈nz sizes.length T,Kp sizes l:=λl hl=>by
  obtain⟨d,hd,rfl⟩:=Bi hl
  exact⟨Q.st.wf.oP (by omega),Q.st.gd.je d (by omega)⟩
 have nl:(nz sizes.length T).length<=T.length:=by unfold nz;rw[List.length_map];exact List.length_filter_le _ _
 obtain⟨Nj,T',M0,Q'⟩:=kR.get ns Q.S (raw:=nz sizes.length T) (by omega) λl hl=>⟨(kp l hl).1,(kp l hl).bd Q.S⟩
 refine⟨Nj,T',M0,?_,Q',?_⟩
 ·have key:bK (bG 0) (some (dH (aj mM (ae 0) (ae 1)))) (ae 0) (T.map λr=>tI r.1) [none,some (.sh (tI (List.replicate sizes.length 0)))]=M.ok ((nz sizes.length T).map tI):=by
   have:=DL (t:=dH (aj mM (ae 0) (ae 1))) (f:=ae 0) (inj:=λr:Row=>tI r.1) (h:=λr:Row=>tI r.1) (b:=λr=>!decide (r.1=List.replicate sizes.length 0)) (rest:=[some (.sh (tI (List.replicate sizes.length 0)))]) (x0:=none) T (λr _=>by dsimp? [ua]) (λr _=>by dsimp? [])
   rw[this,nz,List.map_map];rfl
  unfold oq oJ
  dsimp? [ja (Ls:=Ls) Q.S.h6,br,Eh,Q.Aw,lj (m := "rows") rfl,DV (T:=T) (by omega),List.length_map,av (aX (show T.length<=1000 by omega)),key,Q'.Jk (f:=tI) (p:=tI sizes) (.inl rfl) rfl]
 ·rw[Q'.eL];exact(List.map_congr_left λl hl=>uN (kp l hl).Gf).trans (List.map_id _)
theorem u7(Q:kR ns sizes raw Ls T idle):∃ Wf:Nat->List Int,∀ d,d<sizes.length->bp [kM sizes Ls T idle,.int (d:Int)]=M.ok (tI (Wf d))/\Ws sizes T d (Wf d):=by
 have h:∀ d:Nat,∃ W,d<sizes.length->bp [kM sizes Ls T idle,.int (d:Int)]=M.ok (tI W)/\Ws sizes T d W:=λd=>by
  by_cases hd:d<sizes.length
  ·obtain⟨_,e,W,rfl,a,b,c⟩:=pL Q hd
   exact⟨W,λ_=>⟨e,a,b,c⟩⟩
  ·exact⟨[],λh=>absurd h hd⟩
 exact⟨λd=>Classical.choose (h d),λd hd=>Classical.choose_spec (h d) hd⟩
structure Il (ns sizes:List Int) (Ls:List (List Int)) (T:List Row) (idle:List (List Int)) (Nj:List (List Int)) (T':List Row) (M0:List (List Int)):Prop where
 Q:∃ OJ,kR ns sizes OJ Nj T' M0
 ev:lJ [dY sizes Ls]=M.ok (dY sizes Nj)
 c2:aE Nj.length (λj=>II M0 j j)=aE sizes.length (aQ (vf sizes) (DD T))
 c3:aE sizes.length (aQ (vf sizes) (DD T'))=aE Ls.length λj=>II idle j j
 dead:∀ l,l<Nj.length->∀ b,b<sizes.length->R sizes∣dm sizes.length (vf sizes) (R sizes) (AA Nj l) (DD T b)
 all:∀ u:bJ,(∀ b,b<sizes.length->R sizes∣dm sizes.length (vf sizes) (R sizes) u (DD T b))->G sizes.length (vf sizes) (DD T') sizes.length 0 u
theorem A0{n m:Nat}{A:Nat->bJ}{v P:bJ}(g:Good n (vf sizes) (DD T))(h:∀ l,l<m->G n (vf sizes) (DD T) n 0 (A l))(led:∀ i,i<n->vf sizes i∣v i-bC m λl=>P l*A l i):G n (vf sizes) (DD T) n 0 v :=
 g.lL (by omega) led (G.sum (A:=A) (P:=P) g m h)
theorem cancel{a x y c:Int}(ha:0<a)(h1:a*x=c)(h2:y*a=c):x=y:=by
 rw[Int.mul_comm] at h2
 exact Int.eq_of_mul_eq_mul_left (by omega) (h1.trans h2.symm)
theorem oo{Ls:List (List Int)}{l:List Int}(h:l∈Ls):∃ k,k<Ls.length/\AA Ls k=vf l:=by
 obtain⟨k,hk,e⟩:=List.mem_iff_getElem.mp h
 exact⟨k,hk,by unfold AA;rw[List.getD_eq_getElem?_getD,List.getElem?_eq_getElem hk,Option.getD_some,e]⟩
theorem yz(Q:kR ns sizes raw Ls T idle):∃ Nj T' M0,Il ns sizes Ls T idle Nj T' M0:=by
 have S:=Q.S
 have l6:=S.h6
 have g:=Q.st.gd
 have hq:=ze S
 have hQ:=rT S
 obtain⟨Wf,hW⟩:=u7 Q
 have kp:∀ l∈(List.range sizes.length).map Wf,Kp sizes l:=λl hl=>by
  obtain⟨d,hd,rfl⟩:=List.mem_map.mp hl
  exact⟨(hW d (List.mem_range.mp hd)).2.len,(hW d (List.mem_range.mp hd)).2.je⟩
 obtain⟨Ls1,T1,PL,Q1⟩:=kR.get ns S (raw:=(List.range sizes.length).map Wf) (by simp;omega) λl hl=>⟨(kp l hl).1,(kp l hl).bd S⟩
 have eL:Ls1=(List.range sizes.length).map Wf:=by rw[Q1.eL];exact(List.map_congr_left λl hl=>uN (kp l hl).Gf).trans (List.map_id _)
 have L1:Ls1.length=sizes.length:=by rw[eL];simp
 have eA:∀ d,d<sizes.length->AA Ls1 d=vf (Wf d):=λd hd=>by
  unfold AA;rw[eL,List.getD_eq_getElem?_getD,List.getElem?_map,List.getElem?_range hd];rfl
 have wk:∀ d,d<sizes.length->Wk sizes.length (vf sizes) (DD T) (R sizes) d 0 (AA Ls1 d):=λd hd=>by rw[eA d hd];exact(hW d hd).2.wk
 have I1:=Q1.I
 have o1:=Q1.ord
 have p1:=Q1.pr
 have s1:=Q1.st
 rw[L1] at I1 o1 p1 s1
 have sp:=Dt g hQ hq wk (J:=II PL) I1.pos I1.zero I1.qV o1
 obtain⟨Nj,T',M0,ec,Q',eL'⟩:=As Q1
 have g1:=s1.gd
 have g':=Q'.st.gd
 have t1:=s1.wf.len
 have a1:∀ l,l<Nj.length->∃ d,d<sizes.length/\AA Nj l=DD T1 d:=λl hl=>by
  obtain⟨d,hd,e⟩:=Bi (T:=T1) (n:=sizes.length) (l:=Nj[l]) (by rw[← eL'];exact List.getElem_mem _)
  refine⟨d,by omega,?_⟩
  unfold AA DD
  rw[List.getD_eq_getElem?_getD,List.getElem?_eq_getElem hl,Option.getD_some,e]
 have i1:∀ d,d<sizes.length->G sizes.length (vf sizes) (DD T1) sizes.length 0 (DD T' d):=λd hd=>A0 g1 (λl hl=>by
  obtain⟨e,he,ea⟩:=a1 l hl
  rw[ea];exact g1.row he (by omega) (Nat.zero_le _)) (Q'.st.led d hd)
 have i2:∀ d,d<sizes.length->G sizes.length (vf sizes) (DD T') sizes.length 0 (DD T1 d):=λd hd=>by
  by_cases z:(row T1 d).1=List.replicate sizes.length 0
  ·exact G.ext (by omega) (λi hi=>by show 0=vf (row T1 d).1 i;rw[z,eE]) (G.zero (by omega))
  ·obtain⟨k,hk,e⟩:=oo (Ls:=Nj) (l:=(row T1 d).1) (by rw[eL'];exact HI (by omega) z)
   show G sizes.length (vf sizes) (DD T') sizes.length 0 (vf (row T1 d).1)
   rw[← e];exact Q'.st.cl k (by omega)
 have se:=HL g1 g' i1 i2
 have pe:aE sizes.length (λj=>II PL j j)=aE sizes.length (aQ (vf sizes) (DD T)):=dM sp
 have pa:0<aE sizes.length (aQ (vf sizes) (DD T)):=eO λl hl=>(g.pos hl).1
 have c3:aE sizes.length (aQ (vf sizes) (DD T'))=aE Ls.length λj=>II idle j j:=by
  rw[← dM se]
  exact cancel pa (by rw[← pe];exact p1) Q.pr
 have pb:0<aE Ls.length (λj=>II idle j j):=eO λl hl=>Q.I.pos l hl
 refine⟨Nj,T',M0,⟨_,Q'⟩,?_,?_,c3,λl hl b hb=>?_,λu hu=>?_⟩
 ·have key:bK (bG 0) none (bo au "weights_at" bp (ae 1) (aa (ae 0) ao)) ((List.range sizes.length).map λ(i:Nat)=>.int (i:Int)) [none,some (.sh (kM sizes Ls T idle))]=M.ok (((List.range sizes.length).map Wf).map tI):=by
   rw[List.map_map]
   refine gv (inj:=λ(i:Nat)=>PV.int (i:Int)) (List.range sizes.length) λi hi=>?_
   dsimp? [br,lj (m := "weights_at") rfl,(hW i (List.mem_range.mp hi)).1]
   rfl
  unfold lJ lQ
  dsimp? [Q.Aw,br,Eh,hZ (n:=(sizes.length:Int)) (by omega) (by omega),Int.toNat_natCast,List.length_map,List.length_range,av (aX (show sizes.length<=1000 by omega)),key,Q1.Jk (f:=tI) (p:=tI sizes) (.inl rfl) rfl,ec]
 ·have:=Q'.pr
  rw[c3] at this
  exact(cancel pb Q.pr this).symm
 ·obtain⟨d,hd,e⟩:=a1 l hl
  rw[e]
  exact Ag hq wk (t:=PP T1 d) (s1.led d hd) hb
 ·obtain⟨t,_,ht⟩:=kX g hQ hq wk sizes.length (Nat.le_refl _) u (λi h1 h2=>by omega) hu
  exact A0 g' (λd hd=>zZ g' i2 sizes.length 0 _ (by omega) (s1.cl d (by omega))) ht
end
theorem LK:PyData.strOk (Str.ofString "pulls")=true:=by unfold PyData.strOk;rw[← Array.all_toList];rfl
theorem LV:PyData.strOk (Str.ofString "weights")=true:=by unfold PyData.strOk;rw[← Array.all_toList];rfl
theorem eq_str(x:Str)(h:PyData.strOk x=true):kr (.str x) (.str x)=M.ok (.bl true):=by
 simp only[kr,qi,dat,E2]
 rw[av (by simp[SeqAt.shaped,PyData.canLay0,PyData.depth,SeqAt.noMix,h])]
 unfold Spec.same
 simp
 rfl
section
variable{ns:List Int}{sizes:List Int}{raw Ls Nj:List (List Int)}{T T':List Row}{idle M0:List (List Int)}{P W:List Int}
theorem kR.kp(Q:kR ns sizes raw Ls T idle):∀ l∈Ls,Kp sizes l:=λl hl=>by
 obtain⟨k,hk,e⟩:=oo hl
 have a:=Q.LL.at_ k hk
 have b:=Q.LL.je k hk
 rw[e] at b
 obtain⟨k',PJ,e'⟩:=List.mem_iff_getElem.mp hl
 have c:=Q.LL.at_ k' PJ
 rw[List.getD_eq_getElem?_getD,List.getElem?_eq_getElem PJ,Option.getD_some,e'] at c
 exact⟨c,b⟩
theorem Kp.sm(S:Sz sizes){xs:List Int}(h:Kp sizes xs):∀ x∈xs,0<=x/\x<360:=λx hx=>ot S h.Gf hx
theorem pT(S:Sz sizes)(hL:∀ l∈Ls,Kp sizes l)(h8:Ls.length<=8){ys zs:List Int}{q r:PV}(yl:ys.length=sizes.length)(yb:Bd 200 ys)(hq:bL q=some (ys.map PV.int))(zl:zs.length=sizes.length)(zb:Bd 200 zs)(hr:bL r=some (zs.map PV.int)) :
  ∃ b:Bool,cj [lI sizes,.tup (Ls.map tI),q,r]=M.ok (.bl b)/\(b=true ↔ ∀ l∈Ls,R sizes∣dm sizes.length (vf sizes) (R sizes) (vf l) (λi=>vf ys i-vf zs i)):=by
 suffices h:ik (cj [lI sizes,.tup (Ls.map tI),q,r]) λp=>∃ b:Bool,p=.bl b/\(b=true ↔ ∀ l∈Ls,R sizes∣dm sizes.length (vf sizes) (R sizes) (vf l) (λi=>vf ys i-vf zs i)) by
  obtain⟨_,e,b,rfl,hb⟩:=h
  exact⟨b,e,hb⟩
 unfold cj eS
 dsimp? []
 refine ik.IA (xs:=Ls) (inj:=tI) (λls env=>∃ y,env=[some (.sh (lI sizes)),some (.sh (.tup (Ls.map tI))),some (.sh q),some (.sh r),y]/\(∀ l∈ls,l∈Ls)/\((∀ l∈ls,R sizes∣dm sizes.length (vf sizes) (R sizes) (vf l) (λi=>vf ys i-vf zs i)) ↔ ∀ l∈Ls,R sizes∣dm sizes.length (vf sizes) (R sizes) (vf l) (λi=>vf ys i-vf zs i))) ⟨_,rfl,λ_ h=>h,Iff.rfl⟩ ?_ ?_
 ·rintro l rs env ⟨y,rfl,hm,hi⟩
  have k:=hL l (hm l List.mem_cons_self)
  have e1:=mT S k.1 (k.sm S) yl yb hq
  have e2:=mT S k.1 (k.sm S) zl zb hr
  have lin:=jn (n:=sizes.length) (s:=vf sizes) (Q:=R sizes) (w:=vf l) 1 (-1) (v:=vf ys) (u:=vf zs) (x:=λi=>vf ys i-vf zs i) λi _=>by omega
  have iff:dm sizes.length (vf sizes) (R sizes) (vf l) (vf ys)%R sizes=dm sizes.length (vf sizes) (R sizes) (vf l) (vf zs)%R sizes ↔ R sizes∣dm sizes.length (vf sizes) (R sizes) (vf l) (λi=>vf ys i-vf zs i):=by
   rw[lin,Int.emod_eq_emod_iff_emod_sub_eq_zero,Int.dvd_iff_emod_eq_zero]
   rw[show 1*dm sizes.length (vf sizes) (R sizes) (vf l) (vf ys)+-1*dm sizes.length (vf sizes) (R sizes) (vf l) (vf zs)=dm sizes.length (vf sizes) (R sizes) (vf l) (vf ys)-dm sizes.length (vf sizes) (R sizes) (vf l) (vf zs) by omega]
  by_cases z:dm sizes.length (vf sizes) (R sizes) (vf l) (vf ys)%R sizes=dm sizes.length (vf sizes) (R sizes) (vf l) (vf zs)%R sizes
  ·dsimp? [bG,e1,e2,z,decide_true]
   refine⟨_,rfl,_,rfl,λa h=>hm a (List.mem_cons_of_mem _ h),Iff.trans ⟨λh a ha=>?_,λh a ha=>h a (List.mem_cons_of_mem _ ha)⟩ hi⟩
   rcases List.mem_cons.mp ha with rfl | ha
   ·exact iff.mp z
   ·exact h a ha
  ·dsimp? [bG,e1,e2,z,decide_false]
   refine⟨_,rfl,?_⟩
   exact⟨_,rfl,false,rfl,⟨λh=>absurd h (by simp),λh=>absurd (iff.mpr (h l (hm l List.mem_cons_self))) z⟩⟩
 ·rintro env ⟨y,rfl,_,hi⟩
  dsimp? []
  exact⟨_,rfl,true,rfl,⟨λ_=>hi.mp (by simp),λ_=>rfl⟩⟩
end
section
variable{ns:List Int}{sizes:List Int}{raw Ls Nj:List (List Int)}{T T':List Row}{idle M0:List (List Int)}{P W:List Int}
theorem neg_dvd(hq:∀ i,i<sizes.length->vf sizes i∣R sizes){w x y:bJ}(h:∀ i,i<sizes.length->vf sizes i∣x i - -(y i))(k:R sizes∣dm sizes.length (vf sizes) (R sizes) w y):R sizes∣dm sizes.length (vf sizes) (R sizes) w x:=by
 rw[gf] at k ⊢
 exact jy hq (a:=-1) (b:=0) (y:=y) (λi hi=>by
  obtain⟨c,hc⟩:=h i hi
  exact⟨c,by rw[← hc];omega⟩) k k
theorem vv(Q:kR ns sizes raw Ls T idle)(E:Il ns sizes Ls T idle Nj T' M0){one other:List Int}(h1:Kp sizes one)(h2:Kp sizes other):(∀ l∈Nj,R sizes∣dm sizes.length (vf sizes) (R sizes) (vf l) (λi=>vf one i-vf other i)) ↔ Bl sizes T one other:=by
 have S:=Q.S
 have hq:=ze S
 obtain⟨ak,ad⟩:=rK (t:=-1) S h2.1 h1.1
 obtain⟨OJ,Q'⟩:=E.Q
 constructor
 ·intro h
  rcases vn Q h1 h2 with ⟨g,_⟩ | ⟨_,c,W,hc,w,_,nd⟩
  ·exact g
  ·refine(nd ?_).elim
   have gW:=E.all (vf W) λb hb=>w.wk.kill b (Nat.zero_le _) hb
   obtain⟨_,_,led,_⟩:=lX (k:=Nj.length+1) S Q'.m8 Q'.st (by have:=Q'.m8;omega) Q'.I (kU w.len w.je) w.je gW
   have k:R sizes∣dm sizes.length (vf sizes) (R sizes) (λi=>vf one i-vf other i) (vf W):=xx hq (A:=AA Nj) (λl hl=>by
    rw[gf]
    unfold AA
    rw[List.getD_eq_getElem?_getD,List.getElem?_eq_getElem hl,Option.getD_some]
    exact h _ (List.getElem_mem _)) led
   rw[gf] at k
   exact neg_dvd hq (λi hi=>by
    obtain⟨x,hx⟩:=ad i hi
    exact⟨x,by rw[← hx];omega⟩) k
 ·intro g l hl
  obtain⟨k,hk,e⟩:=oo hl
  rw[← e]
  exact neg_dvd hq (y:=λi=>vf other i-vf one i) (λi hi=>⟨0,by omega⟩) (vz hq sizes.length 0 _ (by omega) (λb _ hb=>E.dead k hk b hb) ((A4 Q h1 h2).mp g))
theorem pS(Q:kR ns sizes raw Ls T idle){one other:List Int}(h1:Kp sizes one)(h2:Kp sizes other)(hP:P.length=Ls.length)(hb:Bd 200 P){v:bJ}(hv:∀ i,i<sizes.length->vf sizes i∣v i-(vf other i-vf one i))(led:Led sizes.length (vf sizes) Ls.length (AA Ls) v (vf P)):ck [lI sizes,.tup (Ls.map tI),tI one,tI P]=M.ok (tI other):=by
 obtain⟨F,e,F1,F2,ld⟩:=rV (.inl rfl) (p1:=.tup (Ls.map tI)) rfl (q:=tI one) (p2:=tI P) (qu Q.S) Q.S.h6 h1.1 rfl h1.2 (λl hl=>⟨(Q.kp l hl).1,(Q.kp l hl).bd Q.S⟩) hb hP rfl
 rw[e,D7 F1 h2.1 F2 h2.2 λi hi=>by
  obtain⟨a,ha⟩:=ld i hi
  obtain⟨b,hb⟩:=led i hi
  obtain⟨c,hc⟩:=hv i hi
  unfold AA at hb
  exact⟨a-b+c,by rw[Int.mul_add,Int.mul_sub,← ha,← hb,← hc];omega⟩]
theorem oU(S:Sz sizes):Kp sizes (List.replicate sizes.length 0):=⟨by simp,BW S⟩
theorem zh(Q:kR ns sizes raw Ls T idle)(hW:Kp sizes W)(g:G sizes.length (vf sizes) (DD T) sizes.length 0 (vf W)):fK [lI sizes,.tup (Ls.map tI),kM sizes Ls T idle,tI W]=M.ok (.bl true):=by
 have l6:=Q.S.h6
 obtain⟨et,tl,led,tn⟩:=lX (k:=Ls.length+1) Q.S Q.m8 Q.st (by have:=Q.m8;omega) Q.I hW.Gf hW.2 g
 have e:=pS Q (oU Q.S) hW tl (ET Q.I tl tn) (λi hi=>⟨0,by rw[eE];omega⟩) led
 have z:=mul_one (.int 0) sizes.length (by omega)
 rw[show PV.tup (List.replicate sizes.length (.int 0))=tI (List.replicate sizes.length 0) by rw[tI,List.map_replicate]] at z
 unfold fK fS
 dsimp? [br,lj (m := "pulls_to") rfl,et,show ∀ xs:List Int,w6 (tI xs) .cR=M.ok (.bl false) from λ_=>rfl,z,e,tD,decide_true]
theorem pJ(Q:kR ns sizes raw Ls T idle)(E:Il ns sizes Ls T idle Nj T' M0){one other:List Int}(h1:Kp sizes one)(h2:Kp sizes other):ee [dY sizes Ls,dY sizes Nj,kM sizes Nj T' M0,tI one,tI other]=M.ok (.bl true):=by
 have S:=Q.S
 obtain⟨ak,ad⟩:=rK (t:=-1) S h2.1 h1.1
 obtain⟨OJ,Q'⟩:=E.Q
 obtain⟨b,ea,hb⟩:=pT S Q'.kp Q'.m8 h1.1 (h1.bd S) (q:=tI one) rfl h2.1 (h2.bd S) (r:=tI other) rfl
 rw[vv Q E h1 h2] at hb
 obtain⟨b2,ebl,hb2⟩:=zk Q h1 h2
 have e1:=nq Q h1
 have e2:=nq Q h2
 have sm:=BF Q h1 h2
 have el:PV.lst (sizes.map PV.int)=lI sizes:=rfl
 unfold ee eo
 rcases vn Q h1 h2 with ⟨g,eb⟩ | ⟨ng,c,W,hc,w,eb,nd⟩
 ·obtain⟨et,tl,led,tn⟩:=lX (k:=Ls.length+1) S Q.m8 Q.st (by have:=Q.m8;omega) Q.I ak.Gf ak.2 g
  have tt:=pS Q h1 h2 tl (ET Q.I tl tn) (λi hi=>by
   obtain⟨x,hx⟩:=ad i hi
   exact⟨x,by rw[← hx];omega⟩) led
  obtain rfl:b=true:=hb.mpr g
  obtain rfl:b2=true:=hb2.mpr g
  have hs:lst sizes Ls T one=lst sizes Ls T other:=sm.mpr g
  dsimp? [br,Eh,Kf,el,ea,eb,sd,xN (m := "brings") rfl,Mn,ebl,decide_true,e1,e2,tD,hs,CW,xN (m := "words") rfl,Mw,bQ,eq_str _ LK,tt]
 ·obtain rfl:b=false:=by cases b;rfl;exact absurd (hb.mp rfl) ng
  obtain rfl:b2=false:=by cases b2;rfl;exact absurd (hb2.mp rfl) ng
  have hs:¬ lst sizes Ls T one=lst sizes Ls T other:=λh=>ng (sm.mp h)
  have eB:=zh Q' ⟨w.len,w.je⟩ (E.all (vf W) λb hb=>w.wk.kill b (Nat.zero_le _) hb)
  dsimp? [br,Eh,Kf,el,ea,eb,sd,xO (m := "brings") rfl,Md,ebl,decide_true,e1,e2,tD,hs,decide_false,CW,xO (m := "words") rfl,bwd,bQ,eq_str _ LV,eB]
theorem vU(S:Sz sizes):ff [lI sizes]=M.ok (.int (aE sizes.length (vf sizes))):=by
 have hx:∀ x∈sizes,0<x/\x<2^60:=λx h=>by have:=S.hx x h;omega
 have l6:=S.h6
 refine ik.eq ?_
 unfold ff eT
 dsimp? []
 refine ik.loop (xs:=sizes) (inj:=PV.int) (λzs env=>∃ (c:Nat) (y:Option SV),env=[some (.sh (lI sizes)),some (.sh (.int (aE c (vf sizes)))),y]/\zs=sizes.drop c/\c<=sizes.length) ⟨0,_,rfl,rfl,by omega⟩ ?_ ?_
 ·rintro a r env ⟨c,y,rfl,hd,hc⟩
  obtain⟨c1,c2,c3⟩:=drop_cons hd.symm
  rw[List.getElem?_eq_getElem c1] at c2
  have e2:sizes[c]=a:=Option.some.inj c2
  have ha:=hx a (by rw[← e2];exact List.getElem_mem _)
  have b:=pO (oh hx c hc)
  have b':(aE c (vf sizes)).natAbs<2^490:=Nat.lt_of_lt_of_le b (Nat.pow_le_pow_right (by decide) (by omega))
  have ep:aE c (vf sizes)*a=aE (c+1) (vf sizes):=by show _=aE c (vf sizes)*vf sizes c;rw[aS c1,e2]
  dsimp? [bG,bg (i:=aE c (vf sizes)) (j:=a) (k:=490) (l:=60) b' (pO ha),ep]
  exact⟨_,rfl,c+1,_,rfl,c3.symm,by omega⟩
 ·rintro env ⟨c,y,rfl,hd,hc⟩
  have:=congrArg List.length hd
  rw[List.length_drop] at this
  simp at this
  obtain rfl:c=sizes.length:=by omega
  dsimp? []
  exact⟨_,rfl,rfl⟩
theorem zH(Q:kR ns sizes raw Ls T idle)(E:Il ns sizes Ls T idle Nj T' M0):c8 [dY sizes Ls,dY sizes Nj,lI sizes]=M.ok (.bl true):=by
 obtain⟨OJ,Q'⟩:=E.Q
 have S:=Q.S
 have a:=mZ Q
 have b:=vJ Q
 have c:=mZ Q'
 have d:=vJ Q'
 rw[E.c2] at c
 rw[E.c3] at d
 have pr:=Q.pr
 have pa:0<aE sizes.length (aQ (vf sizes) (DD T)):=eO λl hl=>(Q.st.gd.pos hl).1
 have pb:0<aE Ls.length (λj=>II idle j j):=eO λl hl=>Q.I.pos l hl
 have hx:∀ x∈sizes,0<x/\x<2^60:=λx h=>by have:=S.hx x h;omega
 have l6:=S.h6
 have pl':=pO (oh hx sizes.length (Nat.le_refl _))
 have big:(aE sizes.length (vf sizes)).natAbs<2^400:=Nat.lt_of_lt_of_le pl' (Nat.pow_le_pow_right (by decide) (by omega))
 have lp:=vU S
 generalize aE sizes.length (aQ (vf sizes) (DD T))=y at *
 generalize aE Ls.length (λj=>II idle j j)=x at *
 generalize aE sizes.length (vf sizes)=z at *
 have hy:y<=z:=by have:=Int.mul_le_mul_of_nonneg_right (show 1<=x by omega) (show 0<=y by omega);omega
 have hxz:x<=z:=by have:=Int.mul_le_mul_of_nonneg_left (show 1<=y by omega) (show 0<=x by omega);omega
 have em:=bg (i:=x) (j:=y) (k:=400) (l:=400) (by omega) (by omega)
 rw[pr] at em
 refine ik.eq ?_
 unfold c8 c_
 dsimp? [a,b,c,d]
 refine ik.loop (xs:=[x,y,y,x]) (inj:=PV.int) (λzs env=>∃ w,env=[some (.sh (dY sizes Ls)),some (.sh (dY sizes Nj)),some (.sh (lI sizes)),some (.sh (.lst [.int x,.int y,.int y,.int x])),w]/\∀ v∈zs,1<=v) ⟨_,rfl,by simp;omega⟩ ?_ ?_
 ·rintro v r env ⟨w,rfl,hv⟩
  have h1:¬ v<1:=by have:=hv v List.mem_cons_self;omega
  dsimp? [bG,h1,decide_false]
  exact⟨_,rfl,_,rfl,λu hu=>hv u (List.mem_cons_of_mem _ hu)⟩
 ·rintro env ⟨w,rfl,_⟩
  dsimp? [show aT (.lst [.int x,.int y,.int y,.int x]) (.int 0)=M.ok (.int x) from bD (j:=0) rfl rfl,show aT (.lst [.int x,.int y,.int y,.int x]) (.int 1)=M.ok (.int y) from bD (j:=1) rfl rfl,show aT (.lst [.int x,.int y,.int y,.int x]) (.int 2)=M.ok (.int y) from bD (j:=2) rfl rfl,show aT (.lst [.int x,.int y,.int y,.int x]) (.int 3)=M.ok (.int x) from bD (j:=3) rfl rfl,em,lp,decide_true]
  exact⟨_,rfl,rfl⟩
end
theorem Lu(xs:List Int):J5 (lI xs) none (some 4)=M.ok (lI (xs.take 4)):=by
 have e1:HT.dr (xs.map PV.int).length (xs.map PV.int).length (some 4)=min 4 xs.length:=by
  rw[List.length_map]
  unfold HT.dr
  simp
 have e0:HT.dr (xs.map PV.int).length 0 none=0:=rfl
 show M.ok (PV.lst (nQ (xs.map PV.int) none (some 4)))=_
 rw[nQ,e1,e0,List.drop_zero,Nat.sub_zero,lI,List.map_take]
 congr 2
 rcases Nat.le_total 4 xs.length with h | h
 ·rw[Nat.min_eq_left h]
 ·rw[Nat.min_eq_right h,List.take_of_length_le (by simp),List.take_of_length_le (by simpa using h)]
theorem Sz.take{xs:List Int}(S:Sz xs):Sz (xs.take 4):=⟨by have:=S.h1;rw[List.length_take];omega,by have:=S.h6;rw[List.length_take];omega,λx h=>S.hx x (List.mem_of_mem_take h)⟩
section
variable{ns:List Int}{sizes:List Int}{raw Ls Nj:List (List Int)}{T T':List Row}{idle M0:List (List Int)}
theorem zg(S:Sz sizes):bY (.tup [.int 0]) (.int (sizes.length:Int))=M.ok (tI (List.replicate sizes.length 0)):=by
 have z:=mul_one (.int 0) sizes.length (by have:=S.h6;omega)
 rwa [show PV.tup (List.replicate sizes.length (.int 0))=tI (List.replicate sizes.length 0) by rw[tI,List.map_replicate]] at z
theorem yQ(Q:kR ns sizes raw Ls T idle)(E:Il ns sizes Ls T idle Nj T' M0){l:List Int}(hl:l∈raw):cj [lI sizes,.tup (Nj.map tI),lI l,tI (List.replicate sizes.length 0)]=M.ok (.bl true):=by
 have S:=Q.S
 have hq:=ze S
 obtain⟨OJ,Q'⟩:=E.Q
 obtain⟨b,ea,hb⟩:=pT S Q'.kp Q'.m8 (Q.hr l hl).1 (Q.hr l hl).2 (q:=lI l) rfl (oU S).1 ((oU S).bd S) (r:=tI (List.replicate sizes.length 0)) rfl
 rw[ea,hb.mpr λw hw=>?_]
 obtain⟨k,hk,e⟩:=oo hw
 obtain⟨j,hj,ej⟩:=List.mem_iff_getElem.mp hl
 rw[← e,gf]
 have k0:=vz (w:=AA Nj k) hq sizes.length 0 _ (by omega) (λb _ hb=>E.dead k hk b hb) (Q.st.cl j (by have:=Q.hm;omega))
 rw[gf] at k0
 refine jy hq (a:=1) (b:=0) (y:=AA Ls j) (λi hi=>?_) k0 k0
 have:=Q.eA j hj i hi
 rw[List.getD_eq_getElem?_getD,List.getElem?_eq_getElem hj,Option.getD_some,ej] at this
 rw[this,eE]
 obtain⟨x,hx⟩:=i5 (vf l i) (vf sizes i)
 exact⟨x,by rw[← hx];omega⟩
theorem yT(Q:kR ns sizes raw Ls T idle)(E:Il ns sizes Ls T idle Nj T' M0){one other:List Int}(h1:Kp sizes one)(h2:Kp sizes other)(g:Bl sizes T one other):cj [lI sizes,.tup (Nj.map tI),tI one,tI other]=M.ok (.bl true):=by
 obtain⟨OJ,Q'⟩:=E.Q
 obtain⟨b,ea,hb⟩:=pT Q.S Q'.kp Q'.m8 h1.1 (h1.bd Q.S) (q:=tI one) rfl h2.1 (h2.bd Q.S) (r:=tI other) rfl
 rw[ea,hb.mpr ((vv Q E h1 h2).mpr g)]
theorem Gp(ns:List Int):rG [.jO (ns.map PV.int)]=M.ok (.bl true):=by
 obtain⟨c0,ec⟩:=oz ns 0
 rw[show ((0:Nat):Int)=0 from rfl] at ec
 obtain⟨_,es,xs,rfl,S0⟩:=yn c0
 have S:=S0.take
 have cu:=Lu xs
 generalize xs.take 4=sizes at *
 obtain⟨_,el,raw,rfl,r8,hr⟩:=wB ns S
 obtain⟨Ls,T,idle,Q⟩:=kR.get ns S r8 hr
 obtain⟨Nj,T',M0,E⟩:=yz Q
 obtain⟨OJ,Q'⟩:=E.Q
 have l6:=S.h6
 have l1:=S.h1
 refine ik.eq ?_
 unfold rG B9
 dsimp? [ec,es,pf,Hh,mE,Ie,cu,el,Q.Jk (f:=lI) (p:=lI sizes) (.inr rfl) rfl,E.ev,br,Eh,show PV.tup (sizes.map PV.int)=tI sizes from rfl,ua,decide_true,zH Q E]
 refine ik.loop (xs:=raw) (inj:=lI) (λzs env=>∃ y5,env=[some (.sh (.jO (ns.map PV.int))),some (.sh (lI sizes)),some (.sh (.lst (raw.map lI))),some (.sh (dY sizes Ls)),some (.sh (dY sizes Nj)),y5,none,none,none,none,none]/\∀ z∈zs,z∈raw) ⟨_,rfl,λ_ h=>h⟩ ?_ ?_
 ·rintro l r env ⟨y5,rfl,hz⟩
  dsimp? [bG,br,Kf,zg S,yQ Q E (hz l List.mem_cons_self)]
  exact⟨_,rfl,_,rfl,λz h=>hz z (List.mem_cons_of_mem _ h)⟩
 rintro env ⟨y5,rfl,_⟩
 dsimp? [Q'.Aw,pf,mE,Ie,show J5 (.jO (ns.map PV.int)) (some 10) (some 13)=M.ok (.lst ((oM ns 10 13).map PV.int)) from Eb ns 10 13,zO (oM ns 10 13) (by have:=rY ns 10 13;omega),G7]
 refine ik.loop (xs:=(oM ns 10 13++[0]).zipIdx) (inj:=λz=>.tup [.int (z.2:Int),.int z.1]) (λzs env=>∃ (y7 y8 y9 y10:Option SV),env=[some (.sh (.jO (ns.map PV.int))),some (.sh (lI sizes)),some (.sh (.lst (raw.map lI))),some (.sh (dY sizes Ls)),some (.sh (dY sizes Nj)),y5,some (.sh (kM sizes Nj T' M0)),y7,y8,y9,y10]/\∀ z∈zs,z.2<100) ⟨_,_,_,_,rfl,λz hz=>by have:=w5 hz;have:=rY ns 10 13;simp at *;omega⟩ ?_ ?_
 ·rintro⟨a,k⟩ r env ⟨y7,y8,y9,y10,rfl,hz⟩
  have hk:=hz (a,k) List.mem_cons_self
  have OE:∀ z∈r,z.2<100:=λz h=>hz z (List.mem_cons_of_mem _ h)
  simp only at hk
  obtain⟨_,ex,one,rfl,xl,x0⟩:=mO S (a/3+48271*(k:Int))
  have h1:Kp sizes one:=⟨xl,x0⟩
  obtain⟨o0,o1,o2,k0,k1,k2,g0,⟨P,ep,e0⟩,⟨c,ec1,e1⟩,us,ku,e2⟩:=wH Q k hk a h1
  have ea:=yT Q E h1 k0 g0
  have t0:=pJ Q E h1 k0
  have t1:=pJ Q E h1 k1
  have t2:=pJ Q E h1 k2
  have zr:(List.range sizes.length).length<=sizeLine:=by rw[List.length_range];exact aX (by omega)
  rcases three (c:=a) with q | q | q
  all_goals
   dsimp? [bQ,aL (i:=a) (j:=3) (by decide) (by decide),bg (i:=48271) (j:=(k:Int)) (k:=31) (l:=31) (by decide) (by omega),ex,aL (i:=a) (j:=5) (by decide) (by decide),List.length_map,ep,e0,br,Kf,ea,aW (i:=a) (j:=3) (by decide),q,decide_true,decide_false,show ¬ (0:Int)=1 by decide,show ¬ (0:Int)=2 by decide,show ¬ (1:Int)=2 by decide,show ¬ (2:Int)=1 by decide,ec1,e1,hZ (n:=(sizes.length:Int)) (by omega) (by omega),Int.toNat_natCast,av zr,ku,e2,t0,t1,t2]
   exact⟨_,rfl,_,_,_,_,rfl,OE⟩
 ·rintro env ⟨y7,y8,y9,y10,rfl,_⟩
  dsimp? []
  exact⟨_,rfl,rfl⟩
end
end vW
theorem PySem.Challenge.cw_dialvault_k91_whole_pulls_and_weights_holds : PySem.Challenge.rw_dialvault_k91_whole_pulls_and_weights.Holds :=
  vW.hold HD.said λns _ _ => vW.Gp ns
end