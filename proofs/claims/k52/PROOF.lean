import PyProof.Rows.All
import Wide.All
import OpenK.AllK
import Wide.FinOn
import Lean
import PyProof.EqAt
import PyProof.EqKinds
import PyProof.TupleCall
import PySem.Challenge.RW_dialvault_k52_whole_pairs_of_great_dials
set_option Elab.async false
set_option linter.all false
set_option maxRecDepth 100000
set_option maxHeartbeats 0
noncomputable section
theorem aR(h:True:=by rfl):True:=h
theorem aD(h:True:=by decide):True:=h
theorem aI(h:True:=by intro _;rfl):True:=h
theorem aK(h:True:=by kernel_rfl):True:=h
theorem aF(h:True:=by first | exact .inl rfl | exact .inr rfl | assumption):True:=h
theorem aU(h:True:=by with_unfolding_all rfl):True:=h
theorem aN(h:True:=by decide +kernel):True:=h
theorem aG(h:True:=by first | exact .inl rfl | exact .inr rfl):True:=h
namespace L2
open PySem PySem.Spec PyProof.Rows
abbrev Key:=Sum Int Str
def Dm:Key->Value->Bool
 | .inl k,v=>Value.isInt k v
 | .inr x,v=>Value.isStrOf x v
def IJ(w:World):Key->Int
 | .inl k=>hashInt k
 | .inr x=>hashStr w x
theorem cn:∀ {k:Key} {v:Value},Dm k v=true->(∃ i t,k=Sum.inl i/\v=Value.int i t)\/(∃ x t,k=Sum.inr x/\v=Value.str x t)
 | .inl i,v,h=>by
  obtain⟨t,e⟩:=Value.isInt_shape (k:=i) (v:=v) h
  exact .inl ⟨i,t,rfl,e⟩
 | .inr x,v,h=>by
  obtain⟨t,e⟩:=Value.isStrOf_shape (x:=x) (v:=v) h
  exact .inr ⟨x,t,rfl,e⟩
theorem Eg(a b:Int):decide ((Sum.inl a:Key)=Sum.inl b)=(a==b):=by
 by_cases e:a=b
 ·subst e;simp
 ·have h:¬ (Sum.inl a:Key)=Sum.inl b:=λq=>e (Sum.inl.inj q)
  rw[decide_eq_false h]
  exact(beq_eq_false_iff_ne.mpr e).symm
theorem Er(a b:Str):decide ((Sum.inr a:Key)=Sum.inr b)=decide (a=b):=by
 by_cases e:a=b
 ·subst e;simp
 ·have h:¬ (Sum.inr a:Key)=Sum.inr b:=λq=>e (Sum.inr.inj q)
  rw[decide_eq_false h,decide_eq_false e]
theorem FW(a:Int)(b:Str):decide ((Sum.inl a:Key)=Sum.inr b)=false:=decide_eq_false (λq=>nomatch q)
theorem Fe(a:Str)(b:Int):decide ((Sum.inr a:Key)=Sum.inl b)=false:=decide_eq_false (λq=>nomatch q)
def v5(prog:Program)(w:World):PySem.KeyKind prog w Key where
 is:=Dm
 hash:=IJ w
 inj:=λv a b ha hb=>by
  rcases cn ha with ⟨i,t,rfl,rfl⟩ | ⟨x,t,rfl,rfl⟩
  ·rcases cn hb with ⟨j,u,rfl,e⟩ | ⟨y,u,rfl,e⟩
   ·injection e with e1 _;rw[e1]
   ·exact nomatch e
  ·rcases cn hb with ⟨j,u,rfl,e⟩ | ⟨y,u,rfl,e⟩
   ·exact nomatch e
   ·injection e with e1 _;rw[e1]
 byValue:=λk v h=>by
  rcases cn h with ⟨i,t,rfl,rfl⟩ | ⟨x,t,rfl,rfl⟩ <;> rfl
 pyHash:=λhv h=>by
  rcases cn hv with ⟨i,t,rfl,rfl⟩ | ⟨x,t,rfl,rfl⟩
  ·exact wpAny_pyHash_int h
  ·exact wpAny_pyHash_str h
 eqBool:=λhu hv h=>by
  rcases cn hu with ⟨i,t,rfl,rfl⟩ | ⟨x,t,rfl,rfl⟩
  ·rcases cn hv with ⟨j,u,rfl,rfl⟩ | ⟨y,u,rfl,rfl⟩
   ·rw[Eg] at h;exact wpAny_eqBool_int h
   ·rw[FW] at h;exact SeqAt.EqAt.int_str i t y u _ _ _ _ h
  ·rcases cn hv with ⟨j,u,rfl,rfl⟩ | ⟨y,u,rfl,rfl⟩
   ·rw[Fe] at h;exact SeqAt.EqAt.str_int x t j u _ _ _ _ h
   ·rw[Er] at h;exact wpAny_eqBool_str h
 «strs»:=λk x t v h=>by
  rcases cn h with ⟨i,u,rfl,e⟩ | ⟨y,u,rfl,e⟩
  ·exact nomatch e
  ·injection e with e1 _
   subst e1
   cases v <;> rfl
inductive V where
 | cy | bl (b:Bool) | int (i:Int) | str (x:Str) | byt (b:Array UInt8) | DX (b:UInt64) | ref (a:Addr) | ty (n:String)
 deriving DecidableEq
def RelV:V->Value->Prop
 | .cy,u=>u=Value.none
 | .bl b,u=>u=Value.bool b
 | .int i,u=>∃ t,u=Value.int i t
 | .str x,u=>∃ t,u=Value.str x t
 | .byt b,u=>∃ t,u=Value.bytes b t
 | .DX b,u=>∃ t,u=Value.float b t
 | .ref a,u=>u=Value.ref a
 | .ty n,u=>u=Value.type n
abbrev Vals:List V->List Value->Prop:=Paired RelV
theorem Vals.length{xs:List V}{us:List Value}(r:Vals xs us):xs.length=us.length:=Paired.length r
theorem Vals.get:∀ {xs:List V} {us:List Value} {i:Nat} {x:V},Vals xs us->xs[i]?=some x->∃ u,us[i]?=some u/\RelV x u
 | _,_,_,_,.nil,e=>by simp at e
 | _,_,0,_,.cons r _,e=>by simp at e;subst e;exact⟨_,rfl,r⟩
 | _,_,i+1,x,.cons _ t,e=>by
  obtain⟨u,h1,h2⟩:=Vals.get (i:=i) (x:=x) t (by simpa using e)
  exact⟨u,by simpa using h1,h2⟩
theorem Vals.set{x:V}{u:Value}(r:RelV x u):∀ {xs:List V} {us:List Value} (i:Nat),Vals xs us->Vals (xs.set i x) (us.set i u)
 | _,_,_,.nil=>.nil
 | _,_,0,.cons _ t=>.cons r t
 | _,_,i+1,.cons q t=>.cons q (Vals.set r i t)
theorem Vals.append:∀ {xs ys:List V} {us ws:List Value},Vals xs us->Vals ys ws->Vals (xs++ys) (us++ws)
 | _,_,_,_,.nil,s=>s
 | _,_,_,_,.cons r t,s=>.cons r (Vals.append t s)
theorem Vals.take:∀ {xs:List V} {us:List Value} (n:Nat),Vals xs us->Vals (xs.take n) (us.take n)
 | _,_,0,_=>.nil
 | _,_,_+1,.nil=>.nil
 | _,_,n+1,.cons r t=>.cons r (Vals.take n t)
theorem Vals.drop:∀ {xs:List V} {us:List Value} (n:Nat),Vals xs us->Vals (xs.drop n) (us.drop n)
 | _,_,0,r=>r
 | _,_,_+1,.nil=>.nil
 | _,_,n+1,.cons _ t=>Vals.drop n t
def kZ:Option V->Option Value->Prop
 | some v,some u=>RelV v u
 | none,none=>True
 | _,_=>False
def KV{κ:Type}:List (κ×V)->List (κ×Value)->Prop:=Paired λ(p:κ×V) (q:κ×Value)=>p.1=q.1/\RelV p.2 q.2
def kV:Key->V
 | .inl i=>.int i
 | .inr x=>.str x
inductive HO where
 | lst (xs:List V)
 | tup (xs:List V)
 | dK (Lu:List (Key×V)) | dT (Lu:List (List Key×V))
 | set (S:Int->Bool) (n:Nat)
 | ins (C dx:Addr) (fs:List (Str×V))
 | own (x:Addr)
 | xd (fs:List (Str×V))
 | met (f x:Addr)
 | hU (lo hi:Int)
 | o8 (o:Obj) (u:HO)
 | Dk (ps:Array Value)
 | ext (φ:Heap->Prop)
abbrev Hp:=Addr->Option HO
def upd(H:Hp)(a:Addr)(o:HO):Hp:=λb=>if b=a then some o else H b
variable{a:Addr}{H:Hp}
theorem aw{o:HO}:upd H a o a=some o:=by unfold upd;rw[if_pos rfl]
variable{b:Addr}
theorem ak{o:HO}(h:b≠a):upd H a o b=H b:=by unfold upd;rw[if_neg h]
theorem vL{o u:HO}:upd (upd H a o) a u=upd H a u:=by
 funext b;unfold upd;split <;> rfl
theorem bK{o:HO}(h:H a=some o)(h':H b=none):a≠b:=by
 intro e;subst e;rw[h] at h';cases h'
section
variable(P:Program)(w:World)
def bV(H:Hp)(h:Heap)(a:Addr):HO->Prop
 | .lst xs=>xs.length<=sizeLine/\∃ (Kv:List Value) (n:Nat),Vals xs Kv/\h.get? a=some { cls:=.type "list", data:=.seq Kv.toArray n }
 | .tup xs=>xs.length<=sizeLine/\∃ Kv:List Value,Vals xs Kv/\IsTup h a Kv.toArray
 | .dK Lu=>Lu.length<=sizeLine/\(a==sysModules)=false/\∃ vs,KV Lu vs/\h.DictOf (v5 P w) a vs
 | .dT Lu=>Lu.length<=sizeLine/\(a==sysModules)=false/\∃ xs:List (List Key×Addr×Value),
   Paired (λ(p:List Key×V) (q:List Key×Addr×Value)=>p.1=q.1/\H q.2.1=some (.tup (p.1.map kV))/\RelV p.2 q.2.2) Lu xs ∧
   ∃ o es ep,h.get? a=some o/\o.ExactDict/\o.data=.dict es ep/\es.toList=xs.map (entryOfKey (tupleKind (v5 P w)))/\(xs.map (·.1)).Nodup
 | .set S n=>h.SetOf (intKind P w) a S n
 | .ins C dx fs=>H dx=some (.own a)/\fs.length<=1000/\dx≠a/\h.get? a=some (PySem.W.instObj C dx) ∧
   ∃ mA,h.Ns1 dx mA/\(∀ f,kZ (fs.lookup f) (mA f))/\PySem.Within mA (fs.map (·.1))
 | .own _=>∃ o,h.get? a=some o
 | .xd fs=>∃ mA,h.Ns1 a mA/\∀ f,kZ (fs.lookup f) (mA f)
 | .hU lo hi=>∃ t u v,h.get? a=some { cls:=.type "range", data:=.fields #[.int lo t,.int hi u,.int 1 v] }
 | .o8 o u=>h.get? a=some o/\bV H h a u
 | .Dk ps=>h.get? a=some { cls:=.none,data:=.fields ps }
 | .met f x=>h.get? a=some (PySem.W.methodObj (.ref f) (.ref x))
 | .ext φ=>φ h/\(∃ o,h.get? a=some o)/\∀ h1 h2:Heap,φ h1->(∀ o,h1.get? a=some o->h2.get? a=some o)->φ h2
def lU(H:Hp)(h:Heap):Prop:=∀ a o,H a=some o->bV P w H h a o
end
variable{h h':Heap}{H':Hp}{w:World}{P:Program}
section
variable{o:HO}
theorem bV.lt(x:bV P w H h a o):a<h.objs.size:=by
 cases o with
 | lst xs=>obtain⟨_,_,_,_,e⟩:=x;exact Heap.lt_size e
 | tup xs=>obtain⟨_,_,_,p⟩:=x;exact p.lt
 | dK Lu=>obtain⟨_,_,_,_,o,_,_,e,_⟩:=x;exact Heap.lt_size e
 | dT Lu=>obtain⟨_,_,_,_,o,_,_,e,_⟩:=x;exact Heap.lt_size e
 | set S n=>obtain⟨o,_,_,_,e,_⟩:=x;exact Heap.lt_size e
 | ins C dx fs=>obtain⟨_,_,_,e,_⟩:=x;exact Heap.lt_size e
 | own y=>obtain⟨_,e⟩:=x;exact Heap.lt_size e
 | xd fs=>obtain⟨_,⟨_,_,_,e,_⟩,_⟩:=x;exact Heap.lt_size e
 | hU lo hi=>obtain⟨_,_,_,e⟩:=x;exact Heap.lt_size e
 | o8 ob u=>obtain⟨e,_⟩:=x;exact Heap.lt_size e
 | Dk ps=>exact Heap.lt_size (show h.get? a=some _ from x)
 | met f y=>exact Heap.lt_size (show h.get? a=some _ from x)
 | ext φ=>obtain⟨_,⟨_,e⟩,_⟩:=x;exact Heap.lt_size e
theorem Paired.GX{α β:Type}{F G:α->β->Prop}:∀ {l₁:List α} {l₂:List β},Paired F l₁ l₂->(∀ a b,F a b->G a b)->Paired G l₁ l₂
 | _,_,.nil,_=>.nil
 | _,_,.cons r t,f=>.cons (f _ _ r) (Paired.GX t f)
theorem bV.ma(x:bV P w H h a o)(k:∀ b u,(b=a\/H b=some (.own a))->h.get? b=some u->h'.get? b=some u)
  (ho:∀ b,H b=some (.own a)->H' b=some (.own a)) (ht:∀ b xs,H b=some (.tup xs)->H' b=some (.tup xs)):bV P w H' h' a o:=by
 induction o with
 | lst xs=>obtain⟨z,Kv,n,r,e⟩:=x;exact⟨z,Kv,n,r,k _ _ (.inl rfl) e⟩
 | tup xs=>obtain⟨z,Kv,r,ob,e,c⟩:=x;exact⟨z,Kv,r,ob,k _ _ (.inl rfl) e,c⟩
 | dK Lu=>obtain⟨z,y,vs,r,ob,es,ep,e,c⟩:=x;exact⟨z,y,vs,r,ob,es,ep,k _ _ (.inl rfl) e,c⟩
 | dT Lu =>
  obtain⟨z,y,xs,r,ob,es,ep,e,c⟩:=x
  exact⟨z,y,xs,Paired.GX r λp q z=>⟨z.1,ht _ _ z.2.1,z.2.2⟩,ob,es,ep,k _ _ (.inl rfl) e,c⟩
 | set S n=>obtain⟨ob,es,ep,t,e,c⟩:=x;exact⟨ob,es,ep,t,k _ _ (.inl rfl) e,c⟩
 | ins C dx fs =>
  obtain⟨d,z,ne,e,mA,⟨od,es,ep,e2,c⟩,r⟩:=x
  exact⟨ho _ d,z,ne,k _ _ (.inl rfl) e,mA,⟨od,es,ep,k _ _ (.inr d) e2,c⟩,r⟩
 | own y=>obtain⟨ob,e⟩:=x;exact⟨ob,k _ _ (.inl rfl) e⟩
 | xd fs=>obtain⟨mA,⟨od,es,ep,e,c⟩,r⟩:=x;exact⟨mA,⟨od,es,ep,k _ _ (.inl rfl) e,c⟩,r⟩
 | hU lo hi=>obtain⟨t,u,v,e⟩:=x;exact⟨t,u,v,k _ _ (.inl rfl) e⟩
 | o8 ob u ih=>obtain⟨e,q⟩:=x;exact⟨k _ _ (.inl rfl) e,ih q⟩
 | Dk ps =>
  have e:h.get? a=some { cls:=.none,data:=.fields ps }:=x
  show h'.get? a=some { cls:=.none,data:=.fields ps }
  exact k a _ (.inl rfl) e
 | met f y =>
  have e:h.get? a=some (PySem.W.methodObj (.ref f) (.ref y)):=x
  show h'.get? a=some (PySem.W.methodObj (.ref f) (.ref y))
  exact k a _ (.inl rfl) e
 | ext φ=>obtain⟨p,⟨o,e⟩,st⟩:=x;exact⟨st _ _ p λo q=>k _ _ (.inl rfl) q,⟨o,k _ _ (.inl rfl) e⟩,st⟩
theorem lU.lt(x:lU P w H h)(e:H a=some o):a<h.objs.size:=(x a o e).lt
theorem lU.fresh(x:lU P w H h)(e:h.objs.size<=a):H a=none:=by
 cases q:H a with
 | none=>rfl
 | some u=>exact absurd (Nat.lt_of_lt_of_le (x.lt q) e) (Nat.lt_irrefl _)
theorem lU.kept(x:lU P w H h)(k:∀ b u,h.get? b=some u->h'.get? b=some u):lU P w H h':=λa o e =>
 (x a o e).ma (λb u _ q=>k b u q) (λ_ q=>q) λ_ _ q=>q
theorem lU.laid(x:lU P w H h)(k:∀ b u,h.get? b=some u->h'.get? b=some u)(hp:h.objs.size<=a)(new:bV P w (upd H a o) h' a o):lU P w (upd H a o) h':=λb u e=>by
 have hn:=x.fresh hp
 by_cases hb:b=a
 ·subst hb;rw[aw] at e;cases e;exact new
 ·rw[ak hb] at e
  exact(x b u e).ma (λc v _ q=>k c v q) (λc q=>by rw[ak (bK q hn)];exact q) λc xs q=>by rw[ak (bK q hn)];exact q
end
def Rd(H:Hp)(a:Addr)(u:HO):Prop:=H a=some u\/∃ o,H a=some (.o8 o u)
theorem Rd.ok{u:HO}(r:Rd H a u)(x:lU P w H h):bV P w H h a u:=by
 rcases r with r | ⟨o,r⟩
 ·exact x a u r
 ·obtain⟨_,q⟩:=x a _ r
  exact q
def Ih:Option HO->Prop
 | some (.lst _)=>True
 | some (.dK _)=>True
 | some (.dT _)=>True
 | some (.set _ _)=>True
 | some (.ins _ _ _)=>True
 | some (.ext _)=>True
 | _=>False
section
variable{x e:Addr}{o':HO}
theorem lU.write(ok:lU P w H h)(mu:Ih (H x))(he:e=x\/H e=some (.own x))(k:∀ b u,b≠e->h.get? b=some u->h'.get? b=some u)(NL:∃ u,h'.get? e=some u)
  (new:bV P w (upd H x o') h' x o'):lU P w (upd H x o') h':=λb u q=>by
 have Of:∀ c y,H c=some (.own y)->c≠x:=λc y r z=>by subst z;rw[r] at mu;exact mu
 have ntup:∀ c xs,H c=some (.tup xs)->c≠x:=λc xs r z=>by subst z;rw[r] at mu;exact mu
 by_cases hb:b=x
 ·subst hb;rw[aw] at q;cases q;exact new
 ·rw[ak hb] at q
  by_cases MJ:b=e
  ·have q':H b=some (.own x):=by
    rcases he with z | z
    ·exact absurd (MJ.trans z) hb
    ·rw[MJ];exact z
   rw[q] at q';cases q'
   obtain⟨v,hv⟩:=NL
   exact⟨v,by rw[MJ];exact hv⟩
  ·refine(ok b u q).ma (λc v hc r=>k c v ?_ r) (λc r=>by rw[ak (Of c b r)];exact r) λc xs r=>by rw[ak (ntup c xs r)];exact r
   rcases hc with rfl | hc
   ·exact MJ
   ·rintro rfl
    rcases he with z | z
    ·exact Of c b hc z
    ·rw[hc] at z;cases z;exact hb rfl
end
structure Un (fs ex:List Addr) (H H':Hp) (h h':Heap):Prop where
 keep:∀ b o,h.get? b=some o->H b=none->b ∉ fs->b ∉ ex->h'.get? b=some o
 slot:∀ b o,h.get? b=some o->H b=none->b∈fs->b ∉ ex->∃ sl,h'.get? b=some { o with slots:=sl }
 free:∀ b o,h.get? b=some o->H b=none->b ∉ ex->H' b=none
 there:∀ b o,h.get? b=some o->b ∉ ex->∃ o',h'.get? b=some o'
 rh:∀ b xs,H b=some (.tup xs)->H' b=some (.tup xs)
 lH:∀ b o u,H b=some (.o8 o u)->H' b=some (.o8 o u)
 qw:∀ b ps,H b=some (.Dk ps)->∃ more,H' b=some (.Dk (ps++more))
section
variable{fs Nr ex ex':List Addr}{H1 H2:Hp}{h1 h2:Heap}{x e:Addr}{o:HO}
theorem Un.any(u:Un fs ex H H1 h h1){ob:Obj}(q:h.get? b=some ob)(n:H b=none)(hx:b ∉ ex):∃ sl,h1.get? b=some { ob with slots:=sl }:=by
 by_cases hb:b∈fs
 ·exact u.slot b ob q n hb hx
 ·exact⟨ob.slots,u.keep b ob q n hb hx⟩
theorem Un.kept(k:∀ b u,h.get? b=some u->h'.get? b=some u):Un fs ex H H h h' :=
 ⟨λb ob q _ _ _=>k b ob q,λb ob q _ _ _=>⟨ob.slots,k b ob q⟩,λ_ _ _ n _=>n,λb ob q _=>⟨ob,k b ob q⟩,λ_ _ q=>q,λ_ _ _ q=>q,λ_ ps q=>⟨#[],by rw[q];simp⟩⟩
theorem Un.refl:Un fs ex H H h h:=Un.kept λ_ _ q=>q
theorem Un.laid(k:∀ b u,h.get? b=some u->h'.get? b=some u)(hp:h.objs.size<=a)(hn:H a=none):Un fs ex H (upd H a o) h h' where
 keep:=λb u q _ _ _=>k b u q
 slot:=λb u q _ _ _=>⟨u.slots,k b u q⟩
 free:=λb u q n _=>by rw[ak (Nat.ne_of_lt (Nat.lt_of_lt_of_le (Heap.lt_size q) hp))];exact n
 there:=λb u q _=>⟨u,k b u q⟩
 rh:=λb xs q=>by rw[ak (bK q hn)];exact q
 lH:=λb u xs q=>by rw[ak (bK q hn)];exact q
 qw:=λb ps q=>⟨#[],by rw[ak (bK q hn),q];simp⟩
theorem Un.write(mu:Ih (H x))(he:e=x\/H e=some (.own x))(k:∀ b u,b≠e->h.get? b=some u->h'.get? b=some u)(NL:∃ u,h'.get? e=some u):Un fs ex H (upd H x o) h h':=by
 have hx:∀ b,H b=none->b≠x:=λb n z=>by subst z;rw[n] at mu;exact mu
 have hb:∀ b,H b=none->b≠e:=λb n z=>by
  subst z
  rcases he with r | r
  ·exact hx b n r
  ·rw[n] at r;cases r
 have hm:∀ b u,H b=some u->¬ Ih (some u)->b≠x:=λb u q nm z=>by subst z;rw[q] at mu;exact nm mu
 refine⟨λb u q n _ _=>k b u (hb b n) q,λb u q n _ _=>⟨u.slots,k b u (hb b n) q⟩,λb u q n _=>by rw[ak (hx b n)];exact n,λb u q _=>?_,
  λb xs q=>by rw[ak (hm b _ q λz=>z)];exact q,λb u xs q=>by rw[ak (hm b _ q λz=>z)];exact q,λb ps q=>⟨#[],by rw[ak (hm b _ q λz=>z),q];simp⟩⟩
 by_cases MJ:b=e
 ·subst MJ;exact NL
 ·exact⟨u,k b u MJ q⟩
end
def H_(h:Heap)(H:Hp):List Addr:=(List.range h.objs.size).filter λa=>(H a).isSome
def qS(h:Heap)(H:Hp):Heap:=PySem.W.hideAll h (H_ h H)
theorem wU(h:Heap)(H:Hp):(qS h H).objs.size=h.objs.size:=PySem.W.hideAll_size _ _
variable{o:Obj}
theorem yy(e:h.get? b=some o)(n:H b=none):(qS h H).get? b=some o :=
 PySem.W.hideAll_get _ e λhm=>by
  have q:(H b).isSome=true:=(List.mem_filter.mp hm).2
  rw[n] at q;simp at q
theorem Cg(e:(qS h H).get? b=some o):h.get? b=some o/\H b=none:=by
 have e':h.get? b=some o:=PySem.W.of_hideAll (H_ h H) e
 refine⟨e',?_⟩
 cases q:H b with
 | none=>rfl
 | some x =>
  have hm:b∈H_ h H:=List.mem_filter.mpr ⟨List.mem_range.mpr (Heap.lt_size e'),by simp[q]⟩
  have z:(qS h H).get? b=none:=PySem.W.hideAll_none (H_ h H) hm
  rw[z] at e;cases e
def CK(g h:Heap)(L:Addr):List (Addr×Obj):=(List.range h.objs.size).filterMap λa=>if a=L\/(g.get? a).isSome=true then none else (h.get? a).map λo=>(a,o)
def rest(g h:Heap)(L d:Addr):List (Addr×Obj):=(CK g h L).filter λp=>decide (p.1≠d)
structure Mod (K:PySem.W.Frag) (mg:Str->Option Value) (base:Heap):Prop where
 Dy:K.In base
 glob:base.Ns mainGlobals mg
 blt:∃ mb,base.Ns builtinsNs mb/\∀ x:Str,x ≠ "__name__" -> mb x=bootBuiltins x
 nolimit:base.NoLimit
structure Cx where
 prog:Program
 w:World
 K:PySem.W.Frag
 mg:Str->Option Value
 base:Heap
 A:Around
 N:List Str
 s₀:Shared
 H₀:Hp
 env:Env
 outer:List Env
 stack:List Env
 ex:List Addr
 fn:Str->Bool
 calm:Bool
 pn:List (Addr×Obj)
 xe:Value->Shared->Prop
def uv(l:List Env):List Addr:=l.filterMap (·.frame)
abbrev Cx.fs(X:Cx):List Addr:=uv X.outer
def Bn(sc:Scope)(x:Str):Prop:=sc.names.lookup x=some .local\/sc.names.lookup x=some .cell\/sc.names.lookup x=some .free
def Loc(sc:Scope)(x:Str):Prop:=sc.names.lookup x=some .local\/sc.names.lookup x=some .cell
def Look(env:Env)(h:Heap)(m:Str->Option Value)(x:Str)(u:Value):Prop :=
 (env.kindOf x=some .local/\m x=some u)\/((env.kindOf x=some .cell\/env.kindOf x=some .free)/\∃ c,env.cells.lookup x=some c/\h.IsCell c (some u))
structure Cx.Ok (X:Cx):Prop where
 mod:Mod X.K X.mg X.base
 kind:X.env.scope.kind=.function
 glob:X.env.globals=mainGlobals
 blt:X.env.builtins=builtinsNs
 above:X.s₀.heap.objs.size<=X.env.locals
 inj:∀ x y c,X.env.cells.lookup x=some c->X.env.cells.lookup y=some c->x=y
 has:∀ x,(X.env.kindOf x=some .cell\/X.env.kindOf x=some .free)->∃ c,X.env.cells.lookup x=some c
 HA:∀ x c,X.fn x=true->X.env.cells.lookup x=some c->X.s₀.heap.objs.size<=c
 hd:X.calm=true->X.A.handled=none
 frames:X.A.frames=some X.stack
 Ia:X.stack=X.outer\/(X.stack=X.env::X.outer/\X.env.frame=some X.env.locals)
 JT:∀ b∈X.ex,b≠X.env.locals/\∀ x c,X.env.cells.lookup x=some c->c≠b
 bs:∀ b o,X.base.get? b=some o->X.s₀.heap.get? b=some o/\X.H₀ b=none
 DT:X.base.objs.size<=X.s₀.heap.objs.size
 yf:∀ b o,X.base.get? b=some o->b ∉ X.ex
 AW:∀ b∈X.ex,b ∉ X.fs
 mB:X.s₀.heap.FunFrames X.base X.outer
 Gm:∀ b∈X.fs,X.H₀ b=none
structure Inv (X:Cx) (Kt:List (Addr×Obj)) (σ:List (Option V)) (H:Hp) (s:Shared):Prop where
 ok:X.Ok
 os:s.os=X.s₀.os
 bare:AllBare s.gens
 base:Un X.fs X.ex X.H₀ H X.s₀.heap s.heap
 loc:∃ m,s.heap.Ns X.env.locals m/\∀ (i:Nat) (x:Str) (v:V),X.N[i]?=some x->σ[i]?=some (some v)->Bn X.env.scope x->∃ u,RelV v u/\Look X.env s.heap m x u
 cell:∀ x c,X.env.cells.lookup x=some c->∃ v,s.heap.IsCell c v
 free:H X.env.locals=none
 jV:∀ x c,X.env.cells.lookup x=some c->H c=none
 pin:∀ p∈X.pn++Kt,s.heap.get? p.1=some p.2/\H p.1=none/\p.1≠X.env.locals/\p.1 ∉ X.fs/\∀ v,p.2.data≠.cell v
 bC:lU X.prog X.w H s.heap
 len:σ.length=X.N.length
variable{s:Shared}{Kt:List (Addr×Obj)}{X:Cx}
variable{ch:List Addr}{d':Drawn}{t':Nat}{g':Array GenState}
variable{it:Addr}
variable{x:Str}{i:Nat}{N:List Str}
variable{u:Value}{v:V}{E:Value->Shared->Prop}{A:Around}
section
variable{σ:List (Option V)}
theorem Cx.Ok.Jx(ok:X.Ok)(e:X.base.get? b=some o):b ∉ X.fs:=λhb=>by
 have:=(ok.mB.mem hb).1
 rw[e] at this;cases this
theorem Inv.bs(I:Inv X Kt σ H s):∀ b o,X.base.get? b=some o->s.heap.get? b=some o/\H b=none:=λb o e =>
 ⟨I.base.keep b o (I.ok.bs b o e).1 (I.ok.bs b o e).2 (I.ok.Jx e) (I.ok.yf b o e),I.base.free b o (I.ok.bs b o e).1 (I.ok.bs b o e).2 (I.ok.yf b o e)⟩
theorem Inv.bk(I:Inv X Kt σ H s):∀ b o,X.base.get? b=some o->s.heap.get? b=some o:=λb o e=>(I.bs b o e).1
theorem Inv.mod(I:Inv X Kt σ H s):Mod X.K X.mg X.base:=I.ok.mod
theorem Inv.ja(I:Inv X Kt σ H s):X.K.In s.heap:=I.ok.mod.Dy.keeps I.bk
theorem Inv.lt(I:Inv X Kt σ H s):X.env.locals<s.heap.objs.size:=let ⟨_,hn,_⟩:=I.loc;hn.lt
theorem Inv.sz(I:Inv X Kt σ H s):X.s₀.heap.objs.size<=s.heap.objs.size:=Nat.le_trans I.ok.above (Nat.le_of_lt I.lt)
theorem Inv.IS(I:Inv X Kt σ H s)(h:s.heap.objs.size<=a):a ∉ X.fs:=λhb=>by
 obtain⟨_,o,ho,_⟩:=I.ok.mB.mem hb
 exact absurd (Nat.lt_of_lt_of_le (Heap.lt_size ho) (Nat.le_trans I.sz h)) (Nat.lt_irrefl _)
theorem Inv.F5(I:Inv X Kt σ H s):∀ x c,X.env.cells.lookup x=some c->c≠X.env.locals:=λx c e z=>by
 obtain⟨v,o,ho,hd⟩:=I.cell x c e
 obtain⟨m,⟨o',es,ep,Mr,NX,_⟩,_⟩:=I.loc
 rw[z,Mr] at ho;cases ho;rw[NX] at hd;cases hd
theorem Inv.mB(I:Inv X Kt σ H s):s.heap.FunFrames X.base X.outer:=by
 have all:∀ (l:List Env),(∀ b∈uv l,b∈X.fs)->X.s₀.heap.FunFrames X.base l->s.heap.FunFrames X.base l:=by
  intro l
  induction l with
  | nil=>intro _ _;trivial
  | cons env r ih =>
   intro hs hl
   obtain⟨hk,⟨L,o,hf,hn,ho,hd⟩,hr⟩:=hl
   have hL:L∈X.fs:=hs L (by unfold uv;rw[List.filterMap_cons,hf];exact List.mem_cons_self)
   obtain⟨sl,e⟩:=I.base.slot L o ho (I.ok.Gm L hL) hL λz=>I.ok.AW L z hL
   exact⟨hk,⟨L,_,hf,hn,e,hd⟩,ih (λb hb=>hs b (by unfold uv;rw[List.filterMap_cons,hf];exact List.mem_cons_of_mem _ hb)) hr⟩
 exact all X.outer (λ_ hb=>hb) I.ok.mB
theorem Inv.stack(I:Inv X Kt σ H s):s.heap.FunFrames X.base X.stack:=by
 rcases I.ok.Ia with e | ⟨e,hf⟩
 ·rw[e];exact I.mB
 ·rw[e]
  obtain⟨m,hn,_⟩:=I.loc
  refine .cons (by rw[I.ok.kind];decide) hf hn ?_ I.mB
  exact Heap.get?_none_of_le (Nat.le_trans I.ok.DT I.ok.above)
theorem Inv.rG(I:Inv X Kt σ H s):∀ b∈uv X.stack,b∈X.env.locals::X.fs:=λb hb=>by
 rcases I.ok.Ia with e | ⟨e,hf⟩
 ·rw[e] at hb;exact List.mem_cons_of_mem _ hb
 ·rw[e] at hb
  unfold uv at hb
  rw[List.filterMap_cons,hf] at hb
  exact hb
theorem Inv.qL(I:Inv X Kt σ H s):∀ b∈uv X.stack,H b=none:=λb hb=>by
 rcases List.mem_cons.mp (I.rG b hb) with e | hb
 ·rw[e];exact I.free
 ·obtain⟨_,o,ho,_⟩:=I.ok.mB.mem hb
  exact I.base.free b o ho (I.ok.Gm b hb) λz=>I.ok.AW b z hb
theorem Inv.step(I:Inv X Kt σ H s)
  (Mo:∀ b∈ch,(b∈X.ex\/X.s₀.heap.objs.size<=b)/\b≠X.env.locals/\(∀ x c,X.env.cells.lookup x=some c->c≠b)/\∀ p∈X.pn++Kt,p.1≠b)
  (keep:∀ b o,b≠X.env.locals->b ∉ X.fs->b ∉ ch->s.heap.get? b=some o->H b=none->h'.get? b=some o)
  (slot:∀ b o,b≠X.env.locals->b∈X.fs->b ∉ ch->s.heap.get? b=some o->H b=none->∃ sl,h'.get? b=some { o with slots:=sl }) (free:∀ b o,b ∉ ch->s.heap.get? b=some o->H b=none->H' b=none)
  (there:∀ b o,b ∉ ch->s.heap.get? b=some o->∃ o',h'.get? b=some o')
  (rh:∀ b xs,H b=some (.tup xs)->H' b=some (.tup xs)) (lH:∀ b o u,H b=some (.o8 o u)->H' b=some (.o8 o u)) (qw:∀ b ps,H b=some (.Dk ps)->∃ more,H' b=some (.Dk (ps++more)))
  (ns:∀ m,s.heap.Ns X.env.locals m->h'.Ns X.env.locals m) (bC:lU X.prog X.w H' h') (hg:AllBare g') :
  Inv X Kt σ H' { s with heap:=h',gens:=g',drawn:=d',toks:=t' }:=by
 have neL:∀ b o,X.s₀.heap.get? b=some o->b≠X.env.locals:=λb o e=>Nat.ne_of_lt (Nat.lt_of_lt_of_le (Heap.lt_size e) I.ok.above)
 have neC:∀ b o,X.s₀.heap.get? b=some o->b ∉ X.ex->b ∉ ch:=λb o e hx hb=>by
  rcases(Mo b hb).1 with z | z
  ·exact hx z
  ·exact absurd (Nat.lt_of_lt_of_le (Heap.lt_size e) z) (Nat.lt_irrefl _)
 have cellK:∀ x c,X.env.cells.lookup x=some c->∀ v,s.heap.IsCell c v->h'.IsCell c v:=λx c e v ⟨o,ho,hd⟩=>by
  have Oe:c ∉ ch:=λz=>(Mo c z).2.2.1 x c e rfl
  by_cases hc:c∈X.fs
  ·obtain⟨sl,q⟩:=slot c o (I.F5 x c e) hc Oe ho (I.jV x c e)
   exact⟨_,q,hd⟩
  ·exact⟨o,keep c o (I.F5 x c e) hc Oe ho (I.jV x c e),hd⟩
 refine⟨I.ok,I.os,hg,⟨λb o e n hb hx=>?_,λb o e n hb hx=>?_,λb o e n hx=>?_,λb o e hx=>?_,λb xs e=>rh b xs (I.base.rh b xs e),λb o xs e=>lH b o xs (I.base.lH b o xs e),λb ps e=>?_⟩,?_,λx c e=>?_,?_,λx c e=>?_,λp hp=>?_,bC,I.len⟩
 ·exact keep b o (neL b o e) hb (neC b o e hx) (I.base.keep b o e n hb hx) (I.base.free b o e n hx)
 ·obtain⟨sl,e1⟩:=I.base.slot b o e n hb hx
  obtain⟨sl',e2⟩:=slot b _ (neL b o e) hb (neC b o e hx) e1 (I.base.free b o e n hx)
  exact⟨sl',e2⟩
 ·obtain⟨o',e1⟩:=I.base.there b o e hx
  exact free b o' (neC b o e hx) e1 (I.base.free b o e n hx)
 ·obtain⟨o',e1⟩:=I.base.there b o e hx
  exact there b o' (neC b o e hx) e1
 ·obtain⟨m1,e1⟩:=I.base.qw b ps e
  obtain⟨m2,e2⟩:=qw b _ e1
  exact⟨m1++m2,by rw[e2,Array.append_assoc]⟩
 ·obtain⟨m,hn,hl⟩:=I.loc
  refine⟨m,ns m hn,λi x v e1 e2 e3=>?_⟩
  obtain⟨u,r,l⟩:=hl i x v e1 e2 e3
  refine⟨u,r,?_⟩
  rcases l with l | ⟨k,c,e,z⟩
  ·exact .inl l
  ·exact .inr ⟨k,c,e,cellK x c e _ z⟩
 ·obtain⟨v,z⟩:=I.cell x c e
  exact⟨v,cellK x c e v z⟩
 ·obtain⟨m,⟨o,_,_,ho,_⟩,_⟩:=I.loc
  exact free _ o (λz=>(Mo _ z).2.1 rfl) ho I.free
 ·obtain⟨v,o,ho,hd⟩:=I.cell x c e
  exact free c o (λz=>(Mo c z).2.2.1 x c e rfl) ho (I.jV x c e)
 ·obtain⟨e,n,ne,nf,d⟩:=I.pin p hp
  have Oe:p.1 ∉ ch:=λz=>(Mo p.1 z).2.2.2 p hp rfl
  exact⟨keep p.1 p.2 ne nf Oe e n,free p.1 p.2 Oe e n,ne,nf,d⟩
theorem Inv.un(I:Inv X Kt σ H s)(u:Un X.fs [] H H' s.heap h')(bC:lU X.prog X.w H' h'):Inv X Kt σ H' { s with heap:=h',toks:=t' }:=by
 obtain⟨m,⟨o,es,ep,ho,r⟩,_⟩:=id I.loc
 obtain⟨sl,hL⟩:=u.any ho I.free (by simp)
 exact I.step (g':=s.gens) (d':=s.drawn) (ch:=[]) (λ_ z=>nomatch z) (λb o _ hb _ e n=>u.keep b o e n hb (by simp)) (λb o _ hb _ e n=>u.slot b o e n hb (by simp)) (λb o _ e n=>u.free b o e n (by simp)) (λb o _ e=>u.there b o e (by simp)) u.rh u.lH u.qw (λm' hm=>by
  obtain⟨o',es',ep',Mr,r'⟩:=hm
  rw[ho] at Mr;cases Mr
  exact⟨_,es',ep',hL,r'⟩) bC I.bare
theorem Inv.call(I:Inv X Kt σ H s)(u:Un (uv X.stack) ch H H' s.heap h')(bC:lU X.prog X.w H' h')(hg:AllBare g')
  (Mo:∀ b∈ch,(b∈X.ex\/X.s₀.heap.objs.size<=b)/\b≠X.env.locals/\(∀ x c,X.env.cells.lookup x=some c->c≠b)/\∀ p∈X.pn++Kt,p.1≠b) :
  Inv X Kt σ H' { s with heap:=h',gens:=g',drawn:=d',toks:=t' }:=by
 obtain⟨m,⟨o,es,ep,ho,r⟩,_⟩:=id I.loc
 obtain⟨sl,hL⟩:=u.any ho I.free λz=>(Mo _ z).2.1 rfl
 exact I.step (ch:=ch) Mo (λb o hL hb hc e n=>u.keep b o e n (λz=>(List.mem_cons.mp (I.rG b z)).elim hL hb) hc) (λb o _ _ hc e n=>u.any e n hc) (λb o hc e n=>u.free b o e n hc) (λb o hc e=>u.there b o e hc) u.rh u.lH u.qw (λm' hm=>by
  obtain⟨o',es',ep',Mr,r'⟩:=hm
  rw[ho] at Mr;cases Mr
  exact⟨_,es',ep',hL,r'⟩) bC hg
theorem Inv.turned(I:Inv X Kt σ H s)(k:∀ b o,b≠it->s.heap.get? b=some o->h'.get? b=some o)(hn:H it=none)(hL:it≠X.env.locals)
  (h1:it∈X.ex\/X.s₀.heap.objs.size<=it) (h2:∀ x c,X.env.cells.lookup x=some c->c≠it) (h3:∀ p∈X.pn++Kt,p.1≠it):Inv X Kt σ H { s with heap:=h',toks:=t' }:=by
 have nit:∀ b u,H b=some u->b≠it:=λb u e z=>by rw[z,hn] at e;cases e
 refine I.step (g':=s.gens) (d':=s.drawn) (ch:=[it]) (λb hb=>?_) (λb o _ _ hc e _=>k b o (λz=>hc (by simp[z])) e) (λb o _ _ hc e _=>⟨o.slots,k b o (λz=>hc (by simp[z])) e⟩) (λ_ _ _ _ n=>n)
  (λb o hc e=>⟨o,k b o (λz=>hc (by simp[z])) e⟩) (λ_ _ e=>e) (λ_ _ _ e=>e) (λb ps e=>⟨#[],by rw[e];simp⟩) (λm hm=>?_) (λb u e=>?_) I.bare
 ·have e:b=it:=by simpa using hb
  subst e
  exact⟨h1,hL,h2,h3⟩
 ·obtain⟨o,es,ep,ho,r⟩:=hm
  exact⟨o,es,ep,k _ o (Ne.symm hL) ho,r⟩
 ·refine(I.bC b u e).ma (λc v hc q=>k c v ?_ q) (λ_ q=>q) λ_ _ q=>q
  rcases hc with z | z
  ·rw[z];exact nit b u e
  ·exact nit c _ z
theorem Inv.tok(I:Inv X Kt σ H s)(t:Nat):Inv X Kt σ H { s with toks:=t }:=I.un (h':=s.heap) (t':=t) Un.refl I.bC
theorem Inv.kept{t':Nat}(I:Inv X Kt σ H s)(k:∀ b u,s.heap.get? b=some u->h'.get? b=some u):Inv X Kt σ H { s with heap:=h',toks:=t' }:=I.un (Un.kept k) (I.bC.kept k)
theorem Inv.laid{a:Addr}{o:HO}{t':Nat}(I:Inv X Kt σ H s)(k:∀ b u,s.heap.get? b=some u->h'.get? b=some u)(hp:s.heap.objs.size<=a)(new:bV X.prog X.w (upd H a o) h' a o) :
  Inv X Kt σ (upd H a o) { s with heap:=h',toks:=t' }:=I.un (Un.laid k hp (I.bC.fresh hp)) (I.bC.laid k hp new)
theorem Inv.write{x e:Addr}{o:HO}{t':Nat}(I:Inv X Kt σ H s)(mu:Ih (H x))(he:e=x\/H e=some (.own x))(k:∀ b u,b≠e->s.heap.get? b=some u->h'.get? b=some u)(NL:∃ u,h'.get? e=some u)
  (new:bV X.prog X.w (upd H x o) h' x o):Inv X Kt σ (upd H x o) { s with heap:=h',toks:=t' }:=I.un (Un.write mu he k NL) (I.bC.write mu he k NL new)
theorem Inv.vY{M_:List (Addr×Obj)}(I:Inv X Kt σ H s)(h:∀ p∈M_,s.heap.get? p.1=some p.2/\H p.1=none/\p.1≠X.env.locals/\p.1 ∉ X.fs/\∀ v,p.2.data≠.cell v):Inv X M_ σ H s :=
 ⟨I.ok,I.os,I.bare,I.base,I.loc,I.cell,I.free,I.jV,λp hp=>(List.mem_append.mp hp).elim (λz=>I.pin p (List.mem_append_left _ z)) (h p),I.bC,I.len⟩
theorem ui(hN:N.Nodup){j:Nat}(a:N[i]?=some x)(b:N[j]?=some x):i=j:=by
 obtain⟨h1,e1⟩:=List.getElem?_eq_some_iff.mp a
 obtain⟨h2,e2⟩:=List.getElem?_eq_some_iff.mp b
 exact(List.getElem_inj hN).mp (e1.trans e2.symm)
theorem p9{M:Model}{Q:Unit->Shared->Prop}(I:Inv X Kt σ H s)(hN:X.N.Nodup)(hi:X.N[i]?=some x)(hx:Loc X.env.scope x)(r:RelV v u)
  (h:∀ s',Inv X Kt (σ.set i (some v)) H s'->(∃ a,Heap.SameBut a s.heap s'.heap/\(a=X.env.locals\/X.env.cells.lookup x=some a))->Q () s') (hf:autoParam (X.fn x=true\/X.env.scope.names.lookup x=some .local) aF._auto_1):wpAny M A (storeName X.env x u) Q E s:=by
 obtain⟨m,hn,hl⟩:=id I.loc
 have hcls:(X.env.scope.kind==.class||(X.env.scope.kind==.module&&X.env.locals != X.env.globals))=false:=by rw[I.ok.kind];rfl
 have hiσ:i<σ.length:=by rw[I.len];exact(List.getElem?_eq_some_iff.mp hi).1
 have F5:=I.F5
 have tracked:∀ {a:Addr} {h':Heap},(∃ o,s.heap.get? a=some o/\H a=none)->Heap.SameBut a s.heap h'->lU X.prog X.w H h':=λ{a h'} ha hs b ob e=>by
  obtain⟨_,_,MD⟩:=ha
  refine(I.bC b ob e).ma (λc w' hc q=>(hs.2 c ?_).trans q) (λ_ q=>q) λ_ _ q=>q
  rintro rfl
  rcases hc with rfl | hc
  ·rw[MD] at e;cases e
  ·rw[MD] at hc;cases hc
 rcases hx with hk | hk
 ·refine wpAny_storeName_local hk hn (λh' hn' hs=>?_) hcls
  obtain⟨oL,_,_,hoL,_⟩:=id hn
  refine h _ ⟨I.ok,I.os,I.bare,⟨λb o e n hb hx=>?_,λb o e n hb hx=>?_,I.base.free,λb o e hx=>?_,I.base.rh,I.base.lH,I.base.qw⟩,⟨_,hn',λj y v' e1 e2 e3=>?_⟩,λy c e=>?_,I.free,I.jV,λp hp=>?_,tracked ⟨oL,hoL,I.free⟩ hs,by simpa using I.len⟩ ⟨_,hs,.inl rfl⟩
  ·exact(hs.2 b (Nat.ne_of_lt (Nat.lt_of_lt_of_le (Heap.lt_size e) I.ok.above))).trans (I.base.keep b o e n hb hx)
  ·obtain⟨sl,e1⟩:=I.base.slot b o e n hb hx
   exact⟨sl,(hs.2 b (Nat.ne_of_lt (Nat.lt_of_lt_of_le (Heap.lt_size e) I.ok.above))).trans e1⟩
  ·obtain⟨o',e1⟩:=I.base.there b o e hx
   exact⟨o',(hs.2 b (Nat.ne_of_lt (Nat.lt_of_lt_of_le (Heap.lt_size e) I.ok.above))).trans e1⟩
  ·by_cases hj:j=i
   ·subst hj
    rw[hi] at e1;cases e1
    rw[List.getElem?_set_self hiσ] at e2
    cases e2
    exact⟨u,r,.inl ⟨hk,by simp⟩⟩
   ·rw[List.getElem?_set_ne (Ne.symm hj)] at e2
    obtain⟨u',r',q⟩:=hl j y v' e1 e2 e3
    refine⟨u',r',?_⟩
    rcases q with ⟨k,e⟩ | ⟨k,c,e,z⟩
    ·refine .inl ⟨k,?_⟩
     have:y≠x:=λe=>hj (ui hN e1 (e▸hi))
     simp[this,e]
    ·exact .inr ⟨k,c,e,z.sameBut hs (F5 y c e)⟩
  ·obtain⟨w',z⟩:=I.cell y c e
   exact⟨w',z.sameBut hs (F5 y c e)⟩
  ·obtain⟨e,n,ne,nf,d⟩:=I.pin p hp
   exact⟨(hs.2 p.1 ne).trans e,n,ne,nf,d⟩
 ·have hfn:X.fn x=true:=by
   rcases hf with z | z
   ·exact z
   ·rw[z] at hk;cases hk
  obtain⟨c,hc⟩:=I.ok.has x (.inl hk)
  obtain⟨w',z⟩:=I.cell x c hc
  refine wpAny_storeName_cell I.ok.kind hk hc z (λh' Ni hs=>?_)
  obtain⟨oc,hoc,hocd⟩:=id z
  refine h { s with heap:=h' } ⟨I.ok,I.os,I.bare,⟨λb o e n hb hx=>?_,λb o e n hb hx=>?_,I.base.free,λb o e hx=>?_,I.base.rh,I.base.lH,I.base.qw⟩,⟨m,hn.sameBut hs (Ne.symm (F5 x c hc)),λj y v' e1 e2 e3=>?_⟩,λy c' e=>?_,I.free,I.jV,λp hp=>?_,tracked ⟨oc,hoc,I.jV x c hc⟩ hs,by simpa using I.len⟩ ⟨c,hs,.inr hc⟩
  ·exact(hs.2 b (Nat.ne_of_lt (Nat.lt_of_lt_of_le (Heap.lt_size e) (I.ok.HA x c hfn hc)))).trans (I.base.keep b o e n hb hx)
  ·obtain⟨sl,e1⟩:=I.base.slot b o e n hb hx
   exact⟨sl,(hs.2 b (Nat.ne_of_lt (Nat.lt_of_lt_of_le (Heap.lt_size e) (I.ok.HA x c hfn hc)))).trans e1⟩
  ·obtain⟨o',e1⟩:=I.base.there b o e hx
   exact⟨o',(hs.2 b (Nat.ne_of_lt (Nat.lt_of_lt_of_le (Heap.lt_size e) (I.ok.HA x c hfn hc)))).trans e1⟩
  ·by_cases hj:j=i
   ·subst hj
    rw[hi] at e1;cases e1
    rw[List.getElem?_set_self hiσ] at e2
    cases e2
    exact⟨u,r,.inr ⟨.inl hk,c,hc,Ni⟩⟩
   ·rw[List.getElem?_set_ne (Ne.symm hj)] at e2
    obtain⟨u',r',q⟩:=hl j y v' e1 e2 e3
    refine⟨u',r',?_⟩
    rcases q with q | ⟨k,c',e,z'⟩
    ·exact .inl q
    ·refine .inr ⟨k,c',e,z'.sameBut hs ?_⟩
     rintro rfl
     exact hj (ui hN e1 (I.ok.inj _ _ _ e hc▸hi))
  ·by_cases hcc:c'=c
   ·subst hcc;exact⟨_,Ni⟩
   ·obtain⟨w2,z2⟩:=I.cell y c' e
    exact⟨w2,z2.sameBut hs hcc⟩
  ·obtain⟨e,n,ne,nf,d⟩:=I.pin p hp
   refine⟨(hs.2 p.1 ?_).trans e,n,ne,nf,d⟩
   intro q
   rw[q,hoc] at e
   have q':oc=p.2:=Option.some.inj e
   exact d w' (by rw[← q'];exact hocd)
theorem sq{M:Model}{Q:Unit->Shared->Prop}(I:Inv X Kt σ H s)(hN:X.N.Nodup)(hi:X.N[i]?=some x)(hx:Loc X.env.scope x)(r:RelV v u)
  (h:∀ s',Inv X Kt (σ.set i (some v)) H s'->Q () s') (hf:autoParam (X.fn x=true\/X.env.scope.names.lookup x=some .local) aF._auto_1):wpAny M A (storeName X.env x u) Q E s :=
 p9 I hN hi hx r (λs' I' _=>h s' I') hf
theorem Inv.zL{s':Shared}(I:Inv X Kt σ H s)(ho:s'.os=s.os)(u:Un (uv X.stack) ch H H' s.heap s'.heap)(bC:lU X.prog X.w H' s'.heap)(hg:AllBare s'.gens)
  (Mo:∀ b∈ch,(b∈X.ex\/X.s₀.heap.objs.size<=b)/\b≠X.env.locals/\(∀ x c,X.env.cells.lookup x=some c->c≠b)/\∀ p∈X.pn++Kt,p.1≠b):Inv X Kt σ H' s':=by
 obtain⟨h',g',d',t',o'⟩:=s'
 have e:o'=s.os:=ho
 subst e
 exact I.call (g':=g') (t':=t') (d':=d') u bC hg Mo
end
abbrev XK:=Value->Option Addr->Hp->Prop
abbrev St:=List (Option V)
abbrev VK:=V->Hp->Prop
abbrev TE:=St->Hp->VK->Prop
abbrev TT:=St->Hp->(Bool->Hp->Prop)->Prop
abbrev TA:=St->Hp->(List V->Hp->Prop)->Prop
structure Ends where
 nx:St->Hp->Prop
 rt:VK
 bk:St->Hp->Prop:=λ_ _=>False
 ct:St->Hp->Prop:=λ_ _=>False
abbrev TS:=Ends->St->Hp->Prop
def EP(X:Cx)(Kt:List (Addr×Obj))(σ:St)(Q:VK)(u:Value)(s':Shared):Prop:=∃ v H',Inv X Kt σ H' s'/\RelV v u/\Q v H'
def TP(X:Cx)(Kt:List (Addr×Obj))(σ:St)(Q:Bool->Hp->Prop)(b:Bool)(s':Shared):Prop:=∃ H',Inv X Kt σ H' s'/\Q b H'
def AP(X:Cx)(Kt:List (Addr×Obj))(σ:St)(Q:List V->Hp->Prop)(us:List Value)(s':Shared):Prop:=∃ vs H',Inv X Kt σ H' s'/\Vals vs us/\Q vs H'
def SP(X:Cx)(Kt:List (Addr×Obj))(D:Ends)(f:Flow)(s':Shared):Prop :=
 match f with
 | .next=>∃ σ' H',Inv X Kt σ' H' s'/\D.nx σ' H'
 | .brk=>∃ σ' H',Inv X Kt σ' H' s'/\D.bk σ' H'
 | .cont=>∃ σ' H',Inv X Kt σ' H' s'/\D.ct σ' H'
 | .ret u=>∃ v σ' H',Inv X Kt σ' H' s'/\RelV v u/\D.rt v H'
def PE(X:Cx)(e:Expr)(t:TE):Prop :=
 ∀ (Kt:List (Addr×Obj)) (s:Shared) (σ:St) (H:Hp) (Q:VK),Inv X Kt σ H s->t σ H Q->wpAny (model X.prog X.w) X.A (eval e X.env) (EP X Kt σ Q) X.xe s
def PT(X:Cx)(e:Expr)(t:TT):Prop :=
 ∀ (Kt:List (Addr×Obj)) (s:Shared) (σ:St) (H:Hp) (Q:Bool->Hp->Prop),Inv X Kt σ H s->t σ H Q->wpAny (model X.prog X.w) X.A (isTrue e X.env (eval e X.env)) (TP X Kt σ Q) X.xe s
def PW(X:Cx)(e:Expr)(t:TT):Prop :=
 ∀ (whole:Sem Value) (Kt:List (Addr×Obj)) (s:Shared) (σ:St) (H:Hp) (Q:Bool->Hp->Prop),Inv X Kt σ H s->t σ H Q->wpAny (model X.prog X.w) X.A (isTrue e X.env whole) (TP X Kt σ Q) X.xe s
variable{e:Expr}
theorem PW.pt{t:TT}(h:PW X e t):PT X e t:=h _
def PA(X:Cx)(es:List Expr)(t:TA):Prop :=
 ∀ (pos:Pos) (Kt:List (Addr×Obj)) (s:Shared) (σ:St) (H:Hp) (Q:List V->Hp->Prop),Inv X Kt σ H s->t σ H Q->wpAny (model X.prog X.w) X.A (spliced (backTo pos (starEach es X.env))) (AP X Kt σ Q) X.xe s
def PS(X:Cx)(st:Stmt)(t:TS):Prop :=
 ∀ (Kt:List (Addr×Obj)) (s:Shared) (σ:St) (H:Hp) (D:Ends),Inv X Kt σ H s->t D σ H->wpAny (model X.prog X.w) X.A (exec st X.env) (SP X Kt D) X.xe s
def kj(X:Cx)(st:List Stmt)(t:TS):Prop :=
 ∀ (Kt:List (Addr×Obj)) (s:Shared) (σ:St) (H:Hp) (D:Ends),Inv X Kt σ H s->t D σ H->wpAny (model X.prog X.w) X.A (execs st X.env) (SP X Kt D) X.xe s
theorem cJ{α:Type}{t:Sem α}{Q Q':α->Shared->Prop}{M:Model}(h:wpAny M A t Q E s)(hQ:∀ a s,Q a s->Q' a s):wpAny M A t Q' E s:=wpAny_mono h hQ λ_ _ x=>x
variable{Q:Value->Shared->Prop}{σ:St}
variable{ta:TE}
variable{c:Expr}
section
def C6(i:Nat):TE:=fun σ H Q=>∃ v,σ[i]?=some (some v)/\Q v H
def tC(v:V):TE:=λ_ H Q=>Q v H
theorem iy{pos:Pos}(hN:X.N[i]?=some x)(hv:Bn X.env.scope x)(hd:autoParam ((x==("__debug__" : Str))=false) aD._auto_1)(LP:autoParam ((x==("__classdict__" : Str))=false) aD._auto_1):PE X (.Name x pos) (C6 i):=by
 intro Kt s σ H Q I h
 obtain⟨v,e,h⟩:=h
 obtain⟨m,hn,hl⟩:=I.loc
 obtain⟨u,r,l⟩:=hl i x v hN e hv
 have fin:EP X Kt σ Q u s:=⟨v,H,I,r,h⟩
 rcases l with ⟨hk,hm⟩ | ⟨hk,c,hc,MC⟩
 ·exact wpAny_Name (wpAny_loadName_local I.ok.kind hk hn hm fin) hd
 ·rcases hk with hk | hk
  ·exact wpAny_Name (wpAny_loadName_cell I.ok.kind hk hc MC fin) hd
  ·exact wpAny_Name (wpAny_loadName_free I.ok.kind hk hc MC fin LP) hd
theorem AR{i j pos}:PE X (.Constant (.int i) j pos) (tC (.int i)):=λ_ _ _ H _ I h=>wpAny_Constant_int ⟨.int i,H,I.tok _,⟨_,rfl⟩,h⟩
theorem GI{b j pos}:PE X (.Constant (.bool b) j pos) (tC (.bl b)):=λ_ _ _ H _ I h=>Constant_bool ⟨.bl b,H,I,rfl,h⟩
theorem FF{j pos}:PE X (.Constant .none j pos) (tC .cy):=λ_ _ _ H _ I h=>Constant_none ⟨.cy,H,I,rfl,h⟩
theorem Fb{x j pos}:PE X (.Constant (.str x) j pos) (tC (.str x)):=λ_ _ _ H _ I h=>Calls.Constant_str ⟨.str x,H,I.tok _,⟨_,rfl⟩,h⟩
def Gl(X:Cx)(x:Str):Prop:=X.env.kindOf x=some .globalImplicit
theorem kF{pos:Pos}(I:Inv X Kt σ H s)(hg:Gl X x)(hm:X.mg x=some u)(h:Q u s)
  (hd:autoParam ((x==("__debug__" : Str))=false) aD._auto_1):wpAny (model X.prog X.w) X.A (eval (.Name x pos) X.env) Q E s :=
 Calls.Name_function_global I.ok.kind hg (Calls.loadGlobal_global (by rw[I.ok.glob];exact I.mod.glob.keeps I.bk) hm h) hd
theorem ix{pos:Pos}(I:Inv X Kt σ H s)(hg:Gl X x)(hm:X.mg x=none)(hv:bootBuiltins x=some u)(h:Q u s)
  (hn:autoParam (x ≠ "__name__") aD._auto_1) (hd:autoParam ((x==("__debug__" : Str))=false) aD._auto_1):wpAny (model X.prog X.w) X.A (eval (.Name x pos) X.env) Q E s:=by
 obtain⟨mb,h1,h2⟩:=I.mod.blt
 exact Calls.Name_function_global I.ok.kind hg (Calls.loadGlobal_builtin (by rw[I.ok.glob];exact I.mod.glob.keeps I.bk) hm (by rw[I.ok.blt];exact h1.keeps I.bk) ((h2 x hn).trans hv) h) hd
theorem Cv{pos:Pos}(hg:Gl X x)(hm:X.mg x=some u)(r:RelV v u)(hd:autoParam ((x==("__debug__" : Str))=false) aD._auto_1):PE X (.Name x pos) (tC v) :=
 λ_ _ _ H _ I h=>kF I hg hm ⟨v,H,I,r,h⟩ hd
theorem kv{pos:Pos}(hg:Gl X x)(hm:X.mg x=none)(hv:bootBuiltins x=some u)(r:RelV v u)(hn:autoParam (x ≠ "__name__") aD._auto_1)(hd:autoParam ((x==("__debug__" : Str))=false) aD._auto_1):PE X (.Name x pos) (tC v) :=
 λ_ _ _ H _ I h=>ix I hg hm hv ⟨v,H,I,r,h⟩ hn hd
variable{a b:Expr}{tb:TE}{pos:Pos}
def tB(t:TE):TT:=fun σ H Q=>t σ H λx H1=>∃ c,x=.bl c/\Q c H1
theorem Gh{t:TE}(h:PE X e t)(he:autoParam (∀ whole,isTrue e X.env whole=(do let v ← whole;standAt e.pos;holding [v] (truthy v))) aI._auto_1):PT X e (tB t):=by
 intro Kt s σ H Q I hw
 refine isTrue_plain (cJ (h Kt s σ H _ I hw) λv s1 ⟨x,H1,I1,r1,q1⟩=>?_) (he _)
 obtain⟨d,rfl,q⟩:=q1
 cases r1
 exact wpAny_truthy_bool ⟨H1,I1,q⟩
variable{tA tB':TT}{rest:List Expr}
def Jo(t u:TT):TT:=fun σ H Q=>t σ H λc H1=>if c=true then u σ H1 Q else Q false H1
def Kb(t u:TT):TT:=fun σ H Q=>t σ H λc H1=>if c=true then Q true H1 else u σ H1 Q
def Jg(t:TT):TT:=fun σ H Q=>t σ H λc H1=>Q (!c) H1
theorem pw_and1(ha:PT X a tA):PW X (.BoolOp .And [a] pos) tA:=by
 intro wh Kt s σ H Q I h
 refine isTrue_and (cJ (ha Kt s σ H Q I h) λc s1 e=>?_)
 cases c with
 | true=>exact isTrue_and_nil e
 | false=>exact e
theorem pw_or1(ha:PT X a tA):PW X (.BoolOp .Or [a] pos) tA:=by
 intro wh Kt s σ H Q I h
 refine isTrue_or (cJ (ha Kt s σ H Q I h) λc s1 e=>?_)
 cases c with
 | false=>exact isTrue_or_nil e
 | true=>exact e
theorem pw_and(ha:PT X a tA)(hb:PW X (.BoolOp .And (b::rest) pos) tB'):PW X (.BoolOp .And (a::b::rest) pos) (Jo tA tB'):=by
 intro wh Kt s σ H Q I h
 refine isTrue_and (cJ (ha Kt s σ H _ I h) λc s1 ⟨H1,I1,q1⟩=>?_)
 cases c with
 | true=>exact hb wh Kt s1 σ H1 Q I1 q1
 | false=>exact⟨H1,I1,q1⟩
theorem pw_or(ha:PT X a tA)(hb:PW X (.BoolOp .Or (b::rest) pos) tB'):PW X (.BoolOp .Or (a::b::rest) pos) (Kb tA tB'):=by
 intro wh Kt s σ H Q I h
 refine isTrue_or (cJ (ha Kt s σ H _ I h) λc s1 ⟨H1,I1,q1⟩=>?_)
 cases c with
 | true=>exact⟨H1,I1,q1⟩
 | false=>exact hb wh Kt s1 σ H1 Q I1 q1
theorem D8(ha:PT X a tA):PT X (.UnaryOp .Not a pos) (Jg tA):=by
 intro Kt s σ H Q I h
 exact isTrue_not (ha Kt s σ H (λc H1=>Q (!c) H1) I h)
def HZ(ta tb:TE):TE:=fun σ H Q=>ta σ H λx H1=>∃ c,x=.bl c/\if c=true then tb σ H1 Q else Q (.bl false) H1
def G6(ta:TE):TE:=fun σ H Q=>ta σ H λx H1=>∃ c,x=.bl c/\Q (.bl (!c)) H1
theorem vc{op}{t:TE}(h:PE X a t):PE X (.BoolOp op [a] pos) t:=λKt s σ H Q I hw=>BoolOp_one (h Kt s σ H Q I hw)
theorem FI(ha:PE X a ta)(hb:PE X (.BoolOp .And (b::rest) pos) tb):PE X (.BoolOp .And (a::b::rest) pos) (HZ ta tb):=by
 intro Kt s σ H Q I h
 refine BoolOp_and (cJ (ha Kt s σ H _ I h) λv s1 ⟨x,H1,I1,r1,q1⟩=>?_)
 obtain⟨c,rfl,q1⟩:=q1
 cases r1
 refine wpAny_truthy_bool ?_
 cases c with
 | true=>exact hb Kt s1 σ H1 Q I1 q1
 | false=>exact⟨.bl false,H1,I1,rfl,q1⟩
theorem Eo(ha:PE X a ta):PE X (.UnaryOp .Not a pos) (G6 ta):=by
 intro Kt s σ H Q I h
 refine UnaryOp_ (cJ (ha Kt s σ H _ I h) λv s1 ⟨x,H1,I1,r1,q1⟩=>?_)
 obtain⟨c,rfl,q1⟩:=q1
 cases r1
 exact not_of (wpAny_truthy_bool ⟨.bl (!c),H1,I1,rfl,q1⟩)
def J4(t:TT)(ta tb:TE):TE:=fun σ H Q=>t σ H λc H1=>if c=true then ta σ H1 Q else tb σ H1 Q
theorem Ap(hc:PT X c tA)(ha:PE X a ta)(hb:PE X b tb):PE X (.IfExp c a b pos) (J4 tA ta tb):=by
 intro Kt s σ H Q I h
 refine wpAny_IfExp (cJ (hc Kt s σ H _ I h) λd s1 ⟨H1,I1,q1⟩=>?_)
 cases d with
 | true=>exact ha Kt s1 σ H1 Q I1 q1
 | false=>exact hb Kt s1 σ H1 Q I1 q1
end
def f9(K:PySem.W.Frag)(H:Hp)(a:Addr)(xs:List V):Prop :=
 Rd H a (.lst xs) ∨
  ∃ (o:Obj) (Kv:Array Value) (n:Nat),K.lookup a=some o/\o.cls=.type "list" /\ o.dict=none/\o.data=.seq Kv n/\Kv.size<=sizeLine/\Vals xs Kv.toList
def gu(K:PySem.W.Frag)(H:Hp)(a:Addr)(xs:List V):Prop :=
 Rd H a (.tup xs) ∨
  ∃ (o:Obj) (Kv:Array Value) (n:Nat),K.lookup a=some o/\o.cls=.type "tuple" /\ o.data=.seq Kv n/\Kv.size<=sizeLine/\Vals xs Kv.toList
def Jq:Value->Option V
 | .none=>some .cy
 | .bool b=>some (.bl b)
 | .int i _=>some (.int i)
 | .str x _=>some (.str x)
 | .bytes b _=>some (.byt b)
 | .float b _=>some (.DX b)
 | .ref a=>some (.ref a)
 | .type n=>some (.ty n)
 | _=>none
theorem RelV.abs{x:V}(r:RelV x u):Jq u=some x:=by
 cases x with
 | cy=>cases r;rfl
 | bl _=>cases r;rfl
 | int _=>obtain⟨t,rfl⟩:=r;rfl
 | str _=>obtain⟨t,rfl⟩:=r;rfl
 | byt _=>obtain⟨t,rfl⟩:=r;rfl
 | DX _=>obtain⟨t,rfl⟩:=r;rfl
 | ref _=>cases r;rfl
 | ty _=>cases r;rfl
theorem RelV.inj{x y:V}{u:Value}(r:RelV x u)(q:RelV y u):x=y:=Option.some.inj (r.abs.symm.trans q.abs)
theorem Vals.inj:∀ {xs ys:List V} {us:List Value},Vals xs us->Vals ys us->xs=ys
 | _,_,_,.nil,.nil=>rfl
 | _,_,_,.cons r t,.cons r' t'=>by rw[r.inj r',Vals.inj t t']
section
variable{xs ys:List V}
theorem f9.of{K:PySem.W.Frag}(h:H a=some (.lst xs)):f9 K H a xs:=.inl (.inl h)
theorem gu.of{K:PySem.W.Frag}(h:H a=some (.tup xs)):gu K H a xs:=.inl (.inl h)
theorem Inv.list(I:Inv X Kt σ H s)(h:f9 X.K H a xs):∃ Kv:List Value,Vals xs Kv/\PlainL s.heap a Kv.toArray/\xs.length<=sizeLine:=by
 rcases h with h | ⟨o,Kv,n,hk,hc,hd,hs,hz,r⟩
 ·obtain⟨z,Kv,n,r,e⟩:=h.ok I.bC
  exact⟨Kv,r,⟨_,n,e,rfl,rfl,rfl⟩,z⟩
 ·refine⟨Kv.toList,r,⟨o,n,I.ja a o hk,hc,hd,by simpa using hs⟩,?_⟩
  have e:=r.length
  simp only[Array.length_toList] at e
  omega
theorem Inv.tuple(I:Inv X Kt σ H s)(h:gu X.K H a xs):∃ Kv:List Value,Vals xs Kv/\IsTup s.heap a Kv.toArray/\xs.length<=sizeLine:=by
 rcases h with h | ⟨o,Kv,n,hk,hc,hs,hz,r⟩
 ·obtain⟨z,Kv,r,p⟩:=h.ok I.bC
  exact⟨Kv,r,p,z⟩
 ·refine⟨Kv.toList,r,⟨o,I.ja a o hk,hc,n,by simpa using hs⟩,?_⟩
  have e:=r.length
  simp only[Array.length_toList] at e
  omega
theorem Inv.nY(I:Inv X Kt σ H s)(h:f9 X.K H a xs)(h':f9 X.K H a ys):xs=ys:=by
 obtain⟨Kv,r,⟨o,n,e,_,_,d⟩,_⟩:=I.list h
 obtain⟨its',r',⟨o',n',e',_,_,d'⟩,_⟩:=I.list h'
 rw[e] at e';cases e'
 rw[d] at d'
 injection d' with d1 _
 have:Kv=its':=by simpa using congrArg Array.toList d1
 subst this
 exact r.inj r'
theorem Inv.lE(I:Inv X Kt σ H s)(h:gu X.K H a xs)(h':gu X.K H a ys):xs=ys:=by
 obtain⟨Kv,r,⟨o,e,_,n,d⟩,_⟩:=I.tuple h
 obtain⟨its',r',⟨o',e',_,n',d'⟩,_⟩:=I.tuple h'
 rw[e] at e';cases e'
 rw[d] at d'
 injection d' with d1 _
 have:Kv=its':=by simpa using congrArg Array.toList d1
 subst this
 exact r.inj r'
end
abbrev Cx.pk(X:Cx)(E:Value->Shared->Prop):Cx:={ X with xe:=E }
theorem Cx.Ok.pk{X:Cx}(ok:X.Ok)(E:Value->Shared->Prop):(X.pk E).Ok :=
 ⟨ok.mod,ok.kind,ok.glob,ok.blt,ok.above,ok.inj,ok.has,ok.HA,ok.hd,ok.frames,ok.Ia,ok.JT,ok.bs,ok.DT,ok.yf,ok.AW,ok.mB,ok.Gm⟩
theorem Cx.Ok.gY(ok:(X.pk E).Ok):X.Ok :=
 ⟨ok.mod,ok.kind,ok.glob,ok.blt,ok.above,ok.inj,ok.has,ok.HA,ok.hd,ok.frames,ok.Ia,ok.JT,ok.bs,ok.DT,ok.yf,ok.AW,ok.mB,ok.Gm⟩
theorem Inv.pk(I:Inv X Kt σ H s)(E:Value->Shared->Prop):Inv (X.pk E) Kt σ H s:=⟨I.ok.pk E,I.os,I.bare,I.base,I.loc,I.cell,I.free,I.jV,I.pin,I.bC,I.len⟩
theorem Inv.gY(I:Inv (X.pk E) Kt σ H s):Inv X Kt σ H s:=⟨I.ok.gY,I.os,I.bare,I.base,I.loc,I.cell,I.free,I.jV,I.pin,I.bC,I.len⟩
theorem SP.gY{D:Ends}{f:Flow}{s':Shared}(h:SP (X.pk E) Kt D f s'):SP X Kt D f s':=by
 cases f with
 | next=>obtain⟨σ',H',I,q⟩:=h;exact⟨σ',H',I.gY,q⟩
 | brk=>obtain⟨σ',H',I,q⟩:=h;exact⟨σ',H',I.gY,q⟩
 | cont=>obtain⟨σ',H',I,q⟩:=h;exact⟨σ',H',I.gY,q⟩
 | ret u=>obtain⟨v,σ',H',I,r,q⟩:=h;exact⟨v,σ',H',I.gY,r,q⟩
variable{te:TE}
variable{tc:TT}
section
variable{st:Stmt}{rest:List Stmt}{t u:TS}{pos:Pos}
def vE:TS:=λD σ H=>D.nx σ H
def Cb(t u:TS):TS:=λD σ H=>t { D with nx:=u D } σ H
theorem mR:kj X [] vE:=λ_ _ σ H _ I h=>wpAny_execs_nil ⟨σ,H,I,h⟩
theorem ij(h1:PS X st t)(h2:kj X rest u):kj X (st::rest) (Cb t u):=by
 intro Kt s σ H D I h
 refine wpAny_execs_cons (cJ (h1 Kt s σ H { D with nx:=u D } I h) λf s1 q=>?_)
 cases f with
 | next =>
  obtain⟨σ',H',I',q⟩:=q
  exact h2 Kt s1 σ' H' D I' q
 | ret v=>exact q
 | brk=>exact q
 | cont=>exact q
theorem BB(h1:PS X st t):kj X [st] t:=by
 intro Kt s σ H D I h
 refine wpAny_execs_cons (cJ (h1 Kt s σ H D I h) λf s1 q=>?_)
 cases f with
 | next=>exact wpAny_execs_nil q
 | ret v=>exact q
 | brk=>exact q
 | cont=>exact q
theorem Inv.quiet(I:Inv X Kt σ H s):interactive X.env=false:=by simp[interactive,I.ok.kind]
def Dl(te:TE):TS:=λD σ H=>te σ H λ_ H1=>D.nx σ H1
theorem qM(he:PE X e te)(hs:autoParam (swapsWith e none pos.line X.env=pure false) aR._auto_1):PS X (.Expr e pos) (Dl te):=by
 intro Kt s σ H D I h
 exact wpAny_Expr_any (cJ (he Kt s σ H _ I h) λv s1 ⟨x,H1,I1,r1,q1⟩=>⟨σ,H1,I1,q1⟩) I.quiet hs
def IF(te:TE):TS:=λD σ H=>te σ H D.rt
theorem E2(he:PE X e te):PS X (.Return (some e) pos) (IF te):=by
 intro Kt s σ H D I h
 exact wpAny_Return_some (cJ (he Kt s σ H _ I h) λv s1 ⟨x,H1,I1,r1,q1⟩=>⟨x,σ,H1,I1,r1,q1⟩)
def Hb(c:TT)(t u:TS):TS:=λD σ H=>c σ H λb H1=>if b=true then t D σ H1 else u D σ H1
theorem DJ{a b:List Stmt}(hc:PT X c tc)(ha:kj X a t)(hb:kj X b u):PS X (.If c a b pos) (Hb tc t u):=by
 intro Kt s σ H D I h
 refine wpAny_If (cJ (hc Kt s σ H _ I h) λd s1 ⟨H1,I1,q1⟩=>?_)
 cases d with
 | true=>exact ha Kt s1 σ H1 D I1 q1
 | false=>exact hb Kt s1 σ H1 D I1 q1
end
abbrev TG:=V->St->Hp->(St->Hp->Prop)->Prop
abbrev Fz:=List V->St->Hp->(St->Hp->Prop)->Prop
def PG(X:Cx)(target:Expr)(t:TG):Prop :=
 ∀ (Kt:List (Addr×Obj)) (s:Shared) (σ:St) (H:Hp) (v:V) (u:Value) (Q:St->Hp->Prop),Inv X Kt σ H s->RelV v u->t v σ H Q ->
  wpAny (model X.prog X.w) X.A (assign target X.env u) (λ_ s'=>∃ σ' H',Inv X Kt σ' H' s'/\Q σ' H') X.xe s
def Ig(X:Cx)(ts:List Expr)(t:Fz):Prop :=
 ∀ (Kt:List (Addr×Obj)) (s:Shared) (σ:St) (H:Hp) (vs:List V) (us:List Value) (Q:St->Hp->Prop),Inv X Kt σ H s->Vals vs us->t vs σ H Q ->
  wpAny (model X.prog X.w) X.A (assignInOrder ((assignEach ts X.env).map (·.2)) us) (λ_ s'=>∃ σ' H',Inv X Kt σ' H' s'/\Q σ' H') X.xe s
abbrev EL:=V->V->V->Hp->(Hp->Prop)->Prop
def HQ(X:Cx)(t:EL):Prop :=
 ∀ (Kt:List (Addr×Obj)) (s:Shared) (σ:St) (H:Hp) (o i v:V) (ov iv u:Value) (Q:Hp->Prop),Inv X Kt σ H s->RelV o ov->RelV i iv->RelV v u->t o i v H Q ->
  wpAny (model X.prog X.w) X.A (setItem ov iv u) (λ_ s'=>∃ H',Inv X Kt σ H' s'/\Q H') X.xe s
variable{es:List Expr}
variable{n k:Nat}
variable{tg:Expr}
section
variable{pos:Pos}
def aO(i:Nat):TG:=λv σ H Q=>Q (σ.set i (some v)) H
theorem Bw(hN:X.N.Nodup)(hi:X.N[i]?=some x)(hx:Loc X.env.scope x)(hf:autoParam (X.fn x=true\/X.env.scope.names.lookup x=some .local) aF._auto_1):PG X (.Name x pos) (aO i):=by
 intro Kt s σ H v u Q I r h
 exact wpAny_assign_Name (sq I hN hi hx r (λs' I'=>⟨_,H,I',h⟩) hf)
def jM:Fz:=λvs σ H Q=>vs=[]/\Q σ H
def bM(t:TG)(u:Fz):Fz:=λvs σ H Q=>∃ v r,vs=v::r/\t v σ H fun σ' H'=>u r σ' H' Q
theorem dh:Ig X [] jM:=by
 intro Kt s σ H vs us Q I r h
 obtain⟨e,h⟩:=h
 subst e
 cases r
 exact assignInOrder_nil ⟨σ,H,I,h⟩
theorem aW{t:TG}{u:Fz}(h1:PG X e t)(h2:Ig X es u)
  (hs:autoParam ((assignEach (e::es) X.env).map (·.2)=assign e X.env::(assignEach es X.env).map (·.2)) aR._auto_1):Ig X (e::es) (bM t u):=by
 intro Kt s σ H vs us Q I r h
 obtain⟨v,vr,e1,h⟩:=h
 subst e1
 cases r with
 | cons r rr =>
  rw[hs]
  refine assignInOrder_cons (cJ (h1 Kt s σ H _ _ _ I r h) λ_ s1 ⟨σ1,H1,I1,q1⟩=>?_)
  exact h2 Kt s1 σ1 H1 _ _ Q I1 rr q1
def jN(K:PySem.W.Frag)(n:Nat)(t:Fz):TG:=λv σ H Q=>∃ a xs,v=.ref a/\gu K H a xs/\xs.length=n/\t xs σ H Q
theorem eR{t:Fz}(hc:X.calm=true)(h:Ig X es t)
  (hn:autoParam ((assignEach es X.env).length=n) aR._auto_1) (K4:autoParam ((assignEach es X.env).findIdx? (·.1)=none) aR._auto_1):PG X (.Tuple es k pos) (jN X.K n t):=by
 intro Kt s σ H v u Q I r hw
 obtain⟨a,xs,e1,hq,hl,hw⟩:=hw
 subst e1
 cases r
 obtain⟨Kv,rv,ht,hz⟩:=I.tuple hq
 refine assign_Tuple_tuple (I.ok.hd hc) ht (by simp[hn,← hl,rv.length]) K4 λh' hx=>?_
 have I1:Inv X Kt σ H { s with heap:=h' }:=I.kept (t':=s.toks) λb o e=>hx b o (Nat.ne_of_lt (Heap.lt_size e)) e
 exact h Kt _ σ H xs _ Q I1 (by simpa using rv) hw
def JS(to ti:TE)(t:EL):TG:=λv σ H Q=>to σ H λo H1=>ti σ H1 λi H2=>t o i v H2 λH3=>Q σ H3
theorem Fw{o i:Expr}{to ti:TE}{t:EL}(ho:PE X o to)(hi:PE X i ti)(hs:HQ X t)
  (ha:autoParam (∀ v,assign (.Subscript o i pos) X.env v=(do
   let ov ← holding [v] (eval o X.env)
   let iv ← holding [v,ov] (eval i X.env)
   standAt pos
   holding [v,ov,iv] (setItem ov iv v)
   release [v,ov,iv] [])) aI._auto_1):PG X (.Subscript o i pos) (JS to ti t):=by
 intro Kt s σ H v u Q I r h
 rw[ha]
 refine wpAny_bind (wpAny_holding (cJ (ho Kt s σ H _ I h) λov s1 ⟨x,H1,I1,r1,q1⟩=>?_))
 refine wpAny_bind (wpAny_holding (cJ (hi Kt s1 σ H1 _ I1 q1) λiv s2 ⟨y,H2,I2,r2,q2⟩=>?_))
 refine wpAny_bind (wpAny_standAt (wpAny_bind (wpAny_holding (cJ (hs Kt s2 σ H2 x y v ov iv u _ I2 r1 r2 r q2) λ_ s3 ⟨H3,I3,q3⟩=>?_))))
 exact wpAny_release ⟨σ,H3,I3,q3⟩
def zB(te:TE)(g:TG):TS:=λD σ H=>te σ H λx H1=>g x σ H1 D.nx
theorem EJ{g:TG}(he:PE X e te)(hg:PG X tg g)(hs:autoParam (swapsWithSole [tg] e pos.line X.env=pure false) aR._auto_1)(hw:autoParam (swappedStores [tg] e X.env=pure none) aR._auto_1)
  (h1:autoParam ((assignEach [tg] X.env).map (·.2)=[assign tg X.env]) aR._auto_1):PS X (.Assign [tg] e pos) (zB te g):=by
 intro Kt s σ H D I h
 refine wpAny_Assign_stores (cJ (he Kt s σ H _ I h) λv s1 ⟨x,H1,I1,r1,q1⟩=>?_) hs hw
 rw[h1]
 exact cJ (hg Kt s1 σ H1 x v _ I1 r1 q1) λ_ s2 q=>q
theorem qt{pos':Pos}(hN:X.N.Nodup)(hi:X.N[i]?=some x)(hx:Loc X.env.scope x)(he:PE X e te)(hs:autoParam (swapsWith e (some (.Name x pos')) pos.line X.env=pure false) aR._auto_1)(hf:autoParam (X.fn x=true\/X.env.scope.names.lookup x=some .local) aF._auto_1) :
  PS X (.Assign [.Name x pos'] e pos) (zB te (aO i)):=by
 intro Kt s σ H D I h
 refine wpAny_Assign_Name (cJ (he Kt s σ H _ I h) λv s1 ⟨y,H1,I1,r1,q1⟩=>?_) hs
 exact sq I1 hN hi hx r1 (λs2 I2=>⟨_,H1,I2,q1⟩) hf
end
variable{tb:TS}{body:List Stmt}
section
variable{pos:Pos}
def Ff(c:TT)(tb:TS):TS:=λD σ H=>∃ W:Nat->St->Hp->Prop,(∃ m,W m σ H)/\∀ m σ H,W m σ H ->
 c σ H λb H1=>if b=true then ∃ N:St->Hp->Prop,(∀ σ' H',N σ' H'->∃ m',m'<m/\W m' σ' H')/\tb { D with nx:=N,ct:=N,bk:=D.nx } σ H1 else D.nx σ H1
theorem AZ(hp:PassesOwn (model X.prog X.w) X.A X.env X.xe)(hc:PT X c tc)(hb:kj X body tb):PS X (.While c body [] pos) (Ff tc tb):=by
 intro Kt s σ H D I h
 obtain⟨W,⟨m0,w0⟩,turn⟩:=h
 refine wpAny_While (codeAny_whileLoop (λn s'=>∃ σ' H',Inv X Kt σ' H' s'/\W n σ' H') ?_ m0 ⟨σ,H,I,w0⟩)
 rintro n s1 ⟨σ1,H1,I1,w1⟩
 refine wpAny_passesOwn hp (cJ (hc Kt s1 σ1 H1 _ I1 (turn n σ1 H1 w1)) λb s2 ⟨H2,I2,q2⟩=>?_)
 cases b with
 | true =>
  obtain⟨N,hN,q2⟩:=q2
  rw[if_pos rfl]
  refine wpAny_passesOwn hp (cJ (hb Kt s2 σ1 H2 _ I2 q2) λf s3 q3=>?_)
  cases f with
  | next =>
   obtain⟨σ3,H3,I3,n3⟩:=q3
   obtain⟨m',hm,w3⟩:=hN σ3 H3 n3
   exact⟨m',hm,σ3,H3,I3,w3⟩
  | cont =>
   obtain⟨σ3,H3,I3,n3⟩:=q3
   obtain⟨m',hm,w3⟩:=hN σ3 H3 n3
   exact⟨m',hm,σ3,H3,I3,w3⟩
  | brk=>exact q3
  | ret v=>exact q3
 | false =>
  rw[if_neg Bool.false_ne_true]
  exact wpAny_execs_nil ⟨σ1,H2,I2,q2⟩
end
structure It where
 go:Nat->Hp->Prop
 rL:Nat->Hp->V->Hp->Prop
 stop:Nat->Hp->Prop
def kC(X:Cx)(Kt:List (Addr×Obj))(H:Hp)(b:Addr):Prop :=
 H b=none/\b≠X.env.locals/\b ∉ X.fs/\(b∈X.ex\/X.s₀.heap.objs.size<=b)/\(∀ x c,X.env.cells.lookup x=some c->c≠b)/\∀ p∈X.pn++Kt,p.1≠b
theorem Inv.qY(I:Inv X Kt σ H s)(hb:s.heap.objs.size<=b)(hn:H' b=none):kC X Kt H' b:=by
 refine⟨hn,Nat.ne_of_gt (Nat.lt_of_lt_of_le I.lt hb),I.IS hb,.inr (Nat.le_trans I.sz hb),λx c e z=>?_,λp hp z=>?_⟩
 ·obtain⟨v,q⟩:=I.cell x c e
  exact absurd (Nat.lt_of_lt_of_le q.lt (by rw[z];exact hb)) (Nat.lt_irrefl _)
 ·exact absurd (Nat.lt_of_lt_of_le (Heap.lt_size (I.pin p hp).1) (by rw[z];exact hb)) (Nat.lt_irrefl _)
structure Turn (P:Program) (w:World) (K:PySem.W.Frag) (tg:Expr) (J:It) (fp:List Addr) (it:Addr) (tn:Nat->Heap->Prop):Prop where
 mem:it∈fp
 obj:∀ i h,tn i h->∀ b∈fp,∃ o,h.get? b=some o/\∀ v,o.data≠.cell v
 keep:∀ i h h',tn i h->(∀ b∈fp,∀ o,h.get? b=some o->h'.get? b=some o)->tn i h'
 item:∀ (X:Cx),X.prog=P->X.w=w->X.K=K->X.calm=true->∀ (i:Nat) (Kt:List (Addr×Obj)) (s:Shared) (σ:St) (H:Hp) (E:Value->Shared->Prop),Inv X Kt σ H s->(∀ b∈fp,kC X Kt H b)->tn i s.heap->J.go i H ->
  wpAny (model P w) X.A (pyNext (.ref it)) (λr s1=>∃ u,r=some u ∧
   wpAny (model P w) X.A (letOwnedTupleGo tg (.ref it) u) (λ_ s2=>∃ x H',Inv X Kt σ H' s2/\RelV x u/\J.rL i H x H'/\tn (i+1) s2.heap/\∀ b∈fp,H' b=none) E s1) E s
 done:∀ (X:Cx),X.prog=P->X.w=w->X.K=K->X.calm=true->∀ (i:Nat) (Kt:List (Addr×Obj)) (s:Shared) (σ:St) (H:Hp) (E:Value->Shared->Prop),Inv X Kt σ H s->(∀ b∈fp,kC X Kt H b)->tn i s.heap->J.stop i H ->
  wpAny (model P w) X.A (pyNext (.ref it)) (λr s1=>r=none/\Inv X Kt σ H s1) E s
 self:∀ (A:Around) (i:Nat) (s:Shared) (Q:Value->Shared->Prop) (E:Value->Shared->Prop),tn i s.heap->Q (.ref it) s->wpAny (model P w) A (pyIter (.ref it)) Q E s
abbrev TI:=St->Hp->(It->Hp->Prop)->Prop
def I0(X:Cx)(Kt:List (Addr×Obj))(σ:St)(tg:Expr)(R:It->Hp->Prop)(itv:Value)(s2:Shared):Prop :=
 ∃ (it:Addr) (fp:List Addr) (tn:Nat->Heap->Prop) (J:It) (H':Hp),itv=.ref it/\Inv X Kt σ H' s2/\Turn X.prog X.w X.K tg J fp it tn/\tn 0 s2.heap/\(∀ b∈fp,kC X Kt H' b)/\R J H'
def PI(X:Cx)(tg iter:Expr)(wi:TI):Prop :=
 ∀ (Kt:List (Addr×Obj)) (s:Shared) (σ:St) (H:Hp) (R:It->Hp->Prop),Inv X Kt σ H s->wi σ H R ->
  wpAny (model X.prog X.w) X.A (eval iter X.env) (λv s1=>wpAny (model X.prog X.w) X.A (pyIter v) (I0 X Kt σ tg R) X.xe s1) X.xe s
theorem vN {M : Model} {n : String} {vs : Array Value} {Q : Unit -> Shared -> Prop} (ho : s.heap.get? it = some o) (hc : o.cls = .type n) (hd : o.data = .fields vs)
    (hn : ["enumerate", "zip", "dict_itemiterator", "dict_reverseitemiterator", "odict_iterator", "itertools.zip_longest", "itertools.pairwise"].contains n = false) (hQ : Q () s) : wpAny M A (letOwnedTupleGo tg (.ref it) u) Q E s := by
  unfold letOwnedTupleGo
  cases tg <;> first
    | exact wpAny_pure hQ
    | (cases u <;> first
        | exact wpAny_pure hQ
        | (refine wpAny_bind (wpAny_load ho ?_)
           rw [hc, hd]
           show wpAny M A (if (["enumerate", "zip", "dict_itemiterator", "dict_reverseitemiterator", "odict_iterator", "itertools.zip_longest", "itertools.pairwise"].contains n && vs[0]? == some (rawInt _)) = true then _ else _) Q E s
           rw [if_neg (by intro h; rw [hn, Bool.false_and] at h; cases h)]
           exact wpAny_pure hQ))
def J2(K:PySem.W.Frag)(a:Addr):It :=
 ⟨λi H=>∃ xs x,f9 K H a xs/\xs[i]?=some x,λi H x H'=>H'=H/\∀ xs,f9 K H a xs->xs[i]?=some x,λi H=>∃ xs,f9 K H a xs/\xs.length<=i⟩
def JZ(K:PySem.W.Frag)(a:Addr):It :=
 ⟨λi H=>∃ xs x,gu K H a xs/\xs[i]?=some x,λi H x H'=>H'=H/\∀ xs,gu K H a xs->xs[i]?=some x,λi H=>∃ xs,gu K H a xs/\xs.length<=i⟩
def Hh(lo:Int)(n:Nat):It:=⟨λi _=>i<n,λi H x H'=>H'=H/\x=.int (lo+i),λi _=>n<=i⟩
theorem wR{K:PySem.W.Frag}(a it:Addr):Turn P w K tg (J2 K a) [it] it (λi h=>h.IsListIter it a i) where
 mem:=by simp
 obj:=λi h st b hb=>by
  have e:b=it:=by simpa using hb
  subst e
  obtain⟨o,e,c,d⟩:=st
  exact⟨o,e,λv z=>by rw[d] at z;cases z⟩
 keep:=λi h h' st k=>st.at λo e=>k it (by simp) o e
 item:=by
  intro X hP hw hK hc i Kt s σ H E I hf st hg
  subst hP hw hK
  obtain⟨xs,x,hq,hx⟩:=hg
  obtain⟨Kv,rv,p,hz⟩:=I.list hq
  obtain⟨u,hu,ru⟩:=rv.get hx
  obtain⟨f0,f1,f2,f3,f4,f5⟩:=hf it (by simp)
  refine wpAny_pyNext_list_item st p.isList (x:=u) (by simpa using hu) λh' LB sb=>?_
  have I1:Inv X Kt σ H { s with heap:=h' }:=I.turned (t':=s.toks) (λb o hb e=>(sb.2 b hb).trans e) f0 f1 f3 f4 f5
  obtain⟨o,e,c,d⟩:=id LB
  exact⟨u,rfl,vN (s:={ s with heap:=h' }) e c d (by decide) ⟨x,H,I1,ru,⟨rfl,λys hy=>by rw[I.nY hy hq];exact hx⟩,LB,λb hb=>(hf b hb).1⟩⟩
 done:=by
  intro X hP hw hK hc i Kt s σ H E I hf st hg
  subst hP hw hK
  obtain⟨xs,hq,hx⟩:=hg
  obtain⟨Kv,rv,p,hz⟩:=I.list hq
  obtain⟨f0,f1,f2,f3,f4,f5⟩:=hf it (by simp)
  have hl:=rv.length
  exact wpAny_pyNext_list_end (I.ok.hd hc) st p.isList (by simp;omega) λh' eb=>⟨rfl,I.turned (t':=s.toks) (λb o hb e=>eb b o hb e) f0 f1 f3 f4 f5⟩
 self:=λ_ _ _ _ _ st h=>wpAny_pyIter_listiter st h
theorem uD{K:PySem.W.Frag}(a it:Addr):Turn P w K tg (JZ K a) [it] it (λi h=>h.IsTupleIter it a i) where
 mem:=by simp
 obj:=λi h st b hb=>by
  have e:b=it:=by simpa using hb
  subst e
  obtain⟨o,e,c,d⟩:=st
  exact⟨o,e,λv z=>by rw[d] at z;cases z⟩
 keep:=λi h h' st k=>st.at λo e=>k it (by simp) o e
 item:=by
  intro X hP hw hK hc i Kt s σ H E I hf st hg
  subst hP hw hK
  obtain⟨xs,x,hq,hx⟩:=hg
  obtain⟨Kv,rv,p,hz⟩:=I.tuple hq
  obtain⟨u,hu,ru⟩:=rv.get hx
  obtain⟨f0,f1,f2,f3,f4,f5⟩:=hf it (by simp)
  refine wpAny_pyNext_tuple_item st (show s.heap.IsTuple a Kv.toArray from p) (x:=u) (by simpa using hu) λh' LB sb=>?_
  have I1:Inv X Kt σ H { s with heap:=h' }:=I.turned (t':=s.toks) (λb o hb e=>(sb.2 b hb).trans e) f0 f1 f3 f4 f5
  obtain⟨o,e,c,d⟩:=id LB
  exact⟨u,rfl,vN (s:={ s with heap:=h' }) e c d (by decide) ⟨x,H,I1,ru,⟨rfl,λys hy=>by rw[I.lE hy hq];exact hx⟩,LB,λb hb=>(hf b hb).1⟩⟩
 done:=by
  intro X hP hw hK hc i Kt s σ H E I hf st hg
  subst hP hw hK
  obtain⟨xs,hq,hx⟩:=hg
  obtain⟨Kv,rv,p,hz⟩:=I.tuple hq
  obtain⟨f0,f1,f2,f3,f4,f5⟩:=hf it (by simp)
  have hl:=rv.length
  exact wpAny_pyNext_tuple_end (I.ok.hd hc) st (show s.heap.IsTuple a Kv.toArray from p) (by simp;omega) λh' eb=>⟨rfl,I.turned (t':=s.toks) (λb o hb e=>eb b o hb e) f0 f1 f3 f4 f5⟩
 self:=λ_ _ _ _ _ st h=>wpAny_pyIter_tupleiter st h
theorem uW{K:PySem.W.Frag}(it:Addr)(lo:Int)(n:Nat):Turn P w K tg (Hh lo n) [it] it (λi h=>IsRangeIter h it (lo+(i:Nat)*1) ((n:Int)-(i:Nat)) 1) where
 mem:=by simp
 obj:=λi h st b hb=>by
  have e:b=it:=by simpa using hb
  subst e
  exact⟨_,st,λv z=>by
   have z':Data.fields _=Data.cell v:=z
   cases z'⟩
 keep:=λi h h' st k=>k it (by simp) _ st
 item:=by
  intro X hP hw hK hc i Kt s σ H E I hf st hg
  subst hP hw hK
  obtain⟨f0,f1,f2,f3,f4,f5⟩:=hf it (by simp)
  have W:=Walks.range (prog:=X.prog) (w:=X.w) (I.ok.hd hc) it lo 1 n
  refine W.item i s _ _ hg st λv h' tk hv LB kk=>?_
  obtain⟨t,rfl⟩:=hv
  have I1:Inv X Kt σ H { s with heap:=h',toks:=tk }:=I.turned (λb o hb e=>kk b o (by simpa using hb) e) f0 f1 f3 f4 f5
  refine⟨_,rfl,vN (s:={ s with heap:=h',toks:=tk }) (n := "range_iterator") LB rfl rfl (by decide) ⟨.int (lo+i),H,I1,⟨t,?_⟩,⟨rfl,rfl⟩,LB,λb hb=>(hf b hb).1⟩⟩
  rw[Int.mul_one]
 done:=by
  intro X hP hw hK hc i Kt s σ H E I hf st hg
  subst hP hw hK
  obtain⟨f0,f1,f2,f3,f4,f5⟩:=hf it (by simp)
  exact wpAny_pyNext_range_end (I.ok.hd hc) st (by have:n<=i:=hg;omega) λh' eb=>⟨rfl,I.turned (t':=s.toks) (λb o hb e=>eb b o hb e) f0 f1 f3 f4 f5⟩
 self:=λ_ _ _ _ _ st h=>wpAny_pyIter_rangeiter st h
variable{p:Pos}
variable{fp:List Addr}
theorem sN{R:It->Hp->Prop}{lo hi:Int}{t u v:Tok}{tk:Nat}(I:Inv X Kt σ H s)(h1:-(2^62)<=lo)(h2:lo<2^62)(h3:-(2^62)<=hi)(h4:hi<2^62)
  (q:R (Hh lo (hi-lo).toNat) H):wpAny (model X.prog X.w) X.A (pyIter (.ref s.heap.objs.size)) (I0 X Kt σ tg R) E { s with heap:=s.heap.push { cls:=.type "range", data:=.fields #[.int lo t,.int hi u,.int 1 v] },toks:=tk }:=by
 refine wpAny_pyIter_range (IsRange.new ..) (small_one h1 h2 h3 h4) ?_
 have I1:Inv X Kt σ H { s with heap:=s.heap.push { cls:=.type "range", data:=.fields #[.int lo t,.int hi u,.int 1 v] },toks:=tk }:=I.kept λb o e=>Heap.get?_push_of_some _ e
 refine⟨(s.heap.push { cls:=.type "range", data:=.fields #[.int lo t,.int hi u,.int 1 v] }).objs.size,[(s.heap.push { cls:=.type "range", data:=.fields #[.int lo t,.int hi u,.int 1 v] }).objs.size],_,_,H,rfl,
  I1.kept (t':=tk) λb o e=>Heap.get?_push_of_some _ e,uW _ lo (hi-lo).toNat,?_,λb hb=>?_,q⟩
 ·have e1:lo+((0:Nat):Int)*1=lo:=by simp
  have e2:(((hi-lo).toNat:Nat):Int)-((0:Nat):Int)=Builtin.Range.rangeSize lo hi 1:=by rw[rangeSize_one];split <;> omega
  show IsRangeIter _ _ (lo+((0:Nat):Int)*1) ((((hi-lo).toNat:Nat):Int)-((0:Nat):Int)) 1
  rw[e1,e2]
  exact Heap.get?_push_size _ rfl
 ·have e:b=(s.heap.push { cls:=.type "range", data:=.fields #[.int lo t,.int hi u,.int 1 v] }).objs.size:=by simpa using hb
  subst e
  exact I1.qY (Nat.le_refl _) (I1.bC.fresh (Nat.le_refl _))
def Dw(ta:TA):TI:=fun σ H R=>ta σ H λvs H1=>∃ j:Int,vs=[.int j]/\-(2^62)<=j/\j<2^62/\R (Hh 0 j.toNat) H1
def Du(ta:TA):TI:=fun σ H R=>ta σ H λvs H1=>∃ i j:Int,vs=[.int i,.int j]/\(-(2^62)<=i/\i<2^62/\-(2^62)<=j/\j<2^62)/\R (Hh i (j-i).toNat) H1
theorem e8{a:Expr}{ta:TA}{pos:Pos}(hg:Gl X "range")(hm:X.mg "range" = none)(ha:PA X [a] ta)(hs:autoParam (starEach [a] X.env=[(false,eval a X.env)]) aR._auto_1):PI X tg (.Call (.Name "range" p) [a] [] pos) (Dw ta):=by
 intro Kt s σ H R I h
 refine Call_ (ix I hg hm boot_range (PyProof.Rows.callWith_type1 (cJ (ha pos Kt s σ H _ I h) λus s1 ⟨vs,H1,I1,r1,q1⟩=>?_) hs rfl))
 obtain⟨j,e,q1,q2,q⟩:=q1
 subst e
 cases r1 with
 | cons r rr =>
  cases rr
  obtain⟨t,rfl⟩:=r
  exact call_range_1 (sN I1 (by omega) (by omega) q1 q2 (by simpa using q))
theorem yj{a b:Expr}{ta:TA}{pos:Pos}(hg:Gl X "range")(hm:X.mg "range" = none)(ha:PA X [a,b] ta)(hs:autoParam (starEach [a,b] X.env=[(false,eval a X.env),(false,eval b X.env)]) aR._auto_1)(LY:autoParam (starEach [b] X.env=[(false,eval b X.env)]) aR._auto_1) :
  PI X tg (.Call (.Name "range" p) [a,b] [] pos) (Du ta):=by
 intro Kt s σ H R I h
 refine Call_ (ix I hg hm boot_range (PyProof.Rows.callWith_type1 (cJ (ha pos Kt s σ H _ I h) λus s1 ⟨vs,H1,I1,r1,q1⟩=>?_) (by rw[hs,LY]) (by rw[LY];rfl)))
 obtain⟨i,j,e,⟨q1,q2,q3,q4⟩,q⟩:=q1
 subst e
 cases r1 with
 | cons r rr =>
  cases rr with
  | cons r' rr =>
   cases rr
   obtain⟨t,rfl⟩:=r
   obtain⟨t',rfl⟩:=r'
   exact call_range_2 (sN I1 q1 q2 q3 q4 q)
def Hy(wi:TI)(g:TG)(tb:TS):TS:=λD σ H=>wi σ H λJ H1=>∃ W:Nat->Nat->St->Hp->Prop,(∃ m,W 0 m σ H1)/\∀ i m σ H,W i m σ H ->
 (J.stop i H/\D.nx σ H)\/(J.go i H/\∃ N:St->Hp->Prop,(∀ σ' H',N σ' H'->∃ m',m'<m/\W (i+1) m' σ' H')/\∀ x H',J.rL i H x H'->g x σ H' fun σ2 H2=>tb { D with nx:=N,ct:=N,bk:=D.nx } σ2 H2)
def lF(fp:List Addr)(h:Heap):List (Addr×Obj):=fp.filterMap λb=>(h.get? b).map λo=>(b,o)
theorem iz(hb:b∈fp)(e:h.get? b=some o):(b,o)∈lF fp h:=List.mem_filterMap.mpr ⟨b,hb,by rw[e];rfl⟩
theorem ye{p:Addr×Obj}(hp:p∈lF fp h):p.1∈fp/\h.get? p.1=some p.2:=by
 obtain⟨b,hb,e⟩:=List.mem_filterMap.mp hp
 cases q:h.get? b with
 | none=>rw[q] at e;cases e
 | some o =>
  rw[q] at e
  have e':(b,o)=p:=Option.some.inj e
  subst e'
  exact⟨hb,q⟩
theorem Inv.pinned(I:Inv X Kt σ H s)(hf:∀ b∈fp,kC X Kt H b)(ho:∀ b∈fp,∃ o,s.heap.get? b=some o/\∀ v,o.data≠.cell v):Inv X (Kt++lF fp s.heap) σ H s :=
 I.vY λp hp=>(List.mem_append.mp hp).elim (λz=>I.pin p (List.mem_append_right _ z)) λz=>by
  obtain⟨hb,e⟩:=ye z
  obtain⟨f0,f1,f2,_⟩:=hf p.1 hb
  obtain⟨o,e',d⟩:=ho p.1 hb
  rw[e] at e';cases e'
  exact⟨e,f0,f1,f2,d⟩
theorem Inv.kR{pl:List (Addr×Obj)}(I:Inv X (Kt++pl) σ H s):Inv X Kt σ H s:=I.vY λp hp=>I.pin p (List.mem_append_right _ (List.mem_append_left _ hp))
theorem A_{iter:Expr}{wi:TI}{g:TG}{pos:Pos}(hp:PassesOwn (model X.prog X.w) X.A X.env X.xe)(hc:X.calm=true)(hi:PI X tg iter wi)(hg:PG X tg g)(hb:kj X body tb)
  (hs:autoParam (∀ x,foldedSetIterable iter X.env x=pure x) aI._auto_1):PS X (.For tg iter body [] pos) (Hy wi g tb):=by
 intro Kt s σ H D I h
 refine wpAny_For (cJ (hi Kt s σ H _ I h) λv s1 h1=>cJ h1 λitv s2 h2=>?_) hs
 obtain⟨it,fp,tn,J,H2,e,I2,T,Na,f2,W,⟨m0,w0⟩,turn⟩:=h2
 subst e
 have Mz:∀ {H':Hp},(∀ b∈fp,H' b=none)->∀ b∈fp,kC X Kt H' b:=λhn b hb=>⟨hn b hb,(f2 b hb).2⟩
 refine codeAny_forLoop_any (λn s'=>∃ i σ' H',Inv X Kt σ' H' s'/\tn i s'.heap/\(∀ b∈fp,H' b=none)/\W i n σ' H') ?_ m0 ⟨0,σ,H2,I2,Na,λb hb=>(f2 b hb).1,w0⟩
 rintro n s3 ⟨i,σ3,H3,I3,st3,fr3,w3⟩
 rcases turn i n σ3 H3 w3 with ⟨stop,qn⟩ | ⟨go,N,hN,step⟩
 ·refine wpAny_passesOwn hp (cJ (T.done X rfl rfl rfl hc i Kt s3 σ3 H3 X.xe I3 (Mz fr3) st3 stop) λr s4 ⟨hr,I4⟩=>?_)
  subst hr
  exact wpAny_execs_nil ⟨σ3,H3,I4,qn⟩
 ·refine wpAny_passesOwn hp (cJ (T.item X rfl rfl rfl hc i Kt s3 σ3 H3 X.xe I3 (Mz fr3) st3 go) λr s4 ⟨u,hr,h4⟩=>?_)
  subst hr
  refine wpAny_passesOwn hp (cJ h4 λ_ s5 ⟨x,H5,I5,r5,y5,st5,fr5⟩=>?_)
  have I5':=I5.pinned (Mz fr5) (T.obj _ _ st5)
  refine wpAny_passesOwn hp (cJ (hg _ s5 σ3 H5 x u _ I5' r5 (step x H5 y5)) λ_ s6 ⟨σ6,H6,I6,q6⟩=>?_)
  refine wpAny_passesOwn hp (cJ (hb _ s6 σ6 H6 _ I6 q6) λf s7 q7=>?_)
  have again:∀ {σ7:St} {H7:Hp},Inv X (Kt++lF fp s5.heap) σ7 H7 s7->N σ7 H7->∃ m,m<n/\∃ i σ' H',Inv X Kt σ' H' s7/\tn i s7.heap/\(∀ b∈fp,H' b=none)/\W i m σ' H':=λ{σ7 H7} I7 n7=>by
   obtain⟨m',hm,w7⟩:=hN σ7 H7 n7
   refine⟨m',hm,i+1,σ7,H7,I7.kR,T.keep _ _ _ st5 λb hb o e=>(I7.pin (b,o) (List.mem_append_right _ (List.mem_append_right _ (iz hb e)))).1,λb hb=>?_,w7⟩
   obtain⟨o,e,d⟩:=T.obj _ _ st5 b hb
   exact(I7.pin (b,o) (List.mem_append_right _ (List.mem_append_right _ (iz hb e)))).2.1
  cases f with
  | next=>obtain⟨σ7,H7,I7,n7⟩:=q7;exact again I7 n7
  | cont=>obtain⟨σ7,H7,I7,n7⟩:=q7;exact again I7 n7
  | brk=>obtain⟨σ7,H7,I7,q7⟩:=q7;exact⟨σ7,H7,I7.kR,q7⟩
  | ret v=>obtain⟨x7,σ7,H7,I7,r7,q7⟩:=q7;exact⟨x7,σ7,H7,I7.kR,r7,q7⟩
abbrev R2:=V->V->Hp->VK->Prop
def gU(X:Cx)(f:Value->Value->Sem Value)(r:R2):Prop :=
 ∀ (Kt:List (Addr×Obj)) (s:Shared) (σ:St) (H:Hp) (x y:V) (v u:Value) (Q:VK),Inv X Kt σ H s->RelV x v->RelV y u->r x y H Q ->
  wpAny (model X.prog X.w) X.A (f v u) (EP X Kt σ Q) X.xe s
def JH(X:Cx)(f:Value->Sem Value)(r:V->Hp->VK->Prop):Prop :=
 ∀ (Kt:List (Addr×Obj)) (s:Shared) (σ:St) (H:Hp) (x:V) (v:Value) (Q:VK),Inv X Kt σ H s->RelV x v->r x H Q ->
  wpAny (model X.prog X.w) X.A (f v) (EP X Kt σ Q) X.xe s
def dz(X:Cx)(f:Value)(r:List V->Hp->VK->Prop):Prop :=
 ∀ (Kt:List (Addr×Obj)) (s:Shared) (σ:St) (H:Hp) (xs:List V) (us:List Value) (Q:VK),Inv X Kt σ H s->Vals xs us->r xs H Q ->
  wpAny (model X.prog X.w) X.A (call f us) (EP X Kt σ Q) X.xe s
def FH(r:R2)(ta tb:TE):TE:=fun σ H Q=>ta σ H λx H1=>tb σ H1 λy H2=>r x y H2 Q
def J0(r:V->Hp->VK->Prop)(ta:TE):TE:=fun σ H Q=>ta σ H λx H1=>r x H1 Q
def rI(C:Int->Int->Prop)(g:Int->Int->V):R2:=λx y H Q=>∃ i j,x=.int i/\y=.int j/\C i j/\Q (g i j) H
def vh(g:Int->Int->V):R2:=λx y H Q=>∃ i j,x=.int i/\y=.int j/\Q (g i j) H
def rU(g:Int->V):V->Hp->VK->Prop:=λx H Q=>∃ i,x=.int i/\Q (g i) H
variable{f:Value->Value->Sem Value}
variable{r:R2}
section
variable{a b:Expr}{tb tc:TE}{pos:Pos}
theorem FG(ha:PE X a ta)(hb:PE X b tb){R:V->V->Hp->Prop}(I:Inv X Kt σ H s)
  (h:ta σ H λx H1=>tb σ H1 λy H2=>R x y H2)
  (hf:∀ v u s2 x y H2,Inv X Kt σ H2 s2->RelV x v->RelV y u->R x y H2->wpAny (model X.prog X.w) X.A (f v u) Q X.xe s2) :
  wpAny (model X.prog X.w) X.A (eval a X.env) (λv s₁=>wpAny (model X.prog X.w) X.A (eval b X.env) (λu s₂=>wpAny (model X.prog X.w) X.A (f v u) Q X.xe s₂) X.xe s₁) X.xe s:=by
 refine cJ (ha Kt s σ H _ I h) λv s1 ⟨x,H1,I1,r1,q1⟩=>?_
 refine cJ (hb Kt s1 σ H1 _ I1 q1) λu s2 ⟨y,H2,I2,r2,q2⟩=>?_
 exact hf v u s2 x y H2 I2 r1 r2 q2
theorem D5{op:Operator}(ho:gU X (binaryOp op) r)(ha:PE X a ta)(hb:PE X b tb):PE X (.BinOp a op b pos) (FH r ta tb):=by
 intro Kt s σ H Q I h
 exact wpAny_BinOp (FG ha hb I h λv u s2 x y H2 I2 rx ry q=>ho Kt s2 σ H2 x y v u Q I2 rx ry q)
theorem Hj{op:UnaryOp}{r:V->Hp->VK->Prop}(ho:JH X (unaryOp op) r)(ha:PE X a ta):PE X (.UnaryOp op a pos) (J0 r ta):=by
 intro Kt s σ H Q I h
 exact UnaryOp_ (cJ (ha Kt s σ H _ I h) λv s1 ⟨x,H1,I1,r1,q1⟩=>ho Kt s1 σ H1 x v Q I1 r1 q1)
theorem Jk{C:Int->Int->Prop}{g:Int->Int->Int}
  (rule:∀ (i j:Int) (t u:Tok) (s:Shared) (Q:Value->Shared->Prop) (E:Value->Shared->Prop),C i j->Q (.int (g i j) s.toks) { s with toks:=s.toks+1 }->wpAny (model X.prog X.w) X.A (f (.int i t) (.int j u)) Q E s) :
  gU X f (rI C λi j=>.int (g i j)):=by
 intro Kt s σ H x y v u Q I rx ry h
 obtain⟨i,j,rfl,rfl,hc,q⟩:=h
 obtain⟨t,rfl⟩:=rx
 obtain⟨t',rfl⟩:=ry
 exact rule i j t t' s _ _ hc ⟨.int (g i j),H,I.tok _,⟨_,rfl⟩,q⟩
theorem GS{g:Int->Int->Int}
  (rule:∀ (i j:Int) (t u:Tok) (s:Shared) (Q:Value->Shared->Prop) (E:Value->Shared->Prop),Q (.int (g i j) s.toks) { s with toks:=s.toks+1 }->wpAny (model X.prog X.w) X.A (f (.int i t) (.int j u)) Q E s) :
  gU X f (vh λi j=>.int (g i j)):=by
 intro Kt s σ H x y v u Q I rx ry h
 obtain⟨i,j,rfl,rfl,q⟩:=h
 obtain⟨t,rfl⟩:=rx
 obtain⟨t',rfl⟩:=ry
 exact rule i j t t' s _ _ ⟨.int (g i j),H,I.tok _,⟨_,rfl⟩,q⟩
theorem BO{g:Int->Int->Bool}
  (rule:∀ (i j:Int) (t u:Tok) (s:Shared) (Q:Value->Shared->Prop) (E:Value->Shared->Prop),Q (.bool (g i j)) s->wpAny (model X.prog X.w) X.A (f (.int i t) (.int j u)) Q E s) :
  gU X f (vh λi j=>.bl (g i j)):=by
 intro Kt s σ H x y v u Q I rx ry h
 obtain⟨i,j,rfl,rfl,q⟩:=h
 obtain⟨t,rfl⟩:=rx
 obtain⟨t',rfl⟩:=ry
 exact rule i j t t' s _ _ ⟨.bl (g i j),H,I,rfl,q⟩
theorem Gs:gU X (binaryOp .Add) (vh λi j=>.int (i+j)):=GS λ_ _ _ _ _ _ _ q=>add_int q
theorem Ee:gU X (binaryOp .Sub) (vh λi j=>.int (i-j)):=GS λ_ _ _ _ _ _ _ q=>sub_int q
theorem B9:gU X (binaryOp .Mod) (rI (λ_ j=>j≠0) λi j=>.int (i.fmod j)):=Jk λ_ _ _ _ _ _ _ hc q=>mod_int' hc q
theorem Kj{f:Value->Sem Value}{g:Int->Int}
  (rule:∀ (i:Int) (t:Tok) (s:Shared) (Q:Value->Shared->Prop) (E:Value->Shared->Prop),Q (.int (g i) s.toks) { s with toks:=s.toks+1 }->wpAny (model X.prog X.w) X.A (f (.int i t)) Q E s) :
  JH X f (rU λi=>.int (g i)):=by
 intro Kt s σ H x v Q I rx h
 obtain⟨i,rfl,q⟩:=h
 obtain⟨t,rfl⟩:=rx
 exact rule i t s _ _ ⟨.int (g i),H,I.tok _,⟨_,rfl⟩,q⟩
theorem FT:JH X (unaryOp .USub) (rU λi=>.int (-i)):=Kj λ_ _ _ _ _ q=>neg_int q
end
variable{op:CmpOp}
variable{us:List Value}
section
variable{a b:Expr}{tb tc:TE}{pos:Pos}
theorem rE{Q:VK}{k k':Bool}(I:Inv X Kt σ H s)(q:Q (.bl k) H)(e:k=k'):EP X Kt σ Q (.bool k') s:=by
 subst e
 exact⟨.bl k,H,I,rfl,q⟩
theorem vR:gU X (compareOp .Lt) (vh λi j=>.bl (decide (i<j))):=BO λ_ _ _ _ _ _ _ q=>lt_int q
theorem tH:gU X (compareOp .LtE) (vh λi j=>.bl (decide (i<=j))):=BO λ_ _ _ _ _ _ _ q=>le_int q
theorem Dz:gU X (compareOp .Gt) (vh λi j=>.bl (decide (j<i))):=BO λ_ _ _ _ _ _ _ q=>gt_int q
theorem DA:gU X (compareOp .GtE) (vh λi j=>.bl (decide (j<=i))):=BO λ_ _ _ _ _ _ _ q=>ge_int q
theorem zA:gU X (compareOp .Is) (λx y H Q=>y=.cy/\Q (.bl (decide (x=.cy))) H):=by
 intro Kt s σ H x y v u Q I rx ry h
 obtain⟨rfl,q⟩:=h
 cases ry
 refine is_none_gen (rE I q ?_)
 cases x <;> first
  | (cases rx;rfl)
  | (obtain⟨t,rfl⟩:=rx;rfl)
theorem wy:gU X (compareOp .IsNot) (λx y H Q=>y=.cy/\Q (.bl (!decide (x=.cy))) H):=by
 intro Kt s σ H x y v u Q I rx ry h
 obtain⟨rfl,q⟩:=h
 cases ry
 refine isnot_none_gen (rE I q ?_)
 cases x <;> first
  | (cases rx;rfl)
  | (obtain⟨t,rfl⟩:=rx;rfl)
theorem gU.or{r':R2}(h:gU X f r)(h':gU X f r'):gU X f (λx y H Q=>r x y H Q\/r' x y H Q):=by
 intro Kt s σ H x y v u Q I rx ry q
 rcases q with q | q
 ·exact h Kt s σ H x y v u Q I rx ry q
 ·exact h' Kt s σ H x y v u Q I rx ry q
theorem cZ(b:Expr)(h:autoParam (op≠.In) aD._auto_1)(h2:autoParam (op≠.NotIn) aD._auto_1):behindInMarks op b=false:=by
 have e1:(op==CmpOp.In)=false:=by cases op <;> first | rfl | exact absurd rfl h
 have e2:(op==CmpOp.NotIn)=false:=by cases op <;> first | rfl | exact absurd rfl h2
 cases b <;> simp[behindInMarks,e1,e2]
theorem BH(ho:gU X (compareOp op) r)(ha:PE X a ta)(hb:PE X b tb)(hm:behindInMarks op b=false):PE X (.Compare a [op] [b] pos) (FH r ta tb):=by
 intro Kt s σ H Q I h
 exact wpAny_Compare1 (FG ha hb I h λv u s2 x y H2 I2 rx ry q=>ho Kt s2 σ H2 x y v u Q I2 rx ry q) hm
def DC(t:TE):TT:=fun σ H Q=>t σ H λx H'=>∃ k,x=.bl k/\Q k H'
theorem vD(ho:gU X (compareOp op) r)(ha:PE X a ta)(hb:PE X b tb)(hm:behindInMarks op b=false):PT X (.Compare a [op] [b] pos) (DC (FH r ta tb)):=by
 intro Kt s σ H Q I h
 refine wpAny_isTrue_Compare1 (cJ (ha Kt s σ H _ I h) λv s1 ⟨x,H1,I1,r1,q1⟩=>cJ (hb Kt s1 σ H1 _ I1 q1) λu s2 ⟨y,H2,I2,r2,q2⟩ =>
  cJ (ho Kt s2 σ H2 x y v u _ I2 r1 r2 q2) λc s3 ⟨z,H3,I3,r3,k,e,q3⟩=>?_) hm
 subst e
 cases r3
 exact wpAny_truthy_bool ⟨H3,I3,q3⟩
def yw(r r':R2)(ta tb tc:TE):TE:=fun σ H Q=>ta σ H λx H1=>tb σ H1 λy H2=>r x y H2 λz H3=>∃ k,z=.bl k ∧
 (if k=true then tc σ H3 λw' H4=>r' y w' H4 Q else Q (.bl false) H3)
theorem Aw{NF:CmpOp}{r':R2}(ho:gU X (compareOp op) r)(Mr:gU X (compareOp NF) r')(ha:PE X a ta)(hb:PE X b tb)(hc:PE X c tc)
  (hm:autoParam (lastMarks [op,NF] [b,c]=false) aU._auto_1):PE X (.Compare a [op,NF] [b,c] pos) (yw r r' ta tb tc):=by
 intro Kt s σ H Q I h
 refine Compare_chain (cJ (ha Kt s σ H _ I h) λv s1 ⟨x,H1,I1,r1,q1⟩=>chain_link (cJ (hb Kt s1 σ H1 _ I1 q1) λu s2 ⟨y,H2,I2,r2,q2⟩ =>
  cJ (ho Kt s2 σ H2 x y v u _ I2 r1 r2 q2) λd s3 ⟨z,H3,I3,r3,k,e,q3⟩=>?_)) hm
 subst e
 cases r3
 refine wpAny_truthy_bool ?_
 cases k with
 | false=>exact ite_ff ⟨.bl false,H3,I3,rfl,q3⟩
 | true=>exact ite_tt (chain_last (cJ (hc Kt s3 σ H3 _ I3 q3) λw' s4 ⟨z',H4,I4,r4,q4⟩=>Mr Kt s4 σ H4 y z' u w' Q I4 r2 r4 q4))
theorem lA:(sizeLine:Nat)<2^63:=by rw[sizeLine_eq];decide
theorem uG:gU X (binaryOp .Add) (λx y H Q=>∃ i j,x=.str i/\y=.str j/\i.length+j.length<=sizeLine/\Q (.str (i++j)) H):=by
 intro Kt s σ H x y v u Q I rx ry h
 obtain⟨i,j,rfl,rfl,hz,q⟩:=h
 obtain⟨t,rfl⟩:=rx
 obtain⟨t',rfl⟩:=ry
 exact add_str (λt' tk=>⟨.str (i++j),H,I.tok _,⟨_,rfl⟩,q⟩) hz
theorem vals1{x:V}(r:Vals [x] us):∃ u,us=[u]/\RelV x u:=by
 cases r with
 | cons r1 r2=>cases r2;exact⟨_,rfl,r1⟩
theorem vals2{x y:V}(r:Vals [x,y] us):∃ u w',us=[u,w']/\RelV x u/\RelV y w':=by
 cases r with
 | cons r1 r2 =>
  cases r2 with
  | cons r3 r4=>cases r4;exact⟨_,_,rfl,r1,r3⟩
theorem wX(hc:X.calm=true):dz X (.builtin "max") (λxs H Q=>∃ i j,xs=[.int i,.int j]/\Q (.int (if j>i then j else i)) H):=by
 intro Kt s σ H xs us Q I r h
 obtain⟨i,j,rfl,q⟩:=h
 obtain⟨u,w',rfl,⟨t,rfl⟩,⟨t',rfl⟩⟩:=vals2 r
 refine max_two_ints (I.ok.hd hc) λh' tk k=>⟨_,H,I.kept k,?_,q⟩
 by_cases hj:j>i
 ·rw[if_pos hj,if_pos hj];exact⟨_,rfl⟩
 ·rw[if_neg hj,if_neg hj];exact⟨_,rfl⟩
end
structure ve (h:Heap) (x dx C:Addr) (mA:Str->Option Value):Prop where
 obj:h.get? x=some (PySem.W.instObj C dx)
 ns:h.Ns1 dx mA
 ne:dx≠x
variable{mA:Str->Option Value}{dx:Addr}
theorem lD(n:h.Ns1 dx mA):∃ od,h.get? dx=some od/\∀ name,PySem.W.lookIn name od=some (mA name):=by
 obtain⟨o,es,ep,ho,hd,hk,_,hm⟩:=n
 refine⟨o,ho,λname=>?_⟩
 have e:=hm name
 unfold nsFind findBy at e
 rw[← Array.find?_toList] at e
 unfold PySem.W.lookIn
 rw[hd]
 dsimp only
 split
 ·rename_i y q
  rw[q] at e
  exact congrArg some e
 ·rename_i q
  rw[q] at e
  have a:es.toList.any (·.refKey)=false:=by
   rw[List.any_eq_false]
   intro y hy
   obtain⟨z,t,hkey⟩:=hk y (Array.mem_toList_iff.mp hy)
   simp[DictEntry.refKey,hkey]
  have a':¬ es.toList.any (·.refKey)=true:=by rw[a];exact Bool.false_ne_true
  rw[if_neg a']
  exact congrArg some e
variable{C:Addr}
theorem ve.look{x:Addr}(I:ve h x dx C mA):∃ od,PySem.W.InstAt h x (PySem.W.instObj C dx) C (some od)/\∀ name,PySem.W.lookIn name od=some (mA name) :=
 let ⟨od,ho,hl⟩:=lD I.ns
 ⟨od,⟨I.obj,rfl,rfl,ho⟩,hl⟩
variable{prog:Program}
variable{pl:Sem Bool}
variable{kw:List (Str×Value)}
section
variable{K:PySem.W.Frag}{x f:Addr}{name:Str}{v:Value}
theorem get_map{expr:Bool}(X:K.In s.heap)(I:ve s.heap x dx C mA)(hg:PySem.W.plainGet K C name=true)(hh:PySem.W.hasDictIn K C=true)
  (ha:PySem.W.findIn K (.ref C) name=some none) (hv:mA name=some v) (N9:PySem.W.handedIn v=true) (h:Q v { s with toks:=s.toks+1 }) :
  wpAny (model prog w) A (getAttr (.ref x) name expr) Q E s:=by
 obtain⟨od,J,hl⟩:=I.look
 exact PySem.W.get_value X J (PySem.W.plainGet_of hg).1 (PySem.W.findObj_own hh ha rfl (by rw[hl,hv])) N9 h
theorem yY{Q:Value×List Value->Shared->Prop}(X:K.In s.heap)(I:ve s.heap x dx C mA)(hg:PySem.W.plainGet K C name=true)
  (hf:PySem.W.findIn K (.ref C) name=some (some (.ref f))) (ht:PySem.W.isFn K (.ref f)=true) (hv:mA name=none) (h:Q (.ref f,[.ref x]) s) :
  wpAny (model prog w) A (getMethod (.ref x) name pl) Q E s:=by
 obtain⟨od,J,hl⟩:=I.look
 exact PySem.W.method_fn X J (PySem.W.plainGet_of hg).1 (PySem.W.plainGet_of hg).2 hf (beq_iff_eq.mp ht) (by show (PySem.W.lookIn name od).map (·.isSome)=some false;rw[hl,hv];rfl) h
theorem BA{ns:List Str}{Q:Unit->Shared->Prop}(X:K.In s.heap)(I:ve s.heap x dx C mA)
  (hs:PySem.W.findIn K (.ref C) "__setattr__" = some (some (.builtin "object.__setattr__"))) (hp:PySem.W.plainOver K C=true) (ht:PySem.W.takerIn K C name=some none) (hh:PySem.W.hasDictIn K C=true)
  (hw:PySem.Within mA ns) (Mb:ns.length<=sizeLine)
  (h:∀ h',ve h' x dx C (λy=>if y=name then some v else mA y)->Heap.SameBut dx s.heap h'->Q () { s with heap:=h',toks:=s.toks+2 }) :
  wpAny (model prog w) A (setAttr (.ref x) name v) Q E s:=by
 obtain⟨od,J,hl⟩:=I.look
 refine PySem.W.set_plain X J hs (PySem.W.osa_open (s:={ s with toks:=s.toks+1 }) (r:=none) X J hp ht λb=>?_)
 obtain⟨cd,hc,NX⟩:=PySem.W.any_some hh
 have hx:s.heap.get? x=some ⟨.ref C,some dx,.plain,#[]⟩:=I.obj
 refine wpAny_bind (wpAny_pure (wpAny_bind (wpAny_bind (wpAny_loadPart hx (wpAny_bind (PySem.W.Looks.here (s:={ s with toks:=s.toks+1 }) (PySem.W.looks_clsIn X hc) ?_))))))
 rw[NX]
 refine wpAny_pure (a:=some dx) (wpAny_bind (wpAny_pure (wpAny_bind ?_)))
 refine wpAny_nsSet1 (s:={ s with toks:=s.toks+1 }) I.ns λh' Nl LY=>?_
 obtain⟨oD,esD,epD,hoD,hdD,MS⟩:=Nl.count (PySem.Within.cons name v hw)
 refine wpAny_bind (wpAny_lookBehind hoD (by rw[hdD];exact pastItsLine_dict (Nat.le_trans MS (by rw[List.length_cons];omega))) ?_)
 exact wpAny_pure (h _ ⟨(LY.2 _ (Ne.symm I.ne)).trans I.obj,Nl,I.ne⟩ LY)
theorem yZ{R:Result->Shared->Prop}{vs:List Value}(X:K.In s.heap)(hm:PySem.W.makesIn K C=true)
  (hi:PySem.W.findIn K (.ref C) "__init__" = some (some (.ref f))) (hf:PySem.W.typeIn K (.ref f)=some (.type "function"))
  (h:codeAny (model prog w) (A.under (.builtin "type.__call__" ⟨.ref C::vs,kw⟩)) (.call (.ref f) ⟨.ref (s.heap.objs.size+1)::vs,kw⟩) (PySem.W.InitBack (s.heap.objs.size+1) R)
   { s with heap:=(s.heap.push PySem.W.emptyDict).push (PySem.W.instObj C s.heap.objs.size) }) :
  codeAny (model prog w) A (.call (.ref C) ⟨vs,kw⟩) R s:=by
 obtain⟨hh,g,d,t,os⟩:=s
 exact PySem.W.make_core (PySem.W.makes_of X hm) (PySem.W.looks_findIn X hi) (λself=>PySem.W.bind_fn X self hf) (.inl rfl) h
end
def i7(f:Str)(v:V):List (Str×V)->List (Str×V)
 | []=>[(f,v)]
 | (g,x)::r=>if g=f then (g,v)::r else (g,x)::i7 f v r
theorem lW(f g:Str)(v:V):∀ fs:List (Str×V),(i7 f v fs).lookup g=if g=f then some v else fs.lookup g
 | []=>by
  show List.lookup g [(f,v)]=_
  by_cases h:g=f
  ·have hb:(g==f)=true:=beq_iff_eq.mpr h
   simp only[List.lookup,hb,if_pos h]
  ·have hb:(g==f)=false:=beq_eq_false_iff_ne.mpr h
   simp only[List.lookup,hb,if_neg h]
 | (k,x)::r=>by
  have ih:=lW f g v r
  rw[show i7 f v ((k,x)::r)=(if k=f then (k,v)::r else (k,x)::i7 f v r) from rfl]
  by_cases hk:k=f
  ·rw[if_pos hk]
   by_cases h:g=k
   ·have hb:(g==k)=true:=beq_iff_eq.mpr h
    simp only[List.lookup,hb,if_pos (h.trans hk)]
   ·have hb:(g==k)=false:=beq_eq_false_iff_ne.mpr h
    simp only[List.lookup,hb,if_neg (λe:g=f=>h (e.trans hk.symm))]
  ·rw[if_neg hk]
   by_cases h:g=k
   ·have hb:(g==k)=true:=beq_iff_eq.mpr h
    simp only[List.lookup,hb,if_neg (λe:g=f=>hk (h.symm.trans e))]
   ·have hb:(g==k)=false:=beq_eq_false_iff_ne.mpr h
    simp only[List.lookup,hb]
    exact ih
theorem lC(f:Str)(v:V):∀ fs:List (Str×V),f∈(i7 f v fs).map (·.1)/\∀ g,g∈fs.map (·.1)->g∈(i7 f v fs).map (·.1)
 | []=>⟨by simp[i7],λg h=>by simp at h⟩
 | (k,x)::r=>by
  obtain⟨i1,i2⟩:=lC f v r
  rw[show i7 f v ((k,x)::r)=(if k=f then (k,v)::r else (k,x)::i7 f v r) from rfl]
  by_cases hk:k=f
  ·rw[if_pos hk]
   subst hk
   exact⟨by simp,λg h=>by simpa using h⟩
  ·rw[if_neg hk]
   refine⟨?_,λg h=>?_⟩
   ·rw[List.map_cons]
    exact List.mem_cons_of_mem _ i1
   ·rw[List.map_cons] at h ⊢
    rcases List.mem_cons.mp h with e | e
    ·exact List.mem_cons.mpr (.inl e)
    ·exact List.mem_cons_of_mem _ (i2 g e)
theorem lZ(f:Str)(v:V):∀ fs:List (Str×V),(i7 f v fs).length<=fs.length+1
 | []=>by simp[i7]
 | (k,x)::r=>by
  have ih:=lZ f v r
  rw[show i7 f v ((k,x)::r)=(if k=f then (k,v)::r else (k,x)::i7 f v r) from rfl]
  by_cases hk:k=f
  ·rw[if_pos hk,List.length_cons,List.length_cons];omega
  ·rw[if_neg hk,List.length_cons,List.length_cons];omega
theorem kZ.some_of{o:Option Value}(r:kZ (some v) o):∃ u,o=some u/\RelV v u:=by
 cases o with
 | none=>exact(show False from r).elim
 | some u=>exact⟨u,rfl,r⟩
theorem kZ.none_of{o:Option Value}(r:kZ none o):o=none:=by
 cases o with
 | none=>rfl
 | some u=>exact(show False from r).elim
theorem wI(r:RelV v u):PySem.W.handedIn u=true:=by
 cases v with
 | cy=>cases (show u=Value.none from r);rfl
 | bl b=>cases (show u=Value.bool b from r);rfl
 | int i=>obtain⟨t,e⟩:=(show ∃ t,u=Value.int i t from r);cases e;rfl
 | str x=>obtain⟨t,e⟩:=(show ∃ t,u=Value.str x t from r);cases e;rfl
 | byt b=>obtain⟨t,e⟩:=(show ∃ t,u=Value.bytes b t from r);cases e;rfl
 | DX b=>obtain⟨t,e⟩:=(show ∃ t,u=Value.float b t from r);cases e;rfl
 | ref a=>cases (show u=Value.ref a from r);rfl
 | ty n=>cases (show u=Value.type n from r);rfl
section
variable{fs Nr:List (Str×V)}
theorem kO(bC:lU P w H h)(e:H a=some (.ins C dx fs)):∃ mA,ve h a dx C mA/\(∀ f,kZ (fs.lookup f) (mA f))/\PySem.Within mA (fs.map (·.1))/\fs.length<=1000/\H dx=some (.own a):=by
 obtain⟨d,z,ne,ob,mA,n,r,q⟩:=(show bV P w H h a (.ins C dx fs) from bC a _ e)
 exact⟨mA,⟨ob,n,ne⟩,r,q,z,d⟩
end
structure kW (K:PySem.W.Frag) (C:Addr):Prop where
 pg:PySem.W.plainGet K C Str.empty=true
 hd:PySem.W.hasDictIn K C=true
 po:PySem.W.plainOver K C=true
 sa:PySem.W.findIn K (.ref C) "__setattr__" = some (some (.builtin "object.__setattr__"))
theorem kW.get{K:PySem.W.Frag}(c:kW K C)(f:Str):PySem.W.plainGet K C f=true:=c.pg
def bN(K:PySem.W.Frag)(C:Addr)(f:Str):Prop:=PySem.W.findIn K (.ref C) f=some none
theorem bN.DH{K:PySem.W.Frag}{f:Str}(n:bN K C f):PySem.W.takerIn K C f=some none:=by
 unfold PySem.W.takerIn
 rw[show PySem.W.findIn K (.ref C) f=some none from n]
 rfl
structure Meth (K:PySem.W.Frag) (C:Addr) (m:Str) (f:Addr):Prop where
 at_:PySem.W.findIn K (.ref C) m=some (some (.ref f))
 fn:PySem.W.isFn K (.ref f)=true
 kp:PySem.W.keepIn K (.ref f)=true
variable{m:Str}
section
variable{fs:List (Str×V)}{f:Str}
theorem uZ{b:Bool}(I:Inv X Kt σ H s)(e:H a=some (.ins C dx fs))(c:kW X.K C)(n:bN X.K C f)(l:fs.lookup f=some v)
  (h:∀ u s',Inv X Kt σ H s'->RelV v u->Q u s'):wpAny (model X.prog X.w) A (getAttr (.ref a) f b) Q E s:=by
 obtain⟨mA,O,r,_,_,_⟩:=kO I.bC e
 obtain⟨u,hu,ru⟩:=kZ.some_of (v:=v) (o:=mA f) (by rw[← l];exact r f)
 exact get_map I.ja O (c.get f) c.hd n hu (wI ru) (h u _ (I.tok _) ru)
theorem oE{g:Addr}{Q:Value×List Value->Shared->Prop}(I:Inv X Kt σ H s)(e:H a=some (.ins C dx fs))(c:kW X.K C)(k:Meth X.K C m g)(l:fs.lookup m=none)
  (h:Q (.ref g,[.ref a]) s):wpAny (model X.prog X.w) A (getMethod (.ref a) m pl) Q E s:=by
 obtain⟨mA,O,r,_,_,_⟩:=kO I.bC e
 have hn:mA m=none:=kZ.none_of (by rw[← l];exact r m)
 exact yY I.ja O (c.get m) k.at_ k.fn hn h
theorem va{y:V}{Q:Unit->Shared->Prop}(I:Inv X Kt σ H s)(e:H a=some (.ins C dx fs))(c:kW X.K C)(n:bN X.K C f)(hl:fs.length<1000)(ry:RelV y u)
  (h:∀ s',Inv X Kt σ (upd H a (.ins C dx (i7 f y fs))) s'->Q () s'):wpAny (model X.prog X.w) A (setAttr (.ref a) f u) Q E s:=by
 obtain⟨mA,O,r,wi,_,ho⟩:=kO I.bC e
 have hz:(fs.map (·.1)).length<=sizeLine:=by rw[List.length_map,sizeLine_eq];omega
 refine BA I.ja O c.sa c.po n.DH c.hd wi hz λh' O' sb=>h _ ?_
 have hd:∃ o,h'.get? dx=some o:=let ⟨o,_,_,e',_⟩:=O'.ns;⟨o,e'⟩
 refine I.write (x:=a) (e:=dx) (by rw[e];exact True.intro) (.inr ho) (λb q hb z=>(sb.2 b hb).trans z) hd ?_
 refine⟨by rw[ak O.ne];exact ho,?_,O.ne,O'.obj,_,O'.ns,λg=>?_,λg hg=>?_⟩
 ·have:=lZ f y fs;omega
 ·show kZ ((i7 f y fs).lookup g) (if g=f then some u else mA g)
  rw[lW]
  by_cases q:g=f
  ·rw[if_pos q,if_pos q];exact ry
  ·rw[if_neg q,if_neg q];exact r g
 ·by_cases q:g=f
  ·rw[q];exact(lC f y fs).1
  ·refine(lC f y fs).2 g (wi g λz=>hg ?_)
   show (if g=f then some u else mA g)=none
   rw[if_neg q];exact z
theorem Inv.made(I:Inv X Kt σ H s):Inv X Kt σ (upd (upd H s.heap.objs.size (.own (s.heap.objs.size+1))) (s.heap.objs.size+1) (.ins C s.heap.objs.size []))
  { s with heap:=(s.heap.push PySem.W.emptyDict).push (PySem.W.instObj C s.heap.objs.size) }:=by
 have e1:(s.heap.push PySem.W.emptyDict).get? s.heap.objs.size=some PySem.W.emptyDict:=Heap.get?_push_size s.heap rfl
 have e2:((s.heap.push PySem.W.emptyDict).push (PySem.W.instObj C s.heap.objs.size)).get? (s.heap.objs.size+1)=some (PySem.W.instObj C s.heap.objs.size):=by
  have:=Heap.get?_push_size (s.heap.push PySem.W.emptyDict) (o:=PySem.W.instObj C s.heap.objs.size) rfl
  rwa [Heap.size_push] at this
 have e3:(s.heap.push PySem.W.emptyDict).Ns s.heap.objs.size (λ_=>none):=⟨PySem.W.emptyDict,#[],_,e1,rfl,(λe he=>absurd he (by simp)),λ_=>rfl⟩
 have I1:=I.laid (a:=s.heap.objs.size) (o:=.own (s.heap.objs.size+1)) (h':=s.heap.push PySem.W.emptyDict) (t':=s.toks) (λb u q=>Heap.get?_push_of_some _ q) (Nat.le_refl _) ⟨_,e1⟩
 refine I1.laid (a:=s.heap.objs.size+1) (o:=.ins C s.heap.objs.size []) (t':=s.toks) (λb u q=>Heap.get?_push_of_some _ q) (Nat.le_of_eq (Heap.size_push _ _)) ?_
 have ne:s.heap.objs.size≠s.heap.objs.size+1:=Nat.ne_of_lt (Nat.lt_succ_self _)
 refine⟨by rw[ak ne,aw],Nat.zero_le _,ne,e2,λ_=>none,(Heap.Ns1.of_empty e3).at λo q=>Heap.get?_push_of_some _ q,λ_=>True.intro,λy hy=>absurd rfl hy⟩
theorem CS{env:Env}{f:Str}{pos:Pos}(hb:attributeBase e f env (eval e env)=eval e env)
  (h:wpAny (model prog w) A (eval e env) (λo s₁=>wpAny (model prog w) A (getAttr o f true) Q E s₁) E s):wpAny (model prog w) A (eval (.Attribute e f pos) env) Q E s :=
 Attribute_any_ h (by rw[arm_eval_Attribute,hb])
end
def JK(K:PySem.W.Frag)(ta:TE)(f:Str):TE:=fun σ H Q=>ta σ H λx H1=>∃ a C dx fs v,x=.ref a/\H1 a=some (.ins C dx fs)/\kW K C/\bN K C f/\fs.lookup f=some v/\Q v H1
def JN(K:PySem.W.Frag)(ta tv:TE)(f:Str):TS:=λD σ H=>tv σ H λy H1=>ta σ H1 λx H2=>∃ a C dx fs,x=.ref a/\H2 a=some (.ins C dx fs)/\kW K C/\bN K C f/\fs.length<1000 ∧
 D.nx σ (upd H2 a (.ins C dx (i7 f y fs)))
section
variable{o value:Expr}{f:Str}{pos pos' tpos:Pos}{tv:TE}
theorem FJ(he:PE X e ta)(hb:attributeBase e f X.env (eval e X.env)=eval e X.env):PE X (.Attribute e f pos) (JK X.K ta f):=by
 intro Kt s σ H Q I h
 refine CS hb (cJ (he Kt s σ H _ I h) λu s1 ⟨x,H1,I1,rx,a,C,dx,fs,v,ex,ea,c,n,l,q⟩=>?_)
 subst ex
 obtain rfl:u=Value.ref a:=rx
 exact uZ I1 ea c n l λu' s2 I2 ru=>⟨v,H1,I2,ru,q⟩
theorem Gu(ha:PE X o ta)(hv:PE X value tv)(hs:swapsWith value (some (.Attribute o f pos')) pos.line X.env=pure false):PS X (.Assign [.Attribute o f pos'] value pos) (JN X.K ta tv f):=by
 intro Kt s σ H D I h
 refine plainObj_wpAny_Assign_Attribute (cJ (hv Kt s σ H _ I h) λu s1 ⟨y,H1,I1,ry,q⟩=>cJ (ha Kt s1 σ H1 _ I1 q) λov s2 ⟨x,H2,I2,rx,a,C,dx,fs,ex,ea,c,n,l,q2⟩=>?_) hs
 subst ex
 obtain rfl:ov=Value.ref a:=rx
 exact va I2 ea c n l ry λs3 I3=>⟨σ,_,I3,q2⟩
end
section
variable{c:Value}{b:Bool}
inductive jg (K:PySem.W.Frag) (H:Hp):V->Value->Prop where
 | cy:jg K H .cy (.type "NoneType")
 | bl (x:Bool):jg K H (.bl x) (.type "bool")
 | int (i:Int):jg K H (.int i) (.type "int")
 | str (x:Str):jg K H (.str x) (.type "str")
 | DX (x:UInt64):jg K H (.DX x) (.type "float")
 | lst {a:Addr} {xs:List V} (e:H a=some (.lst xs)):jg K H (.ref a) (.type "list")
 | o8 {a:Addr} {o:Obj} {xs:List V} (e:H a=some (.o8 o (.lst xs))):jg K H (.ref a) (.type "list")
 | tup {a:Addr} {xs:List V} (e:H a=some (.tup xs)):jg K H (.ref a) (.type "tuple")
 | dK {a:Addr} {Lu:List (Key×V)} (e:H a=some (.dK Lu)):jg K H (.ref a) (.type "dict")
 | dT {a:Addr} {Lu:List (List Key×V)} (e:H a=some (.dT Lu)):jg K H (.ref a) (.type "dict")
 | ins {a C dx:Addr} {fs:List (Str×V)} (e:H a=some (.ins C dx fs)) (cl:kW K C) (ha:PySem.W.findIn K (.ref C) "__class__" = some (some (.builtin "object.__class__")))
   (hn:PySem.W.specialIn K (.builtin "object.__class__") "__get__" = some (some (.builtin "getset_descriptor.__get__"))) (GD:PySem.W.takesIn K (.builtin "object.__class__")=some true)
   (hm:PySem.W.mroIn K C (.type "object")=some true):jg K H (.ref a) (.ref C)
theorem wL{x:V}{t:Value}(I:Inv X Kt σ H s)(rx:RelV x u)(ty:jg X.K H x t)(e:PySem.W.kitOne X.K t c=some b)(h:∀ tk,Q (.bool b) { s with toks:=tk }) :
  wpAny (model X.prog X.w) A (call (.builtin "isinstance") [u,c]) Q E s:=by
 cases ty with
 | cy=>cases (show u=Value.none from rx);exact PySem.W.kia_one PySem.W.kitx_none I.ja True.intro e (λz=>nomatch z) h
 | bl y=>cases (show u=Value.bool y from rx);exact PySem.W.kia_one PySem.W.kitx_bool I.ja True.intro e (λz=>nomatch z) h
 | int i=>obtain⟨t,q⟩:=(show ∃ t,u=Value.int i t from rx);cases q;exact PySem.W.kia_one PySem.W.kitx_int I.ja True.intro e (λz=>nomatch z) h
 | str y=>obtain⟨t,q⟩:=(show ∃ t,u=Value.str y t from rx);cases q;exact PySem.W.kia_one PySem.W.kitx_str I.ja True.intro e (λz=>nomatch z) h
 | DX y=>obtain⟨t,q⟩:=(show ∃ t,u=Value.float y t from rx);cases q;exact PySem.W.kia_one PySem.W.kitx_float I.ja True.intro e (λz=>nomatch z) h
 | @lst a xs ea =>
  cases (show u=Value.ref a from rx)
  obtain⟨_,_,n,_,h1⟩:=(show bV X.prog X.w H s.heap a (.lst xs) from I.bC a _ ea)
  exact PySem.W.kia_one PySem.W.kitx_list I.ja ⟨_,h1,rfl⟩ e (λz=>nomatch z) h
 | @o8 a ob xs ea =>
  cases (show u=Value.ref a from rx)
  obtain⟨_,_,_,n,_,h1⟩:=(show bV X.prog X.w H s.heap a (.o8 ob (.lst xs)) from I.bC a _ ea)
  exact PySem.W.kia_one PySem.W.kitx_list I.ja ⟨_,h1,rfl⟩ e (λz=>nomatch z) h
 | @tup a xs ea =>
  cases (show u=Value.ref a from rx)
  obtain⟨_,_,_,p⟩:=(show bV X.prog X.w H s.heap a (.tup xs) from I.bC a _ ea)
  obtain⟨o,h1,h2,_⟩:=p
  exact PySem.W.kia_one PySem.W.kitx_tuple I.ja ⟨o,h1,h2⟩ e (λz=>nomatch z) h
 | @dK a Lu ea =>
  cases (show u=Value.ref a from rx)
  obtain⟨_,_,vs,_,p⟩:=(show bV X.prog X.w H s.heap a (.dK Lu) from I.bC a _ ea)
  obtain⟨o,es,ep,h1,h2,_⟩:=p
  exact PySem.W.kia_one PySem.W.kitx_dict I.ja ⟨o,h1,h2.1⟩ e (λz=>nomatch z) h
 | @dT a Lu ea =>
  cases (show u=Value.ref a from rx)
  obtain⟨_,_,xs,_,o,es,ep,h1,h2,_⟩:=(show bV X.prog X.w H s.heap a (.dT Lu) from I.bC a _ ea)
  exact PySem.W.kia_one PySem.W.kitx_dict I.ja ⟨o,h1,h2.1⟩ e (λz=>nomatch z) h
 | @ins a C dx fs ea cl ha hn GD hm =>
  cases (show u=Value.ref a from rx)
  obtain⟨mA,O,_⟩:=kO I.bC ea
  obtain⟨od,J,_⟩:=O.look
  exact PySem.W.kia_one (PySem.W.kitx_own (cl.get _) cl.hd ha hn GD hm) I.ja J e (λz=>nomatch z) h
end
structure bZ (k:Nat) (A:Around):Prop where
 hd:A.handled=none
 dp:A.depth+3*k+5<recursionLimit
 un:A.units+16*k+200<cLine
theorem bZ.mono{j:Nat}(r:bZ k A)(h:j<=k):bZ j A:=⟨r.hd,by have:=r.dp;omega,by have:=r.un;omega⟩
theorem bZ.deeper{k:Nat}{A:Around}(r:bZ (k+1) A)(env:Env):bZ k (A.deeper env) :=
 ⟨r.hd,by have:=r.dp;show A.depth+1+3*k+5<_;omega,by have:=r.un;show A.units+3+16*k+200<_;omega⟩
theorem uU:(A.under (.builtin "type.__call__" ⟨.ref C::us,kw⟩)).depth=A.depth+1:=by
 first | rfl | simp[Around.under,Code.weight,Code.isCreation,Code.isGuard,Code.isCaller,Code.frames,Code.isFrame,guardIds]
theorem vp:(A.under (.builtin "type.__call__" ⟨.ref C::us,kw⟩)).units=A.units+1:=by
 first | rfl | simp[Around.under,Code.cUnits,Code.frames,Code.isFrame]
theorem bZ.make(r:bZ (k+1) A)(C:Addr)(us:List Value)(kw:List (Str×Value)):bZ k (A.under (.builtin "type.__call__" ⟨.ref C::us,kw⟩)) :=
 ⟨r.hd,by have:=r.dp;rw[uU];omega,by have:=r.un;rw[vp];omega⟩
theorem bZ.depth{k:Nat}{A:Around}(r:bZ k A):A.depth<recursionLimit:=by have:=r.dp;omega
theorem bZ.units{k:Nat}{A:Around}(r:bZ k A):A.units+64<cLine:=by have:=r.un;omega
def uM:TA:=λ_ H Q=>Q [] H
def sX(ta:TE)(tr:TA):TA:=fun σ H Q=>ta σ H λx H1=>tr σ H1 λxs H2=>Q (x::xs) H2
variable{t:TA}
section
variable{pos:Pos}
theorem g9:PA X [] uM:=λ_ _ _ _ H Q I h=>Calls.spliced_nil ⟨[],H,I,.nil,h⟩
theorem dJ(ha:PE X e te)(hr:PA X es t)(hs:autoParam (starEach (e::es) X.env=(false,eval e X.env)::starEach es X.env) aR._auto_1):PA X (e::es) (sX te t):=by
 intro pos Kt s σ H Q I h
 rw[hs]
 show wpAny _ _ (spliced ((false,eval e X.env)::backTo pos (starEach es X.env))) _ _ s
 refine Calls.spliced_cons (cJ (ha Kt s σ H _ I h) λu s1 ⟨x,H1,I1,r1,q1⟩=>?_)
 exact cJ (hr pos Kt s1 σ H1 _ I1 q1) λus s2 ⟨xs,H2,I2,r2,q2⟩=>⟨x::xs,H2,I2,.cons r1 r2,q2⟩
def IG(t:TA):TE:=fun σ H Q=>t σ H λxs H1=>xs.length<=sizeLine/\∀ p,H1 p=none->Q (.ref p) (upd H1 p (.tup xs))
def B5(t:TA):TE:=fun σ H Q=>t σ H λxs H1=>xs.length<=sizeLine/\∀ p,H1 p=none->Q (.ref p) (upd H1 p (.lst xs))
theorem AV{x1}(h:PA X es t):PE X (.Tuple es x1 pos) (IG t):=by
 intro Kt s σ H Q I hq
 refine wpAny_Tuple_spliced (cJ (h pos Kt s σ H _ I hq) λus s1 ⟨xs,H1,I1,r,z,q⟩=>⟨by rw[← r.length];exact z,?_⟩)
 have hf:H1 s1.heap.objs.size=none:=I1.bC.fresh (Nat.le_refl _)
 refine⟨.ref s1.heap.objs.size,upd H1 s1.heap.objs.size (.tup xs),I1.laid (t':=s1.toks) (λb u e=>Heap.get?_push_of_some _ e) (Nat.le_refl _) ?_,rfl,q _ hf⟩
 exact⟨z,us,r,⟨_,Heap.get?_push_size _ rfl,rfl,_,rfl⟩⟩
theorem nX(h:PA X es t):PE X (.List es pos) (B5 t):=by
 intro Kt s σ H Q I hq
 refine wpAny_List_spliced (cJ (h pos Kt s σ H _ I hq) λus s1 ⟨xs,H1,I1,r,z,q⟩=>⟨by rw[← r.length];exact z,?_⟩)
 have hf:H1 s1.heap.objs.size=none:=I1.bC.fresh (Nat.le_refl _)
 refine⟨.ref s1.heap.objs.size,upd H1 s1.heap.objs.size (.lst xs),I1.laid (t':=s1.toks) (λb u e=>Heap.get?_push_of_some _ e) (Nat.le_refl _) ?_,rfl,q _ hf⟩
 exact⟨z,us,0,r,Heap.get?_push_size _ rfl⟩
end
abbrev Sp:=List V->Hp->VK->XK->Prop
abbrev Gx:=List Env->Hp->Shared->XK->Value->Shared->Prop
structure u6 (P:Program) (w:World) (K:PySem.W.Frag) (mg:Str->Option Value) (base:Heap) (A:Around) (outer:List Env) (s:Shared) (H:Hp):Prop where
 frames:A.frames=some outer
 mod:Mod K mg base
 bs:∀ b o,base.get? b=some o->s.heap.get? b=some o/\H b=none
 DT:base.objs.size<=s.heap.objs.size
 mB:s.heap.FunFrames base outer
 Gm:∀ b∈uv outer,H b=none
 bC:lU P w H s.heap
 bare:AllBare s.gens
def CE(outer:List Env)(P:Program)(w:World)(H:Hp)(s:Shared)(Q:VK)(u:Value)(s':Shared):Prop :=
 ∃ v H',s'.os=s.os/\AllBare s'.gens/\Un (uv outer) [] H H' s.heap s'.heap/\lU P w H' s'.heap/\RelV v u/\Q v H'
def CR(CX:Gx)(outer:List Env)(P:Program)(w:World)(H:Hp)(s:Shared)(Q:VK)(E:XK)(r:Result)(s':Shared):Prop :=
 match r with
 | .ok (.ret u)=>CE outer P w H s Q u s'
 | .ok _=>False
 | .error e=>CX outer H s E e s'
structure aV (P:Program) (w:World) (K:PySem.W.Frag) (mg:Str->Option Value) (base:Heap) (CX:Gx) (k:Nat) (f:Addr) (fd:FuncData) (ps:List Str) (sp:Sp):Prop where
 len:∀ vs H Q E,sp vs H Q E->vs.length=ps.length
 run:∀ (A:Around) (outer:List Env) (s:Shared) (H:Hp) (args:Args) (us:List Value) (vs:List V) (Q:VK) (E:XK),bZ k A->u6 P w K mg base A outer s H->BindsTo s fd args (ps.zip us)->Vals vs us->sp vs H Q E ->
  codeAny (model P w) A (.call (.ref f) args) (CR CX outer P w H s Q E) s
variable{outer:List Env}{base:Heap}{mg:Str->Option Value}
theorem u6.make{K:PySem.W.Frag}(e:u6 P w K mg base A outer s H)(C:Addr)(us:List Value)(kw:List (Str×Value)) :
  u6 P w K mg base (A.under (.builtin "type.__call__" ⟨.ref C::us,kw⟩)) outer s H:=⟨by first | exact e.frames | (simpa [Around.under,Code.envs,Code.isFrame,pushEnvs] using e.frames),e.mod,e.bs,e.DT,e.mB,e.Gm,e.bC,e.bare⟩
section
variable{s':Shared}
theorem Inv.j9(I:Inv X Kt σ H s):u6 X.prog X.w X.K X.mg X.base X.A X.stack s H :=
 ⟨I.ok.frames,I.ok.mod,I.bs,Nat.le_trans I.ok.DT I.sz,I.stack,I.qL,I.bC,I.bare⟩
theorem Inv.after{Q:VK}(I:Inv X Kt σ H s)(h:CE X.stack X.prog X.w H s Q u s'):EP X Kt σ Q u s':=by
 obtain⟨v,H',os,bare,un,bC,r,q⟩:=h
 obtain⟨hh,g,d,t,os'⟩:=s'
 obtain rfl:os'=s.os:=os
 exact⟨v,H',I.call (h':=hh) (g':=g) (d':=d) (t':=t) (ch:=[]) un bC bare (λb z=>absurd z (by simp)),r,q⟩
end
def Binds(K:PySem.W.Frag)(fd:FuncData)(ps:List Str)(ds:List Value):Prop :=
 ∀ (s:Shared) (us:List Value),K.In s.heap->(us++ds).length=ps.length->BindsTo s fd ⟨us,[]⟩ (ps.zip (us++ds))
variable{ps:List Str}{fd:FuncData}
theorem Binds.all{K:PySem.W.Frag}(h:∀ us:List Value,us.length=ps.length->bindArgs fd ⟨us,[]⟩=pure (ps.zip us)):Binds K fd ps []:=λs us _ hl=>by
 rw[List.append_nil] at hl ⊢
 exact .of_eq (h us hl)
variable{sp:Sp}{CX:Gx}
section
variable{f:Addr}{Lo:List V}{ds:List Value}{E:XK}{pos apos:Pos}{o:Expr}
structure Mk (K:PySem.W.Frag) (C f:Addr):Prop where
 makes:PySem.W.makesIn K C=true
 init:PySem.W.findIn K (.ref C) "__init__" = some (some (.ref f))
 fn:PySem.W.isFn K (.ref f)=true
 kp:PySem.W.keepIn K (.ref C)=true
end
section
variable{f:Addr}{ks:List Str}{E:XK}{pos apos kpos:Pos}{o:Expr}{kws:List Keyword}{tk:TA}{nm:Option Str}
variable{g:List Value->List Value->List Value}{gV:List V->List V->List V}
end
structure cB (N P:List Str) (sc:Scope):Prop where
 kind:sc.kind=.function
 co:sc.isCoroutine=false
 gen:sc.isGenerator=false
 nd:N.Nodup
 pre:N.take P.length=P
 par:∀ x∈P,sc.names.lookup x=some .local\/sc.names.lookup x=some .cell
 FA:∀ y∈sc.names,y.2≠.free
theorem pW{kindOf:Str->Option NameKind}{x:Str}:∀ {binds:List (Str×Value)} {m:Str->Option Value},(∀ v,(x,v) ∉ binds)->bindL kindOf binds m x=m x
 | [],_,_=>rfl
 | (n,v)::r,m,h=>by
  unfold bindL
  rw[pW λw hw=>h w (List.mem_cons_of_mem _ hw)]
  split
  ·have:x≠n:=by rintro rfl;exact h v List.mem_cons_self
   simp[this]
  ·rfl
theorem qc{kindOf:Str->Option NameKind}{x:Str}:∀ {binds:List (Str×Value)} {m:Str->Option Value},(∀ v,(x,v) ∉ binds)->bindC kindOf binds m x=m x
 | [],_,_=>rfl
 | (n,v)::r,m,h=>by
  unfold bindC
  rw[qc λw hw=>h w (List.mem_cons_of_mem _ hw)]
  split
  ·rfl
  ·have:x≠n:=by rintro rfl;exact h v List.mem_cons_self
   simp[this]
theorem pV{kindOf:Str->Option NameKind}{x:Str}{v:Value}:∀ {P:List Str} {vs:List Value} {i:Nat} {m:Str->Option Value},P.Nodup->P[i]?=some x->vs[i]?=some v->kindOf x=some .local ->
  bindL kindOf (P.zip vs) m x=some v
 | [],_,_,_,_,h,_,_=>by simp at h
 | _::_,[],_,_,_,_,h,_=>by simp at h
 | p::P,w::vs,0,m,nd,h1,h2,hk=>by
  simp at h1 h2;subst h1;subst h2
  show bindL kindOf ((p,w)::P.zip vs) m p=_
  unfold bindL
  rw[pW λv hv=>(List.nodup_cons.mp nd).1 (List.of_mem_zip hv).1,if_pos hk]
  simp
 | p::P,w::vs,i+1,m,nd,h1,h2,hk=>by
  show bindL kindOf ((p,w)::P.zip vs) m x=_
  unfold bindL
  exact pV (i:=i) (List.nodup_cons.mp nd).2 (by simpa using h1) (by simpa using h2) hk
theorem pM{kindOf:Str->Option NameKind}{x:Str}{v:Value}:∀ {P:List Str} {vs:List Value} {i:Nat} {m:Str->Option Value},P.Nodup->P[i]?=some x->vs[i]?=some v->kindOf x≠some .local ->
  bindC kindOf (P.zip vs) m x=some v
 | [],_,_,_,_,h,_,_=>by simp at h
 | _::_,[],_,_,_,_,h,_=>by simp at h
 | p::P,w::vs,0,m,nd,h1,h2,hk=>by
  simp at h1 h2;subst h1;subst h2
  show bindC kindOf ((p,w)::P.zip vs) m p=_
  unfold bindC
  rw[qc λv hv=>(List.nodup_cons.mp nd).1 (List.of_mem_zip hv).1,if_neg hk]
  simp
 | p::P,w::vs,i+1,m,nd,h1,h2,hk=>by
  show bindC kindOf ((p,w)::P.zip vs) m x=_
  unfold bindC
  exact pM (i:=i) (List.nodup_cons.mp nd).2 (by simpa using h1) (by simpa using h2) hk
def start(N:List Str)(vs:List V):St:=vs.map some++List.replicate (N.length-vs.length) none
def kQ(CX:Gx)(P:Program)(w:World)(K:PySem.W.Frag)(mg:Str->Option Value)(base:Heap)(N:List Str)(qual:Str)(scope:Scope)(f:Addr)(cd:Value)(A:Around)(outer:List Env)(s:Shared)(H:Hp)(E:XK):Cx where
 prog:=P
 w:=w
 K:=K
 mg:=mg
 base:=base
 A:=A.deeper (envOfC qual scope s.heap.objs.size f cd)
 N:=N
 s₀:=s
 H₀:=H
 env:=envOfC qual scope s.heap.objs.size f cd
 outer:=outer
 stack:=envOfC qual scope s.heap.objs.size f cd::outer
 ex:=[]
 calm:=true
 fn:=λ_=>true
 pn:=[]
 xe:=λe s'=>wpAny (model P w) (A.deeper (envOfC qual scope s.heap.objs.size f cd)) (leaving (envOfC qual scope s.heap.objs.size f cd) e) (λ_ s''=>CX outer H s E e s'') (λe' s''=>CX outer H s E e' s'') s'
theorem sH{sc:Scope}(h:sc.names.lookup x=some .cell):∃ c,(cellsFrom n sc.names []).lookup x=some c:=by
 have q:=PySem.W.cellsFrom_some sc.names n [] (.inl h)
 exact Option.isSome_iff_exists.mp q
variable{scope:Scope}
theorem yc{K:PySem.W.Frag}{qual:Str}{f:Addr}{cd:Value}{s1:Shared}{E:XK}{vs:List V}
  (S:cB N ps scope) (hd:A.handled=none) (e0:u6 P w K mg base A outer s H) (hl:vs.length=ps.length) (r:Vals vs us)
  (x:InCallC s s.heap.objs.size (bindL (envOfC qual scope s.heap.objs.size f cd).kindOf (ps.zip us) λ_=>none) (cellsFrom (s.heap.objs.size+1) scope.names []) (bindC (envOfC qual scope s.heap.objs.size f cd).kindOf (ps.zip us) λ_=>none) s1) :
  Inv (kQ CX P w K mg base N qual scope f cd A outer s H E) [] (start N vs) H s1:=by
 have K7:ps.length<=N.length:=by have:=congrArg List.length S.pre;rw[List.length_take] at this;omega
 obtain⟨h1,tk,rfl,hk⟩:=x.done
 have uw:∀ b:Addr,b ∉ (kQ CX P w K mg base N qual scope f cd A outer s H E).ex:=λb z=>absurd (show b∈([]:List Addr) from z) (by simp)
 refine⟨⟨e0.mod,S.kind,rfl,rfl,Nat.le_refl _,λy z c h1 h2=>?_,λy hy=>?_,λy c _ h=>?_,λ_=>hd,Around.frames_deeper e0.frames,.inr ⟨rfl,rfl⟩,λb z=>absurd z (uw b),e0.bs,e0.DT,λb _ _=>uw b,λb z=>absurd z (uw b),e0.mB,e0.Gm⟩,
  rfl,e0.bare,Un.kept hk,⟨_,x.toInCall.ns,λi y v h1 h2 h3=>?_⟩,λy c h=>⟨_,x.cell y c h⟩,e0.bC.fresh (Nat.le_refl _),λy c h=>?_,λp hp=>absurd (show p∈([]:List (Addr×Obj)) from hp) (by simp),e0.bC.kept hk,?_⟩
 ·exact name_of_addr x.apart (PySem.mem_of_lookup h1) (PySem.mem_of_lookup h2)
 ·have hy:scope.names.lookup y=some .cell\/scope.names.lookup y=some .free:=hy
  rcases hy with hy | hy
  ·exact sH hy
  ·exact absurd rfl (S.FA _ (PySem.mem_of_lookup hy))
 ·exact Nat.le_of_lt (x.above y c (PySem.mem_of_lookup h))
 ·have hi:i<vs.length:=by
   unfold start at h2
   by_cases hi:i<vs.length
   ·exact hi
   ·rw[List.getElem?_append_right (by simpa using hi)] at h2
    rw[List.getElem?_replicate] at h2
    split at h2 <;> cases h2
  have ha:vs[i]?=some v:=by
   unfold start at h2
   rw[List.getElem?_append_left (by simpa using hi),List.getElem?_map] at h2
   cases e:vs[i]? with
   | none=>rw[e] at h2;cases h2
   | some a=>rw[e] at h2;cases h2;rfl
  obtain⟨u,hu,rv⟩:=r.get ha
  have hp:ps[i]?=some y:=by
   rw[← S.pre,List.getElem?_take_of_lt (by omega)];exact h1
  have ndP:ps.Nodup:=by rw[← S.pre];exact S.nd.sublist (List.take_sublist _ _)
  refine⟨u,rv,?_⟩
  rcases S.par y (List.mem_of_getElem? hp) with k | k
  ·exact .inl ⟨k,pV ndP hp hu k⟩
  ·obtain⟨c,e⟩:=sH (n:=s.heap.objs.size+1) k
   refine .inr ⟨.inl k,c,e,?_⟩
   have q:=x.cell y c e
   rw[pM ndP hp hu (by show scope.names.lookup y≠_;rw[k];decide)] at q
   exact q
 ·exact e0.bC.fresh (Nat.le_of_lt (x.above y c (PySem.mem_of_lookup h)))
 ·unfold start
  show _=N.length
  rw[List.length_append,List.length_map,List.length_replicate]
  omega
theorem Hz{K:PySem.W.Frag}{f:Addr}{name qual:Str}{params:Arguments}{dV kV doc pm KY ct oc:Value}{an od:Option Addr}
  {M9:Array (Option Value)} (lk:K.lookup f=some ⟨oc,od,.func (PySem.W.fnOf name qual params body scope dV kV doc pm an KY ct),M9⟩) (LP:PySem.W.codeIn K KY qual=true) (S:cB N ps scope)
  (len:∀ vs H Q E,sp vs H Q E->vs.length=ps.length)
  (MR:∀ (A:Around) (outer:List Env) (s:Shared) (H:Hp) (vs:List V) (Q:VK) (E:XK),bZ k (A.deeper (envOfC qual scope s.heap.objs.size f KY))->sp vs H Q E ->
   ∃ t,kj (kQ CX P w K mg base N qual scope f KY A outer s H E) body t/\t { nx:=λ_ H'=>Q .cy H',rt:=Q } (start N vs) H) :
  aV P w K mg base CX (k+1) f (PySem.W.fnOf name qual params body scope dV kV doc pm an KY ct) ps sp:=by
 refine⟨len,λA outer s H args us vs Q E hr e0 hb r hsp=>?_⟩
 have hl:=len _ _ _ _ hsp
 have KX:K.In s.heap:=e0.mod.Dy.keeps λb o e=>(e0.bs b o e).1
 have lim:s.heap.NoLimit:=e0.mod.nolimit.keeps λb o e=>(e0.bs b o e).1
 have N1:∀ y∈ps.zip us,scope.names.lookup y.1=some .local\/(scope.names.lookup y.1=some .cell/\((cellsFrom (s.heap.objs.size+1) scope.names []).lookup y.1).isSome=true):=λ⟨n,v⟩ hy=>by
  rcases S.par n (List.of_mem_zip hy).1 with q | q
  ·exact .inl q
  ·exact .inr ⟨q,PySem.W.cellsFrom_some _ _ _ (.inl q)⟩
 refine codeAny_call_function hr.depth (KX _ _ lk) rfl S.co S.gen rfl (PySem.W.codeRec_of KX LP) (hb _ _ _ _ ?_)
 refine wpAny_newFunctionEnv_cells S.kind N1 λenv he s1 x=>?_
 subst he
 refine⟨lim.keeps x.toInCall.keep,codeAny_func ?_⟩
 obtain⟨t,ht,hq⟩:=MR A outer s H vs Q E (hr.deeper _) hsp
 have I:Inv (kQ CX P w K mg base N qual scope f KY A outer s H E) [] (start N vs) H s1:=yc S hr.hd e0 hl r x
 refine wpAny_mono (ht [] s1 (start N vs) H _ I hq) (λfl s' hs=>?_) λe s' hs=>hs
 have fin:∀ {σ':St} {H':Hp} {v:V} {u:Value},Inv (kQ CX P w K mg base N qual scope f KY A outer s H E) [] σ' H' s'->RelV v u->Q v H'->CE outer P w H s Q u s' :=
  λ{σ' H' v u} J rv q=>⟨v,H',J.os,J.bare,J.base,J.bC,rv,q⟩
 cases fl with
 | ret u =>
  obtain⟨v,σ',H',J,rv,q⟩:=hs
  exact fin J rv q
 | next =>
  obtain⟨σ',H',J,q⟩:=hs
  exact fin (v:=V.cy) (u:=Value.none) J rfl q
 | brk =>
  obtain⟨_,_,_,q⟩:=hs
  exact False.elim q
 | cont =>
  obtain⟨_,_,_,q⟩:=hs
  exact False.elim q
section
variable{pos:Pos}{id T:String}{r:List V->Hp->VK->Prop}
def Ii(r:List V->Hp->VK->Prop)(t:TA):TE:=fun σ H Q=>t σ H λvs H1=>r vs H1 Q
theorem kT(hc:dz X (.builtin id) r)(hg:Gl X x)(hm:X.mg x=none)(hv:bootBuiltins x=some (.builtin id))(ha:PA X (e::es) t)(hn:autoParam (x ≠ "__name__") aD._auto_1)(Lz:autoParam ((x==("__debug__" : Str))=false) aD._auto_1)
  (he:autoParam (starEach (e::es) X.env=(false,eval e X.env)::starEach es X.env) aR._auto_1) (K7:autoParam ((backTo pos (starEach es X.env)).any (·.1)=false) aR._auto_1):PE X (.Call (.Name x p) (e::es) [] pos) (Ii r t):=by
 intro Kt s σ H Q I h
 refine wpAny_Call_Name_kw (ix I hg hm hv ?_ hn Lz)
 exact PyProof.Rows.callWith_builtin1 (cJ (ha pos Kt s σ H _ I h) λus s1 ⟨vs,H1,I1,r1,q1⟩=>hc Kt s1 σ H1 vs us Q I1 r1 q1) he K7
theorem wH(hc:dz X (.type T) r)(hg:Gl X x)(hm:X.mg x=none)(hv:bootBuiltins x=some (.type T))(ha:PA X (e::es) t)(hn:autoParam (x ≠ "__name__") aD._auto_1)(Lz:autoParam ((x==("__debug__" : Str))=false) aD._auto_1)
  (he:autoParam (starEach (e::es) X.env=(false,eval e X.env)::starEach es X.env) aR._auto_1) (K7:autoParam ((backTo pos (starEach es X.env)).any (·.1)=false) aR._auto_1):PE X (.Call (.Name x p) (e::es) [] pos) (Ii r t):=by
 intro Kt s σ H Q I h
 refine wpAny_Call_Name_kw (ix I hg hm hv ?_ hn Lz)
 exact PyProof.Rows.callWith_type1 (cJ (ha pos Kt s σ H _ I h) λus s1 ⟨vs,H1,I1,r1,q1⟩=>hc Kt s1 σ H1 vs us Q I1 r1 q1) he K7
end
end L2
namespace HT
open PySem PyProof.Rows
section
open PySem.SeqAt
open PySem.AutoSeq1 (wpAny_loadPart')
open PySem.MeetsSeq PySem.MeetsSeq2 PySem.MeetsSeq3
end
variable{Q:Value->Shared->Prop}
section
variable{prog:Program}{w:World}{A:Around}{E:Value->Shared->Prop}{s:Shared}
theorem Ca{t b:Addr}{vs ws:List Value}(ht:IsTup s.heap t vs.toArray)(hb:IsTup s.heap b ws.toArray)(hv:vs≠[])
  (h1:ws=[]->Q (.ref t) s) (h2:ws≠[]->Q (.ref s.heap.objs.size) { s with heap:=s.heap.push { cls:=.type "tuple", data:=.seq (vs++ws).toArray } })
  (Mb:vs.length+ws.length<=sizeLine):wpAny (model prog w) A (binaryOp .Add (.ref t) (.ref b)) Q E s:=by
 obtain⟨⟨cls,dd,data,sl⟩,ho,hc,n,hd⟩:=id ht
 obtain⟨⟨cls2,NQ,data2,sl2⟩,ML,Nj,n2,hd2⟩:=id hb
 simp only at hc hd Nj hd2
 subst hc hd Nj hd2
 have e:vs.toArray++ws.toArray=(vs++ws).toArray:=by simp
 by_cases hw:ws=[]
 ·exact concat_meets ⟨_,ho,rfl⟩ ⟨_,ML,rfl⟩ noFill_tuple_add seq_tuple_add PySem.F.slot_tuple_add PySem.F.entry_tuple_add (PySem.F.args_tuple_add_2 _ _)
   (tuple_addW1 t b vs.toArray ws.toArray n n2 dd NQ sl sl2 (by simpa using hv) (by simp[hw])) ⟨ho,ML,h1 hw⟩
 ·refine concat_meets ⟨_,ho,rfl⟩ ⟨_,ML,rfl⟩ noFill_tuple_add seq_tuple_add PySem.F.slot_tuple_add PySem.F.entry_tuple_add (PySem.F.args_tuple_add_2 _ _)
   (tuple_addW2 t b vs.toArray ws.toArray n n2 dd NQ sl sl2 (by simpa using hv) (by simpa using hw) (by rw[List.size_toArray,List.size_toArray];exact Mb)) ⟨ho,ML,?_⟩
  rw[e]
  exact h2 hw
def de(n d:Nat):Option Int->Nat
 | none=>d
 | some v=>if v<0 then (v+(n:Int)).toNat else min v.toNat n
theorem v8(n d k:Nat):de n d (some (k:Int))=min k n:=by
 show (if (k:Int)<0 then ((k:Int)+(n:Int)).toNat else min (k:Int).toNat n)=min k n
 rw[if_neg (by omega),Int.toNat_natCast]
theorem D9(n d:Nat)(hd:d<=n)(o:Option Int):de n d o<=n:=by
 cases o with
 | none=>exact hd
 | some v =>
  show (if v<0 then (v+(n:Int)).toNat else min v.toNat n)<=n
  by_cases hv:v<0
  ·rw[if_pos hv];omega
  ·rw[if_neg hv];exact Nat.min_le_right _ _
theorem vI(v:Int)(n d:Nat):(if v<0 then max (v+(n:Int)) 0 else min v (n:Int))=((de n d (some v):Nat):Int):=by
 show (if v<0 then max (v+(n:Int)) 0 else min v (n:Int))=(((if v<0 then (v+(n:Int)).toNat else min v.toNat n):Nat):Int)
 by_cases hv:v<0
 ·simp only[if_pos hv];omega
 ·simp only[if_neg hv];omega
theorem uL(lo hi:Option Int)(n:Nat):Builtin.Slice.sliceAdjust lo hi 1 (n:Int)=(((de n 0 lo:Nat):Int),((de n n hi:Nat):Int)):=by
 have h1:¬ ((1:Int)<0):=by omega
 unfold Builtin.Slice.sliceAdjust
 simp only[h1,if_false]
 refine Prod.ext ?_ ?_
 ·cases lo with
  | none=>rfl
  | some v=>exact vI v n 0
 ·cases hi with
  | none=>rfl
  | some v=>exact vI v n n
theorem vn(i j:Nat):Builtin.Slice.slicePlaces (i:Int) (j:Int) 1=j-i:=by
 unfold Builtin.Slice.slicePlaces
 have h1:(1:Int)>0:=by omega
 simp only[h1,if_true,Int.ediv_one]
 split <;> omega
theorem nG{v:Value}{o:Option Int}{Q:Option Int->Shared->Prop}(p:IsPart v o)(h:Q o s):wpAny (model prog w) A (Builtin.Slice.slicePartIndex v) Q E s:=by
 cases p with
 | none=>exact slicePart_none h
 | int i t=>exact slicePart_int h
theorem hX{sl:Addr}{vl vu:Value}{lo hi:Option Int}{n:Nat}{Q:Int×Int×Nat->Shared->Prop}(hs:s.heap.IsSliceOf sl vl vu .none)(pl:IsPart vl lo)(pu:IsPart vu hi)
  (h:Q (((de n 0 lo:Nat):Int),1,de n n hi-de n 0 lo) s):wpAny (model prog w) A (Builtin.Slice.sliceApplied (.ref sl) (pure (n:Int))) Q E s:=by
 obtain⟨os,NB,hcs,NY⟩:=id hs
 unfold Builtin.Slice.sliceApplied Builtin.Slice.sliceFields
 refine wpAny_bind (wpAny_bind (wpAny_field NB NY (x:=vl) rfl (wpAny_bind (wpAny_field NB NY (x:=vu) rfl (wpAny_bind (wpAny_field NB NY (x:=.none) rfl (wpAny_pure ?_)))))))
 refine wpAny_bind (slicePart_none ?_)
 show wpAny _ _ (if ((1:Int)==0)=true then _ else _) _ _ s
 rw[if_neg (by decide)]
 refine wpAny_bind (nG pl (wpAny_bind (nG pu (wpAny_bind (wpAny_pure ?_)))))
 show wpAny _ _ (match Builtin.Slice.sliceAdjust lo hi 1 (n:Int) with | (lo,hi)=>pure (lo,(1:Int),Builtin.Slice.slicePlaces lo hi 1)) _ _ s
 rw[uL lo hi n]
 show wpAny _ _ (pure (((de n 0 lo:Nat):Int),(1:Int),Builtin.Slice.slicePlaces ((de n 0 lo:Nat):Int) ((de n n hi:Nat):Int) 1)) _ _ s
 rw[vn]
 exact wpAny_pure h
theorem y8(xs:Array Value)(i k:Nat):((List.range k).filterMap λ(m:Nat)=>xs[((i:Int)+(m:Int)*1).toNat]?).toArray=((xs.toList.drop i).take k).toArray:=by
 have e:(λ(m:Nat)=>xs[((i:Int)+(m:Int)*1).toNat]?)=λm=>xs[i+m]?:=by
  funext m
  have:((i:Int)+(m:Int)*1).toNat=i+m:=by omega
  rw[this]
 rw[e]
 have:=pick_run xs i k
 rw[List.filterMap_map] at this
 have e2:((λx=>xs[x]?)∘λx=>i+x)=λm=>xs[i+m]?:=rfl
 rw[e2] at this
 rw[this]
theorem kP{t sl:Addr}{items:Array Value}{vl vu:Value}{lo hi:Option Int}(ht:IsTup s.heap t items)(hs:s.heap.IsSliceOf sl vl vu .none)(pl:IsPart vl lo)(pu:IsPart vu hi)
  (hw:¬ (de items.size 0 lo=0/\de items.size items.size hi=items.size))
  (h:Q (.ref s.heap.objs.size) { s with heap:=s.heap.push { cls:=.type "tuple", data:=.seq ((items.toList.drop (de items.size 0 lo)).take (de items.size items.size hi-de items.size 0 lo)).toArray } })
  (Mb:items.size<=sizeLine):wpAny (model prog w) A (getItem (.ref t) (.ref sl)) Q E s:=by
 have MG:sizeOk (.seq ((items.toList.drop (de items.size 0 lo)).take (de items.size items.size hi-de items.size 0 lo)).toArray):=by
  show ((items.toList.drop (de items.size 0 lo)).take (de items.size items.size hi-de items.size 0 lo)).toArray.size<=sizeLine
  rw[List.size_toArray,List.length_take,List.length_drop,Array.length_toList]
  omega
 have hj:de items.size items.size hi<=items.size:=D9 _ _ (Nat.le_refl _) hi
 obtain⟨os,NB,hcs,NY⟩:=id hs
 have hTs:s.TypeIs (.ref sl) "slice" := ⟨os,NB,hcs⟩
 unfold getItem
 try with_reducible refine wpAny_holding ?_
 first | refine wpAny_bind (wpAny_pure ?_) | skip
 refine wpAny_bind (wpAny_sequenceKey ht.typeIs (by decide) ?_)
 refine wpAny_bind (wpAny_callSpecial?_slot (name:=Str.ofString "__getitem__") ht.typeIs PyProof.Rows.slot_tuple_getitem
  (wpAny_call_entry PyProof.Rows.slot_tuple_getitem ht.typeIs entry_tuple_getitem ?_ (args_tuple_getitem _ _)))
 show wpAny _ _ (Builtin.Tuple.tupleItemsOf (.ref t) >>= _) _ _ s
 refine wpAny_bind (tupleItemsOf_ ht ?_)
 refine wpAny_bind (wpAny_typeOf hTs ?_)
 rw[if_pos (by decide)]
 refine wpAny_bind (hX hs pl pu ?_)
 have hno:¬ ((((de items.size 0 lo:Nat):Int)==0&&(1:Int)==1&&(de items.size items.size hi-de items.size 0 lo)==items.size)=true):=by
  intro q
  rw[Bool.and_eq_true,Bool.and_eq_true] at q
  have q1:((de items.size 0 lo:Nat):Int)=0:=eq_of_beq q.1.1
  have q2:de items.size items.size hi-de items.size 0 lo=items.size:=eq_of_beq q.2
  exact hw ⟨by omega,by omega⟩
 show wpAny _ _ (if (((de items.size 0 lo:Nat):Int)==0&&(1:Int)==1&&(de items.size items.size hi-de items.size 0 lo)==items.size)=true then _ else _) _ _ s
 rw[if_neg hno,y8]
 first
  | exact wpAny_bind (m:=Builtin.Tuple.tupleExact _) (wpAny_newObj_type (wpAny_pure ⟨_,rfl,wpAny_pure h⟩) MG)
  | exact wpAny_bind (m:=Builtin.Tuple.tupleExact _) (wpAny_newObj_type (wpAny_bind (wpAny_pure (wpAny_pure ⟨_,rfl,wpAny_pure h⟩))) MG)
  | exact wpAny_bind (wpAny_bind (m:=Builtin.Tuple.tupleExact _) (wpAny_newObj_type (wpAny_pure (wpAny_pure ⟨_,rfl,wpAny_pure h⟩)) MG))
  | exact wpAny_bind (wpAny_bind (m:=Builtin.Tuple.tupleExact _) (wpAny_newObj_type (wpAny_pure ⟨_,rfl,wpAny_pure h⟩) MG))
end
end HT
namespace L2
open PySem PySem.Spec PyProof.Rows
abbrev TO:=St->Hp->(Option Int->Hp->Prop)->Prop
def PO(X:Cx)(e:Option Expr)(t:TO):Prop :=
 ∀ (Kt:List (Addr×Obj)) (s:Shared) (σ:St) (H:Hp) (Q:Option Int->Hp->Prop),Inv X Kt σ H s->t σ H Q ->
  wpAny (model X.prog X.w) X.A (evalPart e X.env) (λu s'=>∃ o H',Inv X Kt σ H' s'/\IsPart u o/\Q o H') X.xe s
def Hw(t:TE):TO:=fun σ H Q=>t σ H λx H1=>∃ i,x=.int i/\Q (some i) H1
theorem intsAre_of{ns:List Int}:∀ {us:List Value},Vals (ns.map V.int) us->IntsAre us ns:=by
 induction ns with
 | nil=>intro us r;rw[List.map_nil] at r;cases r;exact .nil
 | cons n ns ih =>
  intro us r
  rw[List.map_cons] at r
  cases r with
  | cons r1 r2 =>
   obtain⟨t,e⟩:=r1
   subst e
   exact .cons n t (ih r2)
variable{e:Expr}{X:Cx}
variable{r:V->Option Int->Option Int->Hp->VK->Prop}
variable{xs:List V}
section
variable{te:TE}{lo hi:Option Expr}{tl th:TO}{pos p2:Pos}
theorem CQ(h:PE X e te):PO X (some e) (Hw te):=by
 intro Kt s σ H Q I hw
 rw[evalPart_some]
 refine cJ (h Kt s σ H _ I hw) λu s1 ⟨x,H1,I1,r1,q1⟩=>?_
 obtain⟨i,rfl,q⟩:=q1
 obtain⟨t,rfl⟩:=r1
 exact⟨some i,H1,I1,.int i t,q⟩
def Bl(X:Cx)(r:V->Option Int->Option Int->Hp->VK->Prop):Prop :=
 ∀ (Kt:List (Addr×Obj)) (s:Shared) (σ:St) (H:Hp) (x:V) (v vl vu:Value) (lo hi:Option Int) (sl:Addr) (Q:VK),Inv X Kt σ H s->RelV x v->s.heap.IsSliceOf sl vl vu .none->IsPart vl lo->IsPart vu hi->r x lo hi H Q ->
  ∃ T id,typeLookup (.type T) "__getitem__" = pure (some (.builtin id))/\s.TypeIs v T/\wpAny (model X.prog X.w) X.A (getItem v (.ref sl)) (EP X Kt σ Q) X.xe s
theorem Bl.or{r':V->Option Int->Option Int->Hp->VK->Prop}(h:Bl X r)(h':Bl X r'):Bl X (λx lo hi H Q=>r x lo hi H Q\/r' x lo hi H Q):=by
 intro Kt s σ H x v vl vu lo hi sl Q I rx hs pl pu q
 rcases q with q | q
 ·exact h Kt s σ H x v vl vu lo hi sl Q I rx hs pl pu q
 ·exact h' Kt s σ H x v vl vu lo hi sl Q I rx hs pl pu q
def Km(r:V->Option Int->Option Int->Hp->VK->Prop)(te:TE)(tl th:TO):TE:=fun σ H Q=>te σ H λx H1=>tl σ H1 λl H2=>th σ H2 λu H3=>r x l u H3 Q
theorem zq(hr:Bl X r)(he:PE X e te)(hl:PO X lo tl)(hu:PO X hi th):PE X (.Subscript e (.Slice lo hi none p2) pos) (Km r te tl th):=by
 intro Kt s σ H Q I h
 refine Subscript_ (cJ (he Kt s σ H _ I h) λv s1 ⟨x,H1,I1,r1,q1⟩=>?_)
 refine wpAny_Slice (cJ (hl Kt s1 σ H1 _ I1 q1) λvl s2 ⟨l,H2,I2,pl,q2⟩=>cJ (hu Kt s2 σ H2 _ I2 q2) λvu s3 ⟨u,H3,I3,pu,q3⟩=>?_)
 rw[evalPart_none]
 refine wpAny_pure ?_
 have I4:Inv X Kt σ H3 { s3 with heap:=s3.heap.push { cls:=.type "slice", data:=.fields #[vl,vu,.none] } }:=I3.kept (t':=s3.toks) λb ob q=>Heap.get?_push_of_some _ q
 obtain⟨T,id,hT,ht,hg⟩:=hr Kt { s3 with heap:=s3.heap.push { cls:=.type "slice", data:=.fields #[vl,vu,.none] } } σ H3 x v vl vu l u s3.heap.objs.size Q I4 r1 (Heap.IsSliceOf.new ..) pl pu q3
 show wpAny (model X.prog X.w) X.A (subscriptTail e (.Slice lo hi none p2) v (.ref s3.heap.objs.size)) (EP X Kt σ Q) X.xe { s3 with heap:=s3.heap.push { cls:=.type "slice", data:=.fields #[vl,vu,.none] } }
 exact tail_any (ops:=[.ref s3.heap.objs.size,v]) ht hT hg (by with_unfolding_all rfl)
def t7(xs:List V)(lo hi:Option Int):List V:=(xs.drop (HT.de xs.length 0 lo)).take (HT.de xs.length xs.length hi-HT.de xs.length 0 lo)
theorem lX(xs:List V)(lo hi:Option Int):(t7 xs lo hi).length<=xs.length:=by
 unfold t7
 rw[List.length_take,List.length_drop]
 omega
def Jm(K:PySem.W.Frag):V->Option Int->Option Int->Hp->VK->Prop:=λx lo hi H Q=>∃ a xs,x=.ref a/\gu K H a xs ∧
 ¬ (HT.de xs.length 0 lo=0/\HT.de xs.length xs.length hi=xs.length)/\∀ p,H p=none->Q (.ref p) (upd H p (.tup (t7 xs lo hi)))
theorem En:Bl X (Jm X.K):=by
 intro Kt s σ H x v vl vu lo hi sl Q I rx hs pl pu h
 obtain⟨a,xs,rfl,hx,hw,q⟩:=h
 cases rx
 obtain⟨Kv,r,ht,hz⟩:=I.tuple hx
 have hlen:Kv.toArray.size=xs.length:=by rw[List.size_toArray];exact r.length.symm
 refine⟨"tuple", _,PyProof.Rows.slot_tuple_getitem.lookup,ht.typeIs,?_⟩
 refine HT.kP ht hs pl pu (by rw[hlen];exact hw) ?_ (by rw[hlen];exact hz)
 rw[hlen]
 refine⟨.ref s.heap.objs.size,_,I.laid (t':=s.toks) (o:=.tup (t7 xs lo hi)) (λb ob q=>Heap.get?_push_of_some _ q) (Nat.le_refl _) ?_,rfl,q _ (I.bC.fresh (Nat.le_refl _))⟩
 exact⟨Nat.le_trans (lX xs lo hi) hz,_,(r.drop (HT.de xs.length 0 lo)).take (HT.de xs.length xs.length hi-HT.de xs.length 0 lo),IsTup.new _ _⟩
def DS(K:PySem.W.Frag):R2:=λx y H Q=>∃ a b xs ys,x=.ref a/\y=.ref b/\gu K H a xs/\gu K H b ys/\xs≠[]/\xs.length+ys.length<=sizeLine ∧
 (ys=[]->Q (.ref a) H)/\(ys≠[]->∀ p,H p=none->Q (.ref p) (upd H p (.tup (xs++ys))))
theorem Vals.kM{us:List Value}(r:Vals xs us):us=[] ↔ xs=[]:=by
 cases r with
 | nil=>simp
 | cons _ _=>simp
theorem CW:gU X (binaryOp .Add) (DS X.K):=by
 intro Kt s σ H x y v u Q I rx ry h
 obtain⟨a,b,xs,ys,rfl,rfl,ha,hb,hx,hz,q1,q2⟩:=h
 cases rx
 cases ry
 obtain⟨Kv,r1,p1,_⟩:=I.tuple ha
 obtain⟨Mi,r2,p2,_⟩:=I.tuple hb
 refine HT.Ca p1 p2 (λz=>hx (r1.kM.mp z)) (λz=>⟨.ref a,H,I,rfl,q1 (r2.kM.mp z)⟩) (λz=>?_) (by rw[← r1.length,← r2.length];exact hz)
 refine⟨.ref s.heap.objs.size,_,I.laid (t':=s.toks) (o:=.tup (xs++ys)) (λb ob q=>Heap.get?_push_of_some _ q) (Nat.le_refl _) ?_,rfl,q2 (λw=>z (r2.kM.mpr w)) _ (I.bC.fresh (Nat.le_refl _))⟩
 exact⟨by rw[List.length_append];exact hz,_,r1.append r2,IsTup.new _ _⟩
end
def yp(n:Nat)(i:Int):Option Nat:=if 0<=i then (if i<n then some i.toNat else none) else if -(n:Int)<=i then some (i+n).toNat else none
variable{α:Type}
def rM(xs:List α)(i:Int):Option α:=(yp xs.length i).bind λj=>xs[j]?
variable{j n:Nat}{i:Int}
theorem wu(h:yp n i=some j):seqIndex? i n=some j/\j<n/\-(n:Int)<=i/\i<n:=by
 unfold yp at h
 by_cases h0:0<=i
 ·rw[if_pos h0] at h
  by_cases h1:i<n
  ·rw[if_pos h1] at h
   have e:i.toNat=j:=Option.some.inj h
   exact⟨by rw[seqIndex_of h0 h1,e],by omega,by omega,h1⟩
  ·rw[if_neg h1] at h;cases h
 ·rw[if_neg h0] at h
  by_cases h1:-(n:Int)<=i
  ·rw[if_pos h1] at h
   have e:(i+n).toNat=j:=Option.some.inj h
   exact⟨by rw[seqIndex_neg (by omega) h1,e],by omega,h1,by omega⟩
  ·rw[if_neg h1] at h;cases h
theorem qE{xs:List α}{v:α}(h:rM xs i=some v):∃ j,seqIndex? i xs.length=some j/\xs[j]?=some v/\j<xs.length/\-(xs.length:Int)<=i/\i<xs.length:=by
 unfold rM at h
 cases e:yp xs.length i with
 | none=>rw[e] at h;cases h
 | some j =>
  rw[e] at h
  obtain⟨h1,h2,h3,h4⟩:=wu e
  exact⟨j,h1,h,h2,h3,h4⟩
theorem rF{xs:List α}{v:α}(h:xs[j]?=some v):rM xs (j:Int)=some v:=by
 have hj:j<xs.length:=(List.getElem?_eq_some_iff.mp h).1
 have e:yp xs.length (j:Int)=some j:=by
  unfold yp
  rw[if_pos (by omega),if_pos (by omega)];simp
 unfold rM;rw[e];exact h
def qk(b:Expr):Prop:=∀ o i,subscripted b false o i=operate [o,i] (getItem o i)
def CJ(X:Cx)(r:R2):Prop :=
 ∀ (value slice:Expr) (Kt:List (Addr×Obj)) (s:Shared) (σ:St) (H:Hp) (x y:V) (v u:Value) (Q:VK),Inv X Kt σ H s->RelV x v->RelV y u->r x y H Q ->
  subscripted slice false v u=operate [v,u] (getItem v u)->wpAny (model X.prog X.w) X.A (subscriptTail value slice v u) (EP X Kt σ Q) X.xe s
def Ka(X:Cx)(id:String)(r:V->List V->Hp->VK->Prop):Prop :=
 ∀ (Kt:List (Addr×Obj)) (s:Shared) (σ:St) (H:Hp) (x:V) (xs:List V) (v:Value) (us:List Value) (Q:VK),Inv X Kt σ H s->RelV x v->Vals xs us->r x xs H Q ->
  wpAny (model X.prog X.w) X.A (call (.builtin id) (v::us)) (EP X Kt σ Q) X.xe s
variable{Kv:List Value}{s:Shared}{H:Hp}{σ:St}{Kt:List (Addr×Obj)}
section
variable{a b:Expr}{ta tb:TE}{pos:Pos}
theorem CJ.or{r r':R2}(h:CJ X r)(h':CJ X r'):CJ X (λx y H Q=>r x y H Q\/r' x y H Q):=by
 intro value slice Kt s σ H x y v u Q I rx ry q hs
 rcases q with q | q
 ·exact h value slice Kt s σ H x y v u Q I rx ry q hs
 ·exact h' value slice Kt s σ H x y v u Q I rx ry q hs
theorem DR{r:R2}(hr:CJ X r)(ha:PE X a ta)(hb:PE X b tb)(hs:qk b):PE X (.Subscript a b pos) (FH r ta tb):=by
 intro Kt s σ H Q I h
 exact Subscript_ (FG ha hb I h λv u s2 x y H2 I2 rx ry q=>hr a b Kt s2 σ H2 x y v u Q I2 rx ry q (hs _ _))
def Hu(K:PySem.W.Frag):R2:=λx y H Q=>∃ p xs i v,x=.ref p/\y=.int i/\f9 K H p xs/\rM xs i=some v/\Q v H
def H0(K:PySem.W.Frag):R2:=λx y H Q=>∃ p xs i v,x=.ref p/\y=.int i/\gu K H p xs/\rM xs i=some v/\Q v H
def HK:R2:=λx y H Q=>∃ z i c,x=.str z/\y=.int i/\z.length<=sizeLine/\rM z.cps.toList i=some c/\Q (.str ⟨#[c]⟩) H
theorem Bv:CJ X (Hu X.K):=by
 intro value slice Kt s σ H x y v u Q I rx ry h hs
 obtain⟨p,xs,i,z,rfl,rfl,hq,he,q⟩:=h
 cases rx
 obtain⟨t,rfl⟩:=ry
 obtain⟨Kv,r,pl,hz⟩:=I.list hq
 obtain⟨j,h1,h2,h3,h4,h5⟩:=qE he
 obtain⟨w,ew,Ml⟩:=r.get h2
 have hl:=r.length
 have hn:=lA
 have fin:EP X Kt σ Q w s:=⟨z,H,I,Ml,q⟩
 by_cases h0:0<=i
 ·have hj:i.toNat=j:=by
   rw[seqIndex_of h0 h5] at h1
   exact Option.some.inj h1
  exact item_listR pl.isList h0 (by omega) (by rw[hj];simpa using ew) fin hs
 ·have hj:(i+(Kv.toArray.size:Int)).toNat=j:=by
   rw[seqIndex_neg (by omega) h4] at h1
   rw[List.size_toArray,← hl]
   exact Option.some.inj h1
  exact subscriptTail_builtinR (x:=w) pl.isList.typeIs slot_list_getitem.lookup
   (wpAny_getItem_list_neg (Q:=λr s'=>r=w/\EP X Kt σ Q r s') pl.isList (by omega) (by rw[List.size_toArray] <;> omega) (by omega) (by rw[hj];simpa using ew) ⟨rfl,fin⟩) hs
theorem FR:CJ X (H0 X.K):=by
 intro value slice Kt s σ H x y v u Q I rx ry h hs
 obtain⟨p,xs,i,z,rfl,rfl,hq,he,q⟩:=h
 cases rx
 obtain⟨t,rfl⟩:=ry
 obtain⟨Kv,r,pl,hz⟩:=I.tuple hq
 obtain⟨j,h1,h2,h3,h4,h5⟩:=qE he
 obtain⟨w,ew,Ml⟩:=r.get h2
 have hl:=r.length
 have hn:=lA
 have fin:EP X Kt σ Q w s:=⟨z,H,I,Ml,q⟩
 exact subscriptTail_builtinR (x:=w) pl.typeIs slot_tuple_getitem.lookup
  (getItem_tuple (j:=j) (Q:=λr s'=>r=w/\EP X Kt σ Q r s') pl (by omega) (by omega) (by rw[List.size_toArray,← hl];exact h1) (by simpa using ew) ⟨rfl,fin⟩) hs
theorem E9:CJ X HK:=by
 intro value slice Kt s σ H x y v u Q I rx ry h hs
 obtain⟨z,i,c,rfl,rfl,hz,he,q⟩:=h
 obtain⟨t,rfl⟩:=rx
 obtain⟨t',rfl⟩:=ry
 obtain⟨j,h1,h2,h3,h4,h5⟩:=qE he
 have hl:z.cps.toList.length=z.length:=by simp[Str.length]
 rw[hl] at h1 h4 h5
 have hn:=lA
 exact tail_any (typeIs_str s z t) slot_str_getitem.lookup (getItem_str (c:=c) (by
  have e1:decide (i < -(2^63:Int))=false:=decide_eq_false (by omega)
  have e2:decide (i>=2^63)=false:=decide_eq_false (by omega)
  rw[e1,e2,Bool.or_false]) (by rw[h1];simpa using h2) ⟨.str ⟨#[c]⟩,H,I.tok _,⟨_,rfl⟩,q⟩) hs
def Jr(K:PySem.W.Frag):R2:=λx y H Q=>Hu K x y H Q\/H0 K x y H Q\/HK x y H Q
theorem zE:CJ X (Jr X.K):=Bv.or (FR.or E9)
theorem uY(Kv:List Value)(n j:Nat)(u:Value):Obj.mapSeq (·.setIfInBounds j u) { cls:=.type "list", data:=.seq Kv.toArray n }={ cls:=.type "list", data:=.seq (Kv.set j u).toArray n }:=by
 simp[Obj.mapSeq]
theorem Inv.lst{Kt:List (Addr×Obj)}{σ:St}{H:Hp}{s:Shared}{p:Addr}{xs:List V}(I:Inv X Kt σ H s)(h:H p=some (.lst xs)) :
  ∃ (Kv:List Value) (n:Nat),Vals xs Kv/\s.heap.get? p=some { cls:=.type "list", data:=.seq Kv.toArray n }/\xs.length<=sizeLine:=by
 obtain⟨z,Kv,n,r,e⟩:=I.bC p _ h
 exact⟨Kv,n,r,e,z⟩
theorem Inv.F3{p:Addr}{ys:List V}{its':List Value}{n':Nat}{f:Obj->Obj}(I:Inv X Kt σ H s)(h:H p=some (.lst xs))
  (ho:s.heap.get? p=some { cls:=.type "list", data:=.seq Kv.toArray n }) (hf:f { cls:=.type "list", data:=.seq Kv.toArray n }={ cls:=.type "list", data:=.seq its'.toArray n' }) (r:Vals ys its') (hz:ys.length<=sizeLine) (t:Nat) :
  Inv X Kt σ (upd H p (.lst ys)) { s with heap:=s.heap.update p f,toks:=t }:=by
 have e:(s.heap.update p f).get? p=some { cls:=.type "list", data:=.seq its'.toArray n' }:=by
  rw[Heap.get?_update_self f ho (by rw[hf] <;> rfl),hf]
 refine I.write (x:=p) (e:=p) (by rw[h];trivial) (.inl rfl) (λb u hb q=>(Heap.get?_update_other _ _ (Ne.symm hb)).trans q) ⟨_,e⟩ ?_
 exact⟨hz,its',n',r,e⟩
def G3:V->V->V->Hp->(Hp->Prop)->Prop:=λo i v H Q=>∃ p xs k j,o=.ref p/\i=.int k/\H p=some (.lst xs)/\yp xs.length k=some j/\Q (upd H p (.lst (xs.set j v)))
theorem set_list:HQ X G3:=by
 intro Kt s σ H o i v ov iv u Q I ro ri rv h
 obtain⟨p,xs,k,j,rfl,rfl,hp,hj,q⟩:=h
 cases ro
 obtain⟨t,rfl⟩:=ri
 obtain⟨Kv,n,r,ho,hz⟩:=I.lst hp
 obtain⟨h1,h2,h3,h4⟩:=wu hj
 have hl:=r.length
 have hn:=lA
 have I':Inv X Kt σ (upd H p (.lst (xs.set j v))) { s with heap:=s.heap.update p (Obj.mapSeq (·.setIfInBounds j u)) } :=
  I.F3 hp ho (uY Kv n j u) (r.set rv j) (by rw[List.length_set];exact hz) s.toks
 by_cases h0:0<=k
 ·have hk:k.toNat=j:=by
   rw[seqIndex_of h0 h4] at h1
   exact Option.some.inj h1
  exact PySem.W.ki_setAt ho h0 (by omega) (by rw[List.size_toArray,← hl];exact h4) (by rw[hk];exact⟨_,I',q⟩)
 ·have hk:(k+(Kv.toArray.size:Int)).toNat=j:=by
   rw[seqIndex_neg (by omega) h3] at h1
   rw[List.size_toArray,← hl]
   exact Option.some.inj h1
  exact PySem.W.ki_setBack ho (by omega) (by rw[List.size_toArray,← hl];exact h3) (by omega) (by rw[hk];exact⟨_,I',q⟩)
theorem qr(lo hi:Option Int)(n:Nat):(sliceBounds lo hi none n).1=((HT.de n 0 lo:Nat):Int)/\(sliceBounds lo hi none n).2.1=((HT.de n n hi:Nat):Int)/\(sliceBounds lo hi none n).2.2=1:=by
 refine⟨?_,?_,rfl⟩
 ·cases lo with
  | none=>simp[sliceBounds,HT.de]
  | some i =>
   simp only[sliceBounds,HT.de,Option.getD_none,show (1:Int)>0 by decide,if_true]
   by_cases h:i<0
   ·simp only[h,if_true] <;> omega
   ·simp only[h,if_false] <;> omega
 ·cases hi with
  | none=>simp[sliceBounds,HT.de]
  | some i =>
   simp only[sliceBounds,HT.de,Option.getD_none,show (1:Int)>0 by decide,if_true]
   by_cases h:i<0
   ·simp only[h,if_true] <;> omega
   ·simp only[h,if_false] <;> omega
theorem ph(Kv:List Value)(lo hi:Option Int):slicePick Kv.toArray lo hi none=((Kv.drop (HT.de Kv.length 0 lo)).take (HT.de Kv.length Kv.length hi-HT.de Kv.length 0 lo)).toArray:=by
 obtain⟨h1,h2,h3⟩:=qr lo hi Kv.toArray.size
 unfold slicePick
 rw[h1,h2,h3]
 simp only[sliceRange_one,pick_run,List.size_toArray] <;> rfl
def JG(K:PySem.W.Frag):V->Option Int->Option Int->Hp->VK->Prop:=λx lo hi H Q=>∃ a xs,x=.ref a/\f9 K H a xs/\∀ p,H p=none->Q (.ref p) (upd H p (.lst (t7 xs lo hi)))
theorem CA:Bl X (JG X.K):=by
 intro Kt s σ H x v vl vu lo hi sl Q I rx hs pl pu h
 obtain⟨a,xs,rfl,hx,q⟩:=h
 cases rx
 obtain⟨Kv,r,ht,hz⟩:=I.list hx
 have hlen:=r.length
 refine⟨"list", _,slot_list_getitem.lookup,ht.isList.typeIs,?_⟩
 refine wpAny_getItem_list_slice ht.isList hs pl pu .none (by simp) ?_ (by rw[List.size_toArray] <;> omega)
 rw[ph,← hlen]
 refine⟨.ref s.heap.objs.size,_,I.laid (t':=s.toks) (o:=.lst (t7 xs lo hi)) (λb ob q=>Heap.get?_push_of_some _ q) (Nat.le_refl _) ?_,rfl,q _ (I.bC.fresh (Nat.le_refl _))⟩
 exact⟨Nat.le_trans (lX xs lo hi) hz,_,0,(r.drop (HT.de xs.length 0 lo)).take (HT.de xs.length xs.length hi-HT.de xs.length 0 lo),Heap.get?_push_size _ rfl⟩
theorem qD:dz X (.builtin "len") (λxs H Q=>∃ p ys,xs=[.ref p]/\(f9 X.K H p ys\/gu X.K H p ys)/\Q (.int ys.length) H):=by
 intro Kt s σ H xs us Q I r h
 obtain⟨p,ys,rfl,hq,q⟩:=h
 obtain⟨u,rfl,rx⟩:=vals1 r
 cases rx
 have hn:=lA
 rcases hq with hq | hq
 ·obtain⟨Kv,r',pl,hz⟩:=I.list hq
  have hlen:=r'.length
  exact Calls.call_len_list pl.isList (by simp only[List.size_toArray] <;> omega) ⟨.int ys.length,H,I.tok _,⟨s.toks+1,by rw[List.size_toArray,hlen]⟩,q⟩
 ·obtain⟨Kv,r',pl,hz⟩:=I.tuple hq
  have hlen:=r'.length
  exact len_tuple pl (by simp only[List.size_toArray] <;> omega) ⟨.int ys.length,H,I.tok _,⟨s.toks+1,by rw[List.size_toArray,hlen]⟩,q⟩
theorem qJ:dz X (.builtin "len") (λxs H Q=>∃ z,xs=[.str z]/\z.length<=sizeLine/\Q (.int z.length) H):=by
 intro Kt s σ H xs us Q I r h
 obtain⟨z,rfl,hz,q⟩:=h
 obtain⟨u,rfl,t,rfl⟩:=vals1 r
 have hn:=lA
 exact len_str (by omega) ⟨.int z.length,H,I.tok _,⟨_,rfl⟩,q⟩
theorem dz.or{f:Value}{r r':List V->Hp->VK->Prop}(h:dz X f r)(h':dz X f r'):dz X f (λxs H Q=>r xs H Q\/r' xs H Q):=by
 intro Kt s σ H xs us Q I rs q
 rcases q with q | q
 ·exact h Kt s σ H xs us Q I rs q
 ·exact h' Kt s σ H xs us Q I rs q
theorem rn:dz X (.type "list") (λxs H Q=>∃ p ys,xs=[.ref p]/\(f9 X.K H p ys\/gu X.K H p ys)/\∀ l,H l=none->Q (.ref l) (upd H l (.lst ys))):=by
 intro Kt s σ H xs us Q I r h
 obtain⟨p,ys,rfl,hq,q⟩:=h
 obtain⟨u,rfl,rx⟩:=vals1 r
 cases rx
 have fin:∀ (Kv:List Value),Vals ys Kv->ys.length<=sizeLine->∀ (h':Heap) (c':Nat),(∀ b o',s.heap.get? b=some o'->h'.get? b=some o') ->
   h'.get? s.heap.objs.size=some { cls:=.type "list", dict:=none,data:=.seq Kv.toArray c',slots:=#[] }->EP X Kt σ Q (.ref s.heap.objs.size) { s with heap:=h' }:=λKv r' hz h' c' kp e =>
  ⟨.ref s.heap.objs.size,_,I.laid (t':=s.toks) kp (Nat.le_refl _) (show bV X.prog X.w _ h' _ (.lst ys) from ⟨hz,Kv,c',r',e⟩),rfl,q _ (I.bC.fresh (Nat.le_refl _))⟩
 rcases hq with hq | hq
 ·obtain⟨Kv,r',pl,hz⟩:=I.list hq
  have hlen:=r'.length
  obtain⟨o,ho,hc,n,hd⟩:=pl.isList
  exact call_list_seq p (.inl rfl) ho hc hd (λh' c' kp e=>fin Kv r' hz h' c' kp e) (by simp only[List.size_toArray] <;> omega)
 ·obtain⟨Kv,r',pl,hz⟩:=I.tuple hq
  have hlen:=r'.length
  obtain⟨o,ho,hc,n,hd⟩:=pl
  exact call_list_seq p (.inr rfl) ho hc hd (λh' c' kp e=>fin Kv r' hz h' c' kp e) (by simp only[List.size_toArray] <;> omega)
theorem pv:dz X (.type "tuple") (λxs H Q=>∃ p ys,xs=[.ref p]/\((f9 X.K H p ys/\∀ l,H l=none->Q (.ref l) (upd H l (.tup ys)))\/(gu X.K H p ys/\Q (.ref p) H))):=by
 intro Kt s σ H xs us Q I r h
 obtain⟨p,ys,rfl,h⟩:=h
 obtain⟨u,rfl,rx⟩:=vals1 r
 cases rx
 rcases h with ⟨hq,q⟩ | ⟨hq,q⟩
 ·obtain⟨Kv,r',pl,hz⟩:=I.list hq
  have hlen:=r'.length
  refine call_tuple_list pl.isList (λh' kp=>?_) (by simp only[List.size_toArray] <;> omega)
  have I1:Inv X Kt σ H { s with heap:=h' }:=I.kept (t':=s.toks) kp
  have I2:Inv X Kt σ (upd H h'.objs.size (.tup ys)) { s with heap:=h'.push { cls:=.type "tuple", data:=.seq Kv.toArray } } :=
   I1.laid (t':=s.toks) (λb o e=>Heap.get?_push_of_some _ e) (Nat.le_refl _) (show bV X.prog X.w _ _ _ (.tup ys) from ⟨hz,Kv,r',IsTup.new _ _⟩)
  exact⟨.ref h'.objs.size,_,I2,rfl,q _ (I1.bC.fresh (Nat.le_refl _))⟩
 ·obtain⟨Kv,r',pl,hz⟩:=I.tuple hq
  exact call_tuple_same pl ⟨.ref p,H,I,rfl,q⟩
def JY(K:PySem.W.Frag)(T:String)(x:V)(H:Hp):Prop:=match x with
 | .str _=>T = "str"
 | .int _=>T = "int"
 | .ref p=>(T = "list" /\ ∃ xs,f9 K H p xs)\/(T = "tuple" /\ ∃ o,K.lookup p=some o/\o.cls=.type "tuple" /\ o.dict=none) ∨
   (T = "dict" /\ ((∃ Lu,H p=some (.dK Lu))\/∃ Lu,H p=some (.dT Lu)))\/(T = "set" /\ ∃ S n,H p=some (.set S n))
 | _=>False
theorem EG{T:String}{x:V}{v:Value}(I:Inv X Kt σ H s)(r:RelV x v)(ty:JY X.K T x H) :
  s.TypeIs v T/\∀ a,v=.ref a->∃ ob,s.heap.get? a=some ob/\ob.dict=none:=by
 cases x with
 | str z =>
  obtain⟨t,rfl⟩:=r
  cases (show T = "str" from ty)
  exact⟨typeIs_str s z t,λ_ e=>nomatch e⟩
 | int i =>
  obtain⟨t,rfl⟩:=r
  cases (show T = "int" from ty)
  exact⟨typeIs_int s i t,λ_ e=>nomatch e⟩
 | ref p =>
  cases r
  rcases ty with ⟨rfl,xs,hq⟩ | ⟨rfl,o,hk,hc,hd⟩ | ⟨rfl,hk⟩ | ⟨rfl,S,n,hk⟩
  ·obtain⟨Kv,_,pl,_⟩:=I.list hq
   refine⟨pl.isList.typeIs,λa e=>?_⟩
   cases e
   obtain⟨o,n,e,c,hd,_⟩:=pl
   exact⟨o,e,hd⟩
  ·refine⟨⟨o,I.ja p o hk,hc⟩,λa e=>?_⟩
   cases e
   exact⟨o,I.ja _ o hk,hd⟩
  ·have z:∃ o,s.heap.get? p=some o/\o.ExactDict:=by
    rcases hk with ⟨Lu,hk⟩ | ⟨Lu,hk⟩
    ·obtain⟨_,_,_,_,o,_,_,e,ex,_⟩:=I.bC p _ hk
     exact⟨o,e,ex⟩
    ·obtain⟨_,_,_,_,o,_,_,e,ex,_⟩:=I.bC p _ hk
     exact⟨o,e,ex⟩
   obtain⟨o,e,ex⟩:=z
   refine⟨⟨o,e,ex.1⟩,λa e2=>?_⟩
   cases e2
   exact⟨o,e,ex.2.1⟩
  ·obtain⟨o,_,_,_,e,ex,_⟩:=I.bC p _ hk
   refine⟨⟨o,e,ex.1⟩,λa e2=>?_⟩
   cases e2
   exact⟨o,e,ex.2.1⟩
 | _=>exact False.elim ty
def J1(K:PySem.W.Frag)(T:String)(r:V->List V->Hp->VK->Prop)(to:TE)(t:TA):TE:=fun σ H Q=>to σ H λx H1=>JY K T x H1/\t σ H1 λxs H2=>r x xs H2 Q
variable{o:Expr}{es:List Expr}{to:TE}{t:TA}{name:Str}{apos K2:Pos}{T id:String}{r:V->List V->Hp->VK->Prop}
theorem DF(pa:PlainAttrs T)(slot:Slot T name id)(hty:typeOf (.builtin id)=pure (.type "method_descriptor"))(hm:Ka X id r)(ho:PE X o to)(ha:PA X (e::es) t)
  (MQ:autoParam (attributeBase o name X.env (eval o X.env)=eval o X.env) aR._auto_1)
  (Nx:autoParam (((backTo K2 (starEach (e::es) X.env)).all (λx=>!x.1)&&(backToKw K2 (keywordEach [] X.env)).all (λx=>x.1.isSome)
   && decide ((e::es).length+([]:List Keyword).length+(if ([]:List Keyword).isEmpty then 0 else 1)<30))=true) aR._auto_1)
  (MX:autoParam ((apos.endLine==K2.line)=true) aR._auto_1) (hs:autoParam (starEach (e::es) X.env=(false,eval e X.env)::starEach es X.env) aR._auto_1) (Mu:autoParam ((backTo K2 (starEach es X.env)).any (·.1)=false) aR._auto_1) :
  PE X (.Call (.Attribute o name apos) (e::es) [] K2) (J1 X.K T r to t):=by
 intro Kt s σ H Q I h
 refine wpAny_Call_method_late MQ Nx MX rfl (cJ (ho Kt s σ H _ I h) λv s1 ⟨x,H1,I1,r1,ty,q1⟩=>?_)
 obtain⟨h1,h2⟩:=EG I1 r1 ty
 refine⟨T,id,pa,slot,hty,h1,h2,?_⟩
 have hA:=ha K2 Kt s1 σ H1 _ I1 q1
 rw[hs] at hA ⊢
 refine Calls.callWith_builtin (by show (false||(backTo K2 (starEach es X.env)).any (·.1))=false;rw[Mu] <;> rfl) (Calls.evalArgs_plain ?_)
 exact cJ hA λus s2 ⟨vs,H2,I2,r2,q2⟩=>hm Kt s2 σ H2 x vs v us Q I2 r1 r2 q2
end
def Kr(X:Cx)(id:String)(r:V->List V->Hp->VK->Prop):Prop :=
 ∀ (Kt:List (Addr×Obj)) (s:Shared) (σ:St) (H:Hp) (x:V) (xs:List V) (v:Value) (us:List Value) (Q:VK),Inv X Kt σ H s->RelV x v->Vals xs us->r x xs H Q ->
  wpAny (model X.prog X.w) X.A (call (.builtin id) (v::us)) (EP X Kt σ Q) X.xe s
theorem Vals.one:∀ {x:V} {us:List Value},Vals [x] us->∃ u,us=[u]/\RelV x u
 | _,_,.cons r .nil=>⟨_,rfl,r⟩
theorem Vals.rep{xs:List V}{us:List Value}(h:Vals xs us):∀ k:Nat,Vals (List.replicate k xs).flatten (List.replicate k us).flatten
 | 0=>.nil
 | k+1=>by
  rw[List.replicate_succ,List.replicate_succ,List.flatten_cons,List.flatten_cons]
  exact Vals.append h (Vals.rep h k)
theorem foldl_rep(Kv:List Value):∀ (k:Nat) (acc:List Value),
  List.foldl (λx1 x2=>x1++x2) acc.toArray (List.replicate k Kv.toArray)=(acc++(List.replicate k Kv).flatten).toArray
 | 0,acc=>by simp
 | k+1,acc=>by
  have e:acc.toArray++Kv.toArray=(acc++Kv).toArray:=by simp
  have e2:(acc++Kv)++(List.replicate k Kv).flatten=acc++(List.replicate (k+1) Kv).flatten:=by
   rw[List.replicate_succ,List.flatten_cons,List.append_assoc]
  rw[← e2,← foldl_rep Kv k (acc++Kv),← e,List.replicate_succ,List.foldl_cons]
variable{t':Nat}
section
variable{l b:Addr}{ys zs:List V}
theorem Inv.Jl{its':List Value}{f:Array Value->Array Value}(I:Inv X Kt σ H s)(hH:H l=some (.lst xs))
  (e:s.heap.get? l=some { cls:=.type "list", data:=.seq Kv.toArray n }) (hf:f Kv.toArray=its'.toArray) (hv:Vals ys its') (hz:ys.length<=sizeLine) :
  Inv X Kt σ (upd H l (.lst ys)) { s with heap:=s.heap.update l (Obj.mapSeq f),toks:=t' }:=by
 have q:=PySem.IsL.update e f
 rw[hf] at q
 refine I.write (x:=l) (e:=l) (by rw[hH];exact trivial) (.inl rfl) (λb' u hb hu=>(Heap.get?_update_other s.heap (Obj.mapSeq f) (Ne.symm hb)).trans hu) ⟨_,q⟩ ?_
 exact⟨hz,its',_,hv,q⟩
theorem Inv.Hk(I:Inv X Kt σ H s)(hv:Vals ys Kv)(hz:ys.length<=sizeLine) :
  Inv X Kt σ (upd H s.heap.objs.size (.lst ys)) { s with heap:=s.heap.push { cls:=.type "list", data:=.seq Kv.toArray },toks:=t' } :=
 I.laid (λ_ _ q=>Heap.get?_push_of_some _ q) (Nat.le_refl _) ⟨hz,Kv,0,hv,Heap.get?_push_size _ rfl⟩
theorem Inv.fresh(I:Inv X Kt σ H s):H s.heap.objs.size=none:=I.bC.fresh (Nat.le_refl _)
theorem Inv.Co(I:Inv X Kt σ H s)(hH:H l=some (.lst xs)):xs.length<=sizeLine/\∃ (Kv:List Value) (n:Nat),Vals xs Kv/\xs.length=Kv.length/\s.heap.get? l=some { cls:=.type "list", data:=.seq Kv.toArray n }:=by
 obtain⟨z,Kv,n,r,e⟩:=I.bC l _ hH
 exact⟨z,Kv,n,r,r.length,e⟩
theorem zd(h:n<=sizeLine):Builtin.List.listTooLong n=false:=by
 unfold Builtin.List.listTooLong
 exact decide_eq_false (by omega)
end
def vG:V->List V->Hp->VK->Prop:=λx vs H Q=>∃ l xs y,x=.ref l/\vs=[y]/\H l=some (.lst xs)/\xs.length<sizeLine/\Q .cy (upd H l (.lst (xs++[y])))
theorem k4:Kr X "list.append" vG:=by
 intro Kt s σ H x vs v us Q I rx rv h
 obtain⟨l,xs,y,rfl,rfl,hH,hz,q⟩:=h
 cases rx
 obtain⟨u,rfl,ru⟩:=rv.one
 obtain⟨z,Kv,n,r,hl,e⟩:=I.Co hH
 refine call_meets F.slot_list_append ⟨_,e,rfl⟩ F.entry_list_append (F.args_list_append_2 _ _) (PySem.list_append l Kv.toArray n u (by rw[List.size_toArray];omega)) ⟨e,?_⟩
 refine⟨.cy,_,I.Jl (its':=Kv++[u]) hH e (by simp) (r.append (.cons ru .nil)) ?_,rfl,q⟩
 rw[List.length_append,List.length_singleton]
 omega
def Hm:R2:=λx y H Q=>∃ l b xs zs,x=.ref l/\y=.ref b/\H l=some (.lst xs)/\H b=some (.lst zs)/\xs.length+zs.length<=sizeLine/\∀ p,H p=none->Q (.ref p) (upd H p (.lst (xs++zs)))
theorem E5:gU X (binaryOp .Add) Hm:=by
 intro Kt s σ H x y v u Q I rx ry h
 obtain⟨l,b,xs,zs,rfl,rfl,hH,hB,hz,q⟩:=h
 cases rx
 cases ry
 obtain⟨z,Kv,n,r,hl,e⟩:=I.Co hH
 obtain⟨z2,Mi,n2,r2,LW,e2⟩:=I.Co hB
 refine PySem.P.add_list e e2 ?_ (by rw[List.size_toArray,List.size_toArray];omega)
 have ea:Kv.toArray++Mi.toArray=(Kv++Mi).toArray:=by simp
 rw[ea]
 exact⟨.ref _,_,I.Hk (t':=s.toks) (r.append r2) (by rw[List.length_append];omega),rfl,q _ I.fresh⟩
def Hv:R2:=λx y H Q=>∃ l k xs,x=.ref l/\y=.int k/\H l=some (.lst xs)/\-(2^63)<=k/\k<2^63/\xs.length*k.toNat<=sizeLine ∧
 ∀ p,H p=none->Q (.ref p) (upd H p (.lst (List.replicate k.toNat xs).flatten))
theorem len_rep(xs:List α)(k:Nat):(List.replicate k xs).flatten.length=k*xs.length:=by
 induction k with
 | zero=>simp
 | succ k ih=>rw[List.replicate_succ,List.flatten_cons,List.length_append,ih,Nat.succ_mul,Nat.add_comm]
theorem y0:gU X (binaryOp .Mult) Hv:=by
 intro Kt s σ H x y v u Q I rx ry h
 obtain⟨l,k,xs,rfl,rfl,hH,h1,h2,hz,q⟩:=h
 cases rx
 obtain⟨t,rfl⟩:=ry
 obtain⟨z,Kv,n,r,hl,e⟩:=I.Co hH
 have hlen:Kv.toArray.size*k.toNat<=sizeLine:=by rw[List.size_toArray,← hl];exact hz
 have hcap:¬ Kv.toArray.size*k.toNat>(2^63-1)/8:=by
  have:(sizeLine:Nat)<=(2^63-1)/8:=by decide
  omega
 have hfit:¬ (!Builtin.List.listFitsIndex k)=true:=by
  rw[fitsIndex_both h1 h2]
  exact Bool.false_ne_true
 have N2:¬ Builtin.List.listTooLong (Kv.toArray.size*k.toNat)=true:=by
  rw[zd hlen]
  exact Bool.false_ne_true
 have LX:List.foldl (λx1 x2=>x1++x2) #[] (List.replicate (if Kv.toArray.isEmpty=true then 0 else k.toNat) Kv.toArray)=(List.replicate k.toNat Kv).flatten.toArray:=by
  have f0:∀ m:Nat,List.foldl (λx1 x2=>x1++x2) #[] (List.replicate m Kv.toArray)=(List.replicate m Kv).flatten.toArray:=λm=>by
   have:=foldl_rep Kv m []
   rw[List.nil_append] at this
   exact this
  rw[f0]
  cases Kv with
  | nil=>simp
  | cons a r'=>rw[if_neg (by simp)]
 refine wpAny_binaryOp_repeat_ref (T := "list") (U := "int") (by decide) ⟨_,e,rfl⟩ (λs'=>typeIs_int s' k t) noFill_list_mul F.fills_int_mul F.slot_int_rmul repeat_list F.slot_int_index.lookup
  (call_meets F.slot_int_rmul (typeIs_int s k t) F.entry_int_rmul (F.args_int_rmul_2 _ _) (int___rmul___int_list k t l Kv.toArray n)
   ⟨e,rfl,⟨_,e,rfl⟩,call_meets F.slot_list_mul ⟨_,e,rfl⟩ F.entry_list_mul (F.args_list_mul_2 _ _) (AutoListH.list___mul___list_int_3 l Kv.toArray n k t hfit hcap N2) ⟨e,?_⟩⟩)
 rw[LX]
 exact⟨.ref _,_,I.Hk (t':=s.toks) (r.rep k.toNat) (by rw[len_rep,Nat.mul_comm];exact hz),rfl,q _ I.fresh⟩
variable{E:Value->Shared->Prop}{A:Around}{w:World}
section
variable{prog:Program}
end
section
variable{κ:Type}[DecidableEq κ]
end
variable{a:Addr}
section
variable{P:Program}{h:Heap}
end
variable{o:Option V}{u:Value}
section
variable{y v:V}{r:Value}
end
variable{Lu:List (Key×V)}
section
variable{k:Key}
end
section
variable{o i value:Expr}{pos pos' tpos:Pos}{td ty tv:TE}
end
section
variable{pos:Pos}
end
section
variable{y d:V}{r:Value}
end
section
variable{o f:Expr}{apos K2:Pos}{td ty tx:TE}
end
section
variable{y:V}
end
end L2
namespace Att
open PySem PySem.W PySem.Calls PyProof.Rows
variable{h:Heap}{P:Params}
theorem mw:∀ (ns:List Int) (vs:List Value),WellAll P h vs (ns.map WData.int)->IntsAre vs ns:=by
 intro ns
 induction ns with
 | nil =>
  intro vs w
  rw[List.map_nil] at w
  cases w
  exact .nil
 | cons n ns ih =>
  intro vs w
  rw[List.map_cons] at w
  cases w with
  | cons a b =>
   cases a
   exact .cons _ _ (ih _ b)
theorem ya{l:OpenLaw}{n:Nat}(hn:l.most=some n){args:List WData}{vals:List Value}
  (xv:l.row.toRowW.claim.pre args=true) (hwl:WellAll P h vals args) :
  ∃ a vs ns,vals=[Value.ref a]/\args=[WData.list (ns.map WData.int)]/\h.get? a=some { cls:=.type "list", data:=.seq vs.toArray }/\IntsAre vs ns/\ns.length<=n:=by
 have hsh:WShape.hasAll [] args [.list .int]=true:=(pre_splitW xv).1
 have hc:l.pre.holds [] { args:=args }=true:=(pre_splitW xv).2
 obtain⟨d,r,rfl,h1,h2⟩:=hasAllW_cons hsh
 obtain rfl:=hasAllW_nil h2
 obtain⟨xs,rfl,h3⟩:=hasW_list h1
 obtain⟨ns,rfl⟩:=items_int h3
 have hlen:ns.length<=n:=by
  unfold OpenLaw.pre at hc
  have h4:(WTm.not (.lt (.lit (.int (n:Int))) (.len (.arg 0)))).holds [] { args:=[.list (ns.map .int)] }=true:=by
   have h4:=(holds_andW hc).1
   rw[hn] at h4
   exact h4
  have h5:=condW_of h4 (w_not (w_lt w_lit (w_len_list (w_arg rfl))))
  rw[List.length_map] at h5
  refine Nat.le_of_not_lt λq=>?_
  have q':(n:Int)<((ns.length:Nat):Int):=by omega
  first
   | (rw[decide_eq_true q'] at h5;exact absurd h5 (by decide))
   | (simp at h5;omega)
 cases hwl with
 | cons w1 w2 =>
  cases w2
  cases w1 with
  | list ho hall=>exact⟨_,_,ns,rfl,rfl,ho,mw ns _ hall,hlen⟩
theorem yb(l:OpenLaw)(args:List WData):l.row.toRowW.claim.post args (.bool true) args=true :=
 postW_of (r:=l.row.toRowW) (X:=(true==true))
  (show WShape.has [] (.bool true) .bool=true by first | rfl | decide | simp[WShape.has,WShape.arms,WShape.armsAll])
  (show (WTm.eq .res (.lit (.bool true))).value [] { args:=args,res:=some (.bool true),after:=args }=some (.bool (true==true)) from w_eq_bool (w_res rfl) w_lit) rfl
section
variable{prog:Program}{w:World}{A:Around}{E:Value->Shared->Prop}{s:Shared}{K:Frag}
end
end Att
namespace L2
open PySem PySem.Spec PyProof.Rows
theorem p_:∀ {vs:List Value} {ns:List Int},IntsAre vs ns->Vals (ns.map V.int) vs
 | _,_,.nil=>.nil
 | _,_,.cons n t h=>.cons ⟨t,rfl⟩ (p_ h)
def HX(H:Hp):Prop:=∀ b,H b=none\/∃ o xs,H b=some (.o8 o (.lst xs))
variable{sp:Sp}{x:Str}{fd:FuncData}{a:Addr}{k:Nat}{mg:Str->Option Value}{w:World}{P:Program}
theorem yr{K:PySem.W.Frag}{mb:Str->Option Value}{CX:Gx}{fa:Addr}{s₁:Shared}{vs:List Value}{ns:List Int}
  (KX:K.In s₁.heap) (hns:s₁.heap.Ns mainGlobals mg) (hb:s₁.heap.Ns builtinsNs mb) (NU:∀ x:Str,x ≠ "__name__" -> mb x=bootBuiltins x) (hlim:s₁.heap.NoLimit) (hg:s₁.gens=#[])
  (ha:s₁.heap.get? a=some { cls:=.type "list", data:=.seq vs.toArray }) (hi:IntsAre vs ns) (hl:ns.length<=sizeLine) (hr:bZ k callerA)
  (F:∀ base:Heap,K.In base->base.Ns mainGlobals mg->aV P w K mg base CX k fa fd [x] sp) (NV:∀ (s:Shared) (u:Value),BindsTo s fd ⟨[u],[]⟩ [(x,u)])
  (hsp:∀ H:Hp,HX H->f9 K H a (ns.map V.int)->sp [.ref a] H (λv _=>v=.bl true) λ_ _ _=>False)
  (hCX:∀ H e s',CX [] H s₁ (λ_ _ _=>False) e s'->False) :
  codeAny (model P w) callerA (.call (.ref fa) ⟨[.ref a],[]⟩) (λr s'=>r=.ok (.ret (.bool true))/\OldK s₁.heap s'.heap/\s'.os=s₁.os/\AllBare s'.gens) s₁:=by
 have rv:=p_ hi
 have lenV:=hi.length
 have core:∀ H:Hp,HX H->f9 K H a (ns.map V.int)->lU P w H s₁.heap->(∀ b,H b≠none->b=a)->(H a≠none->K.lookup a=none) ->
   codeAny (model P w) callerA (.call (.ref fa) ⟨[.ref a],[]⟩) (λr s'=>r=.ok (.ret (.bool true))/\OldK s₁.heap s'.heap/\s'.os=s₁.os/\AllBare s'.gens) s₁:=by
  intro H hO hS bC hA hK
  have MA:∀ {b:Addr} {o:Obj},s₁.heap.get? b=some o->H b=none->(qS s₁.heap H).get? b=some o:=λe n=>yy e n
  have uw:∀ {b:Addr} {o:Obj} {es:Array DictEntry} {ep:Nat},s₁.heap.get? b=some o->o.data=.dict es ep->H b=none:=λ{b o es ep} e d=>by
   cases q:H b with
   | none=>rfl
   | some u =>
    have e':b=a:=hA b (by rw[q];simp)
    subst e'
    rw[ha] at e;cases e
    have d':Data.seq vs.toArray _=Data.dict es ep:=d
    cases d'
  have nsK:∀ {b:Addr} {m:Str->Option Value},s₁.heap.Ns b m->(qS s₁.heap H).Ns b m:=λ{b m} ⟨o,es,ep,e,d,r⟩=>⟨o,es,ep,MA e (uw e d),d,r⟩
  have hKb:K.In (qS s₁.heap H):=λb o e=>MA (KX b o e) (by
   cases q:H b with
   | none=>rfl
   | some u =>
    have e':b=a:=hA b (by rw[q];simp)
    subst e'
    rw[hK (by rw[q];simp)] at e;cases e)
  have hM:Mod K mg (qS s₁.heap H):=⟨hKb,nsK hns,⟨mb,nsK hb,NU⟩,let ⟨mc,h1,h2⟩:=hlim;⟨mc,nsK h1,h2⟩⟩
  have e0:u6 P w K mg (qS s₁.heap H) callerA [] s₁ H:=⟨rfl,hM,λb o e=>Cg e,Nat.le_of_eq (wU _ _),trivial,λb hb=>absurd (show b∈([]:List Addr) from hb) (by simp),bC,.of_eq hg⟩
  refine codeAny_mono ((F _ hKb (nsK hns)).run callerA [] s₁ H ⟨[.ref a],[]⟩ [.ref a] [.ref a] _ _ hr e0 (NV s₁ (.ref a)) (.cons rfl .nil) (hsp H hO hS)) λr s' h=>?_
  cases r with
  | error e=>exact(hCX H e s' h).elim
  | ok fl =>
   cases fl with
   | next=>exact False.elim h
   | brk=>exact False.elim h
   | cont=>exact False.elim h
   | ret u =>
    obtain⟨v,H',os,bare,un,hok',r',q⟩:=h
    have q':v=.bl true:=q
    subst q'
    obtain rfl:u=Value.bool true:=r'
    refine⟨rfl,OldK.of_keep λb o e=>?_,os,bare⟩
    cases q:H b with
    | none=>exact un.keep b o e q (by intro z;exact absurd (show b∈([]:List Addr) from z) (by simp)) (by simp)
    | some u =>
     rcases hO b with z | ⟨ob,xs,z⟩
     ·rw[q] at z;cases z
     ·have z2:=un.lH b ob _ z
      obtain⟨e1,_⟩:=bC b _ z
      obtain⟨e2,_⟩:=hok' b _ z2
      rw[e] at e1;cases e1
      exact e2
 cases hk:K.lookup a with
 | some o =>
  have e:=KX a o hk
  rw[ha] at e
  cases e
  refine core (λ_=>none) (λ_=>.inl rfl) (.inr ⟨_,vs.toArray,_,hk,rfl,rfl,rfl,by rw[List.size_toArray,lenV];exact hl,by simpa using rv⟩) (λb u z=>by have z':(none:Option HO)=some u:=z;cases z') (λb z=>absurd rfl z) λz=>absurd rfl z
 | none =>
  refine core (λb=>if b=a then some (.o8 { cls:=.type "list", data:=.seq vs.toArray } (.lst (ns.map V.int))) else none) (λb=>?_) (.inl (.inr ⟨{ cls:=.type "list", data:=.seq vs.toArray },if_pos rfl⟩)) (λb u z=>?_) (λb z=>?_) λ_=>hk
  ·by_cases hb:b=a
   ·exact .inr ⟨_,_,if_pos hb⟩
   ·exact .inl (if_neg hb)
  ·by_cases hb:b=a
   ·have z':=(if_pos hb).symm.trans z
    cases z'
    subst hb
    exact⟨ha,by rw[List.length_map];exact hl,vs,_,rv,ha⟩
   ·have z':=(if_neg hb).symm.trans z
    cases z'
  ·by_cases hb:b=a
   ·exact hb
   ·exact absurd (if_neg hb) z
def inClass(s:Stmt)(j:Nat):Stmt:=match s with
 | .ClassDef _ _ _ body _ _ _ _ _ _ _=>body.getD j (.Pass ⟨0,0,0,0⟩)
 | _=>.Pass ⟨0,0,0,0⟩
def gG(s:Stmt):Arguments:=match s with
 | .FunctionDef _ a _ _ _ _ _ _ _ _=>a
 | _=>{ posonlyargs:=[],args:=[],vararg:=none,kwonlyargs:=[],kw_defaults:=[],kwarg:=none,defaults:=[] }
def eH(s:Stmt):List Stmt:=match s with
 | .FunctionDef _ _ b _ _ _ _ _ _ _=>b
 | _=>[]
def aY(s:Stmt):Scope:=match s with
 | .FunctionDef _ _ _ _ _ _ sc _ _ _=>sc
 | _=>{ kind:=.function,names:=[],isGenerator:=false,isCoroutine:=false }
abbrev E0:XK:=λ_ _ _=>False
variable{base:Heap}
section
variable{K:PySem.W.Frag}
end
variable{n:Nat}
theorem lK(h:n<=1000):n<sizeLine:=Nat.lt_of_le_of_lt h (by decide)
variable{X:Cx}
def bf(H H':Hp):Prop:=∀ b o,H b=some o->H' b=some o
def Av(_ j:Int):Prop:=j≠0/\j.natAbs.log2<9000
theorem yz:gU X (binaryOp .FloorDiv) (rI Av λi j=>.int (i.fdiv j)):=Jk λ_ _ _ _ _ _ _ hc q=>floordiv_int hc.1 q (.inl (PyProof.noPylong_of_log2 hc.2))
theorem BD:gU X (binaryOp .Mult) (rI (λi j=>IntMulOk i j) λi j=>.int (i*j)):=Jk λ_ _ _ _ _ _ _ hc q=>mul_int q hc
theorem zR{a b:Int}{m:Nat}(ha:a.natAbs<2^m)(hb:b.natAbs<2^n)(h:m+n<=134217728):IntMulOk a b:=IntMulOk.of_le (intBits_le_iff.mpr ha) (intBits_le_iff.mpr hb) h
theorem yE:bootBuiltins "isinstance" = some (.builtin "isinstance"):=by decide +kernel
theorem zV:bootBuiltins "int" = some (.type "int"):=by decide +kernel
theorem Bx:bootBuiltins "bool" = some (.type "bool"):=by decide +kernel
theorem oA:bootBuiltins "tuple" = some (.type "tuple"):=by decide +kernel
theorem vA:bootBuiltins "list" = some (.type "list"):=by decide +kernel
theorem Fd:bootBuiltins "sum" = some (.builtin "sum"):=by decide +kernel
def JD(K:PySem.W.Frag):List V->Hp->VK->Prop:=λxs H Q=>∃ x T t b,xs=[x,.ty T]/\jg K H x t/\PySem.W.kitOne K t (.type T)=some b/\Q (.bl b) H
theorem AH:dz X (.builtin "isinstance") (JD X.K):=by
 intro Kt s σ H xs us Q I r h
 obtain⟨x,T,t,b,rfl,ty,e,q⟩:=h
 cases r with
 | cons r1 r2 =>
  cases r2 with
  | cons r3 r4 =>
   cases r4
   cases (show _=Value.type T from r3)
   exact wL I r1 ty e λtk=>⟨.bl b,H,I.tok tk,rfl,q⟩
section
variable(K:PySem.W.Frag)
end
variable{ch:List Addr}{t':Nat}{h':Heap}{s:Shared}{H:Hp}{σ:St}{Kt:List (Addr×Obj)}
variable{x1:Nat}{elts:List Expr}
theorem Inv.ju{o:HO}(I:Inv X Kt σ H s)(k:∀ b u,b ∉ ch->s.heap.get? b=some u->h'.get? b=some u)
  (Mo:∀ b∈ch,kC X Kt H b) (hp:s.heap.objs.size<=a) (hl:∀ b∈ch,∃ u,s.heap.get? b=some u) (new:bV X.prog X.w (upd H a o) h' a o):Inv X Kt σ (upd H a o) { s with heap:=h',toks:=t' }:=by
 have ne:∀ b u,s.heap.get? b=some u->b≠a:=λb u e=>Nat.ne_of_lt (Nat.lt_of_lt_of_le (Heap.lt_size e) hp)
 have MV:H a=none:=I.bC.fresh hp
 have M6:∀ b u,H b=some u->b ∉ ch:=λb u e z=>by rw[(Mo b z).1] at e;cases e
 have M5:∀ b u,H b=some u->b≠a:=λb u e z=>by rw[z,MV] at e;cases e
 refine I.step (g':=s.gens) (d':=s.drawn) (ch:=ch) (λb hb=>?_) (λb u _ _ hc e _=>k b u hc e) (λb u _ _ hc e _=>⟨u.slots,k b u hc e⟩)
  (λb u _ e n=>by rw[ak (ne b u e)];exact n) (λb u hc e=>⟨u,k b u hc e⟩)
  (λb xs e=>by rw[ak (M5 b _ e)];exact e) (λb ob u e=>by rw[ak (M5 b _ e)];exact e) (λb ps e=>⟨#[],by rw[ak (M5 b _ e),e];simp⟩) (λm hm=>?_) (λb u e=>?_) I.bare
 ·obtain⟨_,f1,_,f3,f4,f5⟩:=Mo b hb
  exact⟨f3,f1,f4,f5⟩
 ·obtain⟨ob,es,ep,ho,r⟩:=hm
  exact⟨ob,es,ep,k _ ob (λz=>(Mo _ z).2.1 rfl) ho,r⟩
 ·by_cases z:b=a
  ·subst z
   rw[aw] at e
   cases e
   exact new
  ·rw[ak z] at e
   refine(I.bC b u e).ma (λc v hc q=>k c v ?_ q) (λc q=>?_) λc ys q=>?_
   ·rcases hc with z' | z'
    ·rw[z'];exact M6 b u e
    ·exact M6 c _ z'
   ·rw[ak (M5 c _ q)];exact q
   ·rw[ak (M5 c _ q)];exact q
def F1 (K : PySem.W.Frag) (a : Addr) : It :=
  ⟨λi H => ∃ xs x, f9 K H a xs /\ xs[i]? = some x,
   λi H y H' => ∃ p x, H p = none /\ y = .ref p /\ H' = upd H p (.tup [.int i, x]) /\ ∀ xs, f9 K H a xs -> xs[i]? = some x,
   λi H => ∃ xs, f9 K H a xs /\ xs.length <= i⟩
theorem xm{K:PySem.W.Frag}{tp:Pos}(a e it:Addr)(ME:e≠it):Turn P w K (.Tuple elts x1 tp) (F1 K a) [e,it] e (λi h=>(∃ old,IsEnum h e it i old)/\h.IsListIter it a i) where
 mem:=by simp
 obj:=λi h st b hb=>by
  obtain⟨⟨old,he⟩,⟨o,e1,c,d⟩⟩:=st
  rcases List.mem_cons.mp hb with z | z
  ·subst z
   exact⟨_,he,λv z=>by cases z⟩
  ·have z':b=it:=by simpa using z
   subst z'
   exact⟨o,e1,λv z=>by rw[d] at z;cases z⟩
 keep:=λi h h' st k=>by
  obtain⟨⟨old,he⟩,hit⟩:=st
  exact⟨⟨old,k e (by simp) _ he⟩,hit.at λo x=>k it (by simp) o x⟩
 item:=by
  intro X hP hw hK hc i Kt s σ H E I hf st hg
  subst hP hw hK
  obtain⟨xs,x,hq,hx⟩:=hg
  obtain⟨Kv,rv,p,hz⟩:=I.list hq
  obtain⟨u,hu,ru⟩:=rv.get hx
  obtain⟨⟨old,he⟩,hit⟩:=st
  have MU:e<s.heap.objs.size:=Heap.lt_size he
  have Ny:it<s.heap.objs.size:=by obtain⟨_,z,_⟩:=hit;exact Heap.lt_size z
  refine wpAny_pyNext_enum_item he hit p.isList (x:=u) (by simpa using hu) ME λh' ho Nz hT Mb hk=>⟨_,rfl,?_⟩
  refine wpAny_letOwnedTupleGo_enum (s:={ s with heap:=h',toks:=s.toks+1 }) ho λh2 he2 LY=>?_
  have M3:∀ b o,b ∉ [e,it]->s.heap.get? b=some o->h2.get? b=some o:=λb o hb q=>by
   have n1:b≠e:=λz=>hb (by simp[z])
   have n2:b≠it:=λz=>hb (by simp[z])
   exact(LY.2 b n1).trans (hk b o n1 n2 q)
  have Ng:h2.get? s.heap.objs.size=some { cls:=.type "tuple", data:=.seq #[.int i s.toks,u] }:=(LY.2 _ (Nat.ne_of_gt MU)).trans hT
  have I2:Inv X Kt σ (upd H s.heap.objs.size (.tup [.int i,x])) { s with heap:=h2,toks:=s.toks+1 } :=
   I.ju (ch:=[e,it]) M3 hf (Nat.le_refl _) (λb hb=>by
    rcases List.mem_cons.mp hb with z | z
    ·subst z;exact⟨_,he⟩
    ·have z':b=it:=by simpa using z
     subst z'
     obtain⟨o,z,_⟩:=hit
     exact⟨o,z⟩)
    ⟨by show 2<=sizeLine;decide,[.int i s.toks,u],.cons ⟨_,rfl⟩ (.cons ru .nil),⟨_,Ng,rfl,_,rfl⟩⟩
  have LX:H s.heap.objs.size=none:=I.bC.fresh (Nat.le_refl _)
  refine⟨.ref s.heap.objs.size,_,I2,rfl,⟨_,x,LX,rfl,rfl,λys hy=>by rw[I.nY hy hq];exact hx⟩,⟨⟨u,by simpa using he2⟩,Nz.at λo z=>(LY.2 it (Ne.symm ME)).trans z⟩,λb hb=>?_⟩
  have nb:b≠s.heap.objs.size:=by
   rcases List.mem_cons.mp hb with z | z
   ·rw[z];exact Nat.ne_of_lt MU
   ·have z':b=it:=by simpa using z
    rw[z'];exact Nat.ne_of_lt Ny
  rw[ak nb]
  exact(hf b hb).1
 done:=by
  intro X hP hw hK hc i Kt s σ H E I hf st hg
  subst hP hw hK
  obtain⟨xs,hq,hx⟩:=hg
  obtain⟨Kv,rv,p,hz⟩:=I.list hq
  have hl:=rv.length
  obtain⟨⟨old,he⟩,hit⟩:=st
  obtain⟨f0,f1,f2,f3,f4,f5⟩:=hf it (by simp)
  exact wpAny_pyNext_enum_end (I.ok.hd hc) he hit p.isList (by simp;omega) λh' eb=>⟨rfl,I.turned (t':=s.toks) (λb o hb e=>eb b o hb e) f0 f1 f3 f4 f5⟩
 self:=λ_ _ _ _ _ st h=>by
  obtain⟨⟨old,he⟩,_⟩:=st
  exact wpAny_pyIter_enum he h
variable{A:Around}{prog:Program}
variable{scope:Scope}{ifs:List Expr}{elt iter:Expr}
section
variable{R:Result->Shared->Prop}
theorem xo{target:Expr}{pos:Pos}{it acc:Value}{env:Env}(I:Nat->Shared->Prop)
  (turn:∀ n s,I n s->wpAny (model prog w) A (pyNext it) (λr s₁=>match r with
   | none=>R (.ok .next) s₁
   | some v=>wpAny (model prog w) A (letOwnedTupleGo target it v) (λ_ s₂=>wpAny (model prog w) A (assign target env v) (λ_ s₃ =>
     wpAny (model prog w) A (forIn ifs true λc r=>if r=true then do let ok ← isTrue c env (eval c env);pure (ForInStep.yield ok) else pure (ForInStep.yield r)) (λok s₄ =>
      if ok=true then wpAny (model prog w) A (eval elt env) (λx s₅ =>
       wpAny (model prog w) A (call (.builtin "list.append") [acc,x]) (λ_ s₆=>∃ m,m<n/\I m s₆) (λ_ _=>False) s₅) (λ_ _=>False) s₄
      else ∃ m,m<n/\I m s₄) (λ_ _=>False) s₃) (λ_ _=>False) s₂) (λ_ _=>False) s₁) (λ_ _=>False) s)
  (n:Nat) (h:I n s) :
  codeAny (model prog w) A (.compLoop (.ListComp elt [⟨target,iter,ifs,0⟩] scope pos) 0 it acc env) R s:=by
 refine codeAny_loop rfl I (λn s hI=>?_) n h
 show wpAny _ A ((compTurn (.ListComp elt [⟨target,iter,ifs,0⟩] scope pos) 0 it acc env).onRaise (λx=>do noteFrame x env;theTreesLotGoes x)) _ _ s
 refine wpAny_noted ?_
 rw[compTurn_list]
 refine wpAny_bind (wpAny_standAt (wpAny_bind (wpAny_mono (turn n s hI) (λr s₁ h₁=>?_) λ_ _ h'=>h'.elim)))
 cases r with
 | none=>exact wpAny_pure h₁
 | some v =>
  refine wpAny_bind (wpAny_mono h₁ (λ_ s₂ h₂=>wpAny_bind (wpAny_mono h₂ (λ_ s₃ h₃=>wpAny_bind (wpAny_mono h₃ (λok s₄ h₄=>?_) λ_ _ h'=>h'.elim)) λ_ _ h'=>h'.elim)) λ_ _ h'=>h'.elim)
  cases ok with
  | false=>exact wpAny_pure ⟨rfl,h₄⟩
  | true =>
   exact wpAny_bind (wpAny_bind (wpAny_mono h₄ (λx s₅ h₅=>wpAny_bind (wpAny_mono h₅ (λ_ s₆ h₆=>wpAny_pure (wpAny_pure ⟨rfl,h₆⟩)) λ_ _ h'=>h'.elim)) λ_ _ h'=>h'.elim))
end
def oP(X:Cx)(scope:Scope)(cl:List (Str×Addr))(N:List Str)(C:Addr)(s₀:Shared)(H₀:Hp)(ex:List Addr)(Kt:List (Addr×Obj)):Cx :=
 { X with N:=N,s₀:=s₀,H₀:=H₀,env:=compEnvC scope cl C X.env,outer:=X.stack,stack:=X.stack,ex:=ex,fn:=λ_=>false,pn:=X.pn++Kt,xe:=λ_ _=>False }
inductive hZ (X:Cx) (sc:Scope) (cl:List (Str×Addr)):List Str->List Nat->Prop where
 | nil:hZ X sc cl [] []
 | cons {x:Str} {j:Nat} {c:Addr} {fs:List Str} {js:List Nat} (hN:X.N[j]?=some x) (hf:sc.names.lookup x=some .free) (hv:X.env.kindOf x=some .cell\/X.env.kindOf x=some .free) (hc:X.env.cells.lookup x=some c) (hl:cl.lookup x=some c) (r:hZ X sc cl fs js):hZ X sc cl (x::fs) (j::js)
inductive eD (X:Cx):List (Str×Addr)->Prop where
 | nil:eD X []
 | cons {x:Str} {c:Addr} {r:List (Str×Addr)} (h:X.env.cells.lookup x=some c) (t:eD X r):eD X ((x,c)::r)
theorem eD.at{X:Cx}:∀ {cl:List (Str×Addr)},eD X cl->∀ x c,cl.lookup x=some c->X.env.cells.lookup x=some c
 | _,.nil,_,_,e=>by simp at e
 | _,.cons (x:=y) (c:=d) h t,x,c,e=>by
  rw[List.lookup_cons] at e
  cases q:x==y with
  | true =>
   rw[q] at e
   have e':d=c:=Option.some.inj e
   have q':x=y:=by simpa using q
   rw[q',← e'];exact h
  | false =>
   rw[q] at e
   exact eD.at t x c e
def gT(cl:List (Str×Addr))(names:List (Str×NameKind)):Bool:=names.all λy=>y.2 != .free||(cl.lookup y.1).isSome
def fF(names:List (Str×NameKind)):Bool:=names.all λy=>y.2 != .cell
def gQ(names:List (Str×NameKind)):Bool:=names.all λy=>y.2 != .local||(names.lookup y.1==some .local)
def fe(ts:List Str)(js:List Nat)(σ:St):St:=ts.map (λ_=>none)++js.map λj=>(σ[j]?).join
def AJ(wi:TI)(g:TG)(tt:Option TT)(te:TE)(ts:List Str)(js:List Nat):TE:=fun σ H Q=>wi σ H λJ H1=>∀ D,H1 D=none ->
 ∃ W:Nat->Nat->St->Hp->Prop,(∃ m,W 0 m (fe ts js σ) (upd H1 D (.lst [])))/\∀ i m σ' H',W i m σ' H' ->
  (J.stop i H'/\Q (.ref D) H')\/(J.go i H'/\∃ N:St->Hp->Prop,(∀ σ'' H'',N σ'' H''->∃ m',m'<m/\W (i+1) m' σ'' H'') ∧
   ∀ x H2,J.rL i H' x H2->g x σ' H2 fun σ2 H3=>match tt with
    | none=>te σ2 H3 λy H4=>∃ ys,H4 D=some (.lst ys)/\ys.length<sizeLine/\N σ2 (upd H4 D (.lst (ys++[y])))
    | some t=>t σ2 H3 λb NP=>if b=true then te σ2 NP λy H4=>∃ ys,H4 D=some (.lst ys)/\ys.length<sizeLine/\N σ2 (upd H4 D (.lst (ys++[y]))) else N σ2 NP)
variable{C:Addr}
theorem oj {cl : List (Str × Addr)} {env : Env} (h : (compEnvC scope cl C env).kindOf x = some .cell \/ (compEnvC scope cl C env).kindOf x = some .free) (nc : fF scope.names = true) : scope.names.lookup x = some .free := by
  have key : ∀ (names : List (Str × NameKind)), fF names = true ->
      ((names.map λ(n, k) => if (k == NameKind.free && env.scope.kind == .function && env.kindOf n == some .cell) then (n, NameKind.cell) else (n, k)).lookup x = some .cell ∨
       (names.map λ(n, k) => if (k == NameKind.free && env.scope.kind == .function && env.kindOf n == some .cell) then (n, NameKind.cell) else (n, k)).lookup x = some .free) -> names.lookup x = some .free := by
    intro names
    induction names with
    | nil => intro _ h; simp at h
    | cons p r ih =>
      obtain ⟨n, k⟩ := p
      intro nc h
      have nc' : (k != .cell) = true /\ fF r = true := by
        unfold fF at nc
        rw [List.all_cons, Bool.and_eq_true] at nc
        exact nc
      rw [List.map_cons] at h
      dsimp only at h
      by_cases hc : (k == NameKind.free && env.scope.kind == .function && env.kindOf n == some .cell) = true
      · rw [if_pos hc] at h
        rw [List.lookup_cons] at h ⊢
        cases q : x == n with
        | true =>
          have : k = .free := by
            rw [Bool.and_eq_true, Bool.and_eq_true] at hc
            simpa using hc.1.1
          rw [this]
        | false =>
          rw [q] at h
          exact ih nc'.2 h
      · rw [if_neg hc] at h
        rw [List.lookup_cons] at h ⊢
        cases q : x == n with
        | true =>
          rw [q] at h
          have nk : k ≠ .cell := by simpa using nc'.1
          rcases h with h | h
          · exact absurd (Option.some.inj h) nk
          · exact h
        | false =>
          rw [q] at h
          exact ih nc'.2 h
  exact key scope.names nc h
variable{js:List Nat}{ts:List Str}{te:TE}{tt:Option TT}{K2:Pos}{tg:Expr}
theorem sv{cl:List (Str×Addr)}{pos:Pos}{wi:TI}{g:TG}{fs:List Str}(KC:X.calm=true)
  (K5:closureFor scope X.env=pure cl) (hk:scope.kind=.function) (nc:fF scope.names=true) (lo:gQ scope.names=true) (fh:gT cl scope.names=true) (ag:eD X cl) (fr:hZ X scope cl fs js)
  (hi:PI X tg iter wi) (hg:∀ C s₀ H₀ ex Kt,PG (oP X scope cl (ts++fs) C s₀ H₀ ex Kt) tg g)
  (ht:∀ C s₀ H₀ ex Kt,match ifs,tt with | [],none=>True | [c],some t=>PT (oP X scope cl (ts++fs) C s₀ H₀ ex Kt) c t | _,_=>False)
  (he:∀ C s₀ H₀ ex Kt,PE (oP X scope cl (ts++fs) C s₀ H₀ ex Kt) elt te)
  (hs:∀ x,foldedSetIterable iter X.env x=pure x) {Q:VK} (I:Inv X Kt σ H s) (h:AJ wi g tt te ts js σ H Q)
  (use:Option (Value->Sem Unit)) (Qv:Value->Shared->Prop)
  (EO:∀ (D:Addr) (H':Hp) (s':Shared) (C:Addr),Inv X Kt σ H' s'->Q (.ref D) H'->(∃ m,s'.heap.Ns C m)->kC X Kt H' C->compPost (model X.prog X.w) X.A X.xe use Qv (.ref D) C (.ok .next) s') :
  wpAny (model X.prog X.w) X.A (comprehension (.ListComp elt [⟨tg,iter,ifs,0⟩] scope pos) scope X.env K2 (newList []) false (eval iter X.env) use) Qv X.xe s:=by
 have MC:∀ y∈scope.names,y.2≠.cell:=λy hy=>by
  have:=List.all_eq_true.mp nc y hy
  simpa using this
 have NA:∀ y∈scope.names,y.2=.local->scope.names.lookup y.1=some .local:=λy hy hl=>by
  have:=List.all_eq_true.mp lo y hy
  rw[hl] at this
  simpa using this
 refine wpAny_comprehension_free (use:=use) rfl hs K5 hk NA (cJ (hi Kt s σ H _ I h) λv s1 h1=>cJ h1 λitv s2 h2=>?_)
 obtain⟨it,fp,tn,J,H1,e,I2,T,Na,f2,hJ⟩:=h2
 subst e
 refine wpAny_newObj_type (wpAny_newFunctionEnv MC (by intro y hy;simp at hy) (λh₁ hns1 hsb1=>?_) hk)
 dsimp only at hns1 hsb1 ⊢
 generalize hH2:s2.heap.push { cls:=.type "list", dict:=none,data:=.seq ([]:List Value).toArray }=G at hns1 hsb1 ⊢
 have hC:G.objs.size=s2.heap.objs.size+1:=by rw[← hH2,Heap.size_push]
 have old:∀ b o,s2.heap.get? b=some o->h₁.get? b=some o:=λb o e=>by
  have hb:=Heap.lt_size e
  refine hsb1.extBut b o (Nat.ne_of_lt (Nat.lt_of_lt_of_le hb (Nat.le_of_lt (by rw[hC];exact Nat.lt_succ_self _)))) (Heap.get?_push_of_some _ ?_)
  rw[← hH2]
  exact Heap.get?_push_of_some _ e
 have hacc:h₁.get? s2.heap.objs.size=some { cls:=.type "list", dict:=none,data:=.seq #[] }:=by
  refine hsb1.extBut _ _ (Nat.ne_of_lt (by rw[hC];exact Nat.lt_succ_self _)) (Heap.get?_push_of_some _ ?_)
  rw[← hH2]
  exact Heap.get?_push_size _ rfl
 have nD:H1 s2.heap.objs.size=none:=I2.bC.fresh (Nat.le_refl _)
 have nC:H1 G.objs.size=none:=I2.bC.fresh (by omega)
 obtain⟨W,⟨m0,w0⟩,turn⟩:=hJ _ nD
 have NZ:∀ b∈fp,b<s2.heap.objs.size:=λb hb=>by
  obtain⟨o,e,_⟩:=T.obj _ _ Na b hb
  exact Heap.lt_size e
 have ltk:∀ (x:Str) (c:Addr),cl.lookup x=some c->c<s2.heap.objs.size/\H1 c=none/\(∃ v,s2.heap.IsCell c v):=λx c e=>by
  have e':=ag.at x c e
  obtain⟨v,q⟩:=I2.cell x c e'
  exact⟨q.lt,I2.jV x c e',v,q⟩
 let X':=oP X scope cl (ts++fs) G.objs.size s2 H1 fp Kt
 have okX:X'.Ok:=by
  refine⟨I2.ok.mod,hk,I2.ok.glob,I2.ok.blt,by show s2.heap.objs.size<=G.objs.size;omega,λx y c e1 e2=>I2.ok.inj x y c (ag.at x c e1) (ag.at y c e2),λx hx=>?_,λx c hf _=>(nomatch (show (false:Bool)=true from hf)),I2.ok.hd,I2.ok.frames,.inl rfl,λb hb=>⟨?_,λx c e z=>?_⟩,λb o e=>I2.bs b o e,Nat.le_trans I2.ok.DT I2.sz,λb o e hb=>?_,λb hb hz=>?_,I2.stack,λb hb=>I2.qL b hb⟩
  ·have MD:=oj (env:=X.env) hx nc
   have hm:∃ y∈scope.names,y.1=x/\y.2=.free:=by
    have:∀ (l:List (Str×NameKind)),l.lookup x=some .free->∃ y∈l,y.1=x/\y.2=.free:=by
     intro l
     induction l with
     | nil=>intro h;simp at h
     | cons p r ih =>
      intro h
      rw[List.lookup_cons] at h
      cases q:x==p.1 with
      | true =>
       rw[q] at h
       exact⟨p,List.mem_cons_self,(by simpa using q:x=p.1).symm,Option.some.inj h⟩
      | false =>
       rw[q] at h
       obtain⟨y,hy,r1,r2⟩:=ih h
       exact⟨y,List.mem_cons_of_mem _ hy,r1,r2⟩
    exact this _ MD
   obtain⟨y,hy,r1,r2⟩:=hm
   have:=List.all_eq_true.mp fh y hy
   rw[r2] at this
   have h':(cl.lookup y.1).isSome=true:=by simpa using this
   rw[r1] at h'
   exact Option.isSome_iff_exists.mp h'
  ·exact Nat.ne_of_lt (Nat.lt_of_lt_of_le (NZ b hb) (by show s2.heap.objs.size<=G.objs.size;omega))
  ·exact(f2 b hb).2.2.2.2.1 x c (ag.at x c e) z
  ·obtain⟨_,_,_,f3,_,_⟩:=f2 b hb
   rcases f3 with z | z
   ·exact I2.ok.yf b o e z
   ·exact absurd (Nat.lt_of_lt_of_le (Heap.lt_size (I2.ok.bs b o e).1) z) (Nat.lt_irrefl _)
  ·rcases List.mem_cons.mp (I2.rG b hz) with z | z
   ·exact(f2 b hb).2.1 z
   ·exact(f2 b hb).2.2.1 z
 have keepB:∀ b o,s2.heap.get? b=some o->h₁.get? b=some o:=old
 have I3:Inv X' [] (fe ts js σ) (upd H1 s2.heap.objs.size (.lst [])) { s2 with heap:=h₁,toks:=s2.toks+([]:List (Str×Value)).length }:=by
  have neD:∀ b o,s2.heap.get? b=some o->b≠s2.heap.objs.size:=λb o e=>Nat.ne_of_lt (Heap.lt_size e)
  refine⟨okX,rfl,I2.bare,⟨λb o e n hb hx=>old b o e,λb o e n hb hx=>⟨o.slots,old b o e⟩,λb o e n hx=>by rw[ak (neD b o e)];exact n,λb o e hx=>⟨o,old b o e⟩,λb xs e=>?_,λb o u e=>?_,λb ps e=>?_⟩,⟨_,hns1,λi x v e1 e2 e3=>?_⟩,λx c e=>?_,?_,λx c e=>?_,λp hp=>?_,?_,?_⟩
  ·rw[ak (bK e nD)];exact e
  ·rw[ak (bK e nD)];exact e
  ·exact⟨#[],by rw[ak (bK e nD)];exact Eq.trans e (by simp)⟩
  ·
   have hlen:(ts.map (λ_=>(none:Option V))).length=ts.length:=List.length_map _
   unfold fe at e2
   by_cases Lr:i<ts.length
   ·rw[List.getElem?_append_left (by rw[hlen];exact Lr),List.getElem?_map] at e2
    cases q:ts[i]? <;> rw[q] at e2 <;> cases e2
   ·rw[List.getElem?_append_right (by rw[hlen];omega),hlen] at e2
    have Nf:fs[i-ts.length]?=some x:=by
     have Nf:(ts++fs)[i]?=some x:=e1
     rw[List.getElem?_append_right (by omega)] at Nf
     exact Nf
    have all:∀ {fs:List Str} {js:List Nat},hZ X scope cl fs js->∀ k:Nat,fs[k]?=some x->(js.map λj=>(σ[j]?).join)[k]?=some (some v) ->
      ∃ (j:Nat) (c:Addr),X.N[j]?=some x/\σ[j]?=some (some v)/\(X.env.kindOf x=some .cell\/X.env.kindOf x=some .free)/\X.env.cells.lookup x=some c/\cl.lookup x=some c/\scope.names.lookup x=some .free:=by
     intro fs js r
     induction r with
     | nil=>intro k e;simp at e
     | @cons y j c fs js hN hf hv hc hl r ih =>
      intro k e e'
      cases k with
      | zero =>
       have e0:y=x:=by simpa using e
       subst e0
       have NR:(σ[j]?).join=some v:=by simpa using e'
       refine⟨j,c,hN,?_,hv,hc,hl,hf⟩
       cases q:σ[j]? with
       | none=>rw[q] at NR;cases NR
       | some z=>rw[q] at NR;cases z with
        | none=>cases NR
        | some z =>
         have:z=v:=by simpa using NR
         rw[this]
      | succ k=>exact ih k (by simpa using e) (by simpa using e')
    obtain⟨j,c,q1,q2,q3,q4,q5,q6⟩:=all fr (i-ts.length) Nf e2
    obtain⟨m,hn,hl⟩:=I2.loc
    have vis:Bn X.env.scope x:=by
     rcases q3 with z | z
     ·exact .inr (.inl z)
     ·exact .inr (.inr z)
    obtain⟨u,ru,lk⟩:=hl j x v q1 q2 vis
    refine⟨u,ru,.inr ⟨?_,c,q5,?_⟩⟩
    ·rcases e3 with z | z | z
     ·exfalso
      have key:∀ (l:List (Str×NameKind)),(l.map λ(n,k)=>if (k==NameKind.free&&X.env.scope.kind==.function&&X.env.kindOf n==some .cell) then (n,NameKind.cell) else (n,k)).lookup x=some .local->l.lookup x=some .local:=by
       intro l
       induction l with
       | nil=>intro h;simp at h
       | cons p r ih =>
        obtain⟨n,k⟩:=p
        intro h
        rw[List.map_cons] at h
        dsimp only at h
        by_cases hc:(k==NameKind.free&&X.env.scope.kind==.function&&X.env.kindOf n==some .cell)=true
        ·rw[if_pos hc] at h
         rw[List.lookup_cons] at h ⊢
         cases q:x==n with
         | true=>rw[q] at h;cases h
         | false=>rw[q] at h;exact ih h
        ·rw[if_neg hc] at h
         rw[List.lookup_cons] at h ⊢
         cases q:x==n with
         | true=>rw[q] at h;exact h
         | false=>rw[q] at h;exact ih h
      have:=key _ z
      rw[q6] at this
      cases this
     ·exact .inl z
     ·exact .inr z
    ·rcases lk with ⟨k,_⟩ | ⟨_,c',e4,z⟩
     ·rcases q3 with z | z <;> rw[z] at k <;> cases k
     ·rw[q4] at e4
      cases e4
      obtain⟨o,ho,hd⟩:=z
      exact⟨o,old c o ho,hd⟩
  ·obtain⟨_,_,v,o,ho,hd⟩:=ltk x c e
   exact⟨v,o,old c o ho,hd⟩
  ·show upd H1 s2.heap.objs.size (.lst []) G.objs.size=none
   rw[ak (Nat.ne_of_gt (by rw[hC];exact Nat.lt_succ_self _))];exact nC
  ·obtain⟨q1,q2,_⟩:=ltk x c e
   rw[ak (Nat.ne_of_lt q1)];exact q2
  ·have Nw:p∈X.pn++Kt:=by
    have:p∈(X.pn++Kt)++[]:=hp
    rwa [List.append_nil] at this
   obtain⟨e,n,ne,nf,d⟩:=I2.pin p Nw
   have Lr:=Heap.lt_size e
   refine⟨old _ _ e,by rw[ak (Nat.ne_of_lt Lr)];exact n,?_,λhz=>?_,d⟩
   ·show p.1≠G.objs.size
    exact Nat.ne_of_lt (Nat.lt_trans Lr (by rw[hC];exact Nat.lt_succ_self _))
   ·rcases List.mem_cons.mp (I2.rG _ hz) with z | z
    ·exact ne z
    ·exact nf z
  ·exact I2.bC.laid old (Nat.le_refl _) ⟨Nat.zero_le _,[],0,.nil,hacc⟩
  ·show (fe ts js σ).length=(ts++fs).length
   have frl:∀ {fs:List Str} {js:List Nat},hZ X scope cl fs js->fs.length=js.length:=by
    intro fs js r
    induction r with
    | nil=>rfl
    | cons _ _ _ _ _ _ ih=>rw[List.length_cons,List.length_cons,ih]
   unfold fe
   rw[List.length_append,List.length_append,List.length_map,List.length_map,frl fr]
 have Mz:∀ {H':Hp},(∀ b∈fp,H' b=none)->∀ b∈fp,kC X' [] H' b:=λ{H'} hn b hb=>by
  obtain⟨_,f1,f3,_,f4,f5⟩:=f2 b hb
  refine⟨hn b hb,okX.JT b hb |>.1,okX.AW b hb,.inl hb,λx c e=>f4 x c (ag.at x c e),λp hp=>f5 p ?_⟩
  have:p∈(X.pn++Kt)++[]:=hp
  rwa [List.append_nil] at this
 have fin:∀ {σ':St} {H':Hp} {s':Shared},Inv X' [] σ' H' s'->Q (.ref s2.heap.objs.size) H' ->
   compPost (model X.prog X.w) X.A X.xe use Qv (.ref s2.heap.objs.size) G.objs.size (.ok .next) s':=by
  intro σ' H' s' I4 q
  obtain⟨m,hn,_⟩:=I4.loc
  have fC:H' G.objs.size=none:=I4.free
  have Io:Inv X Kt σ H' s':=by
   refine I2.zL (s':=s') (ch:=fp) I4.os ⟨λb o e n hb hx=>?_,λb o e n hb hx=>?_,λb o e n hx=>I4.base.free b o e n hx,λb o e hx=>?_,I4.base.rh,I4.base.lH,I4.base.qw⟩ I4.bC I4.bare λb hb=>?_
   ·exact I4.base.keep b o e n hb hx
   ·exact I4.base.slot b o e n hb hx
   ·exact I4.base.there b o e hx
   ·obtain⟨_,f1,_,f3,f4,f5⟩:=f2 b hb
    exact⟨f3,f1,f4,f5⟩
  have hCl:s2.heap.objs.size<=G.objs.size:=by rw[hC];exact Nat.le_succ _
  exact EO _ H' s' _ Io q ⟨m,hn⟩ (I2.qY hCl fC)
 have loop:∀ s3:Shared,s3={ s2 with heap:=h₁,toks:=s2.toks+([]:List (Str×Value)).length } ->
   codeAny (model X.prog X.w) X.A (.compLoop (.ListComp elt [⟨tg,iter,ifs,0⟩] scope pos) 0 (.ref it) (.ref s2.heap.objs.size) (compEnvC scope cl G.objs.size X.env))
    (compPost (model X.prog X.w) X.A X.xe use Qv (.ref s2.heap.objs.size) G.objs.size) s3:=by
  rintro s3 rfl
  refine xo (λn s'=>∃ i σ' H',Inv X' [] σ' H' s'/\tn i s'.heap/\(∀ b∈fp,H' b=none)/\W i n σ' H') ?_ m0 ⟨0,_,_,I3,T.keep _ _ _ Na λb _ o e=>old b o e,λb hb=>?_,w0⟩
  ·rintro n s3 ⟨i,σ3,H3,I3,st3,fr3,w3⟩
   rcases turn i n σ3 H3 w3 with ⟨stop,qn⟩ | ⟨go,N,hN,step⟩
   ·refine cJ (T.done X' rfl rfl rfl KC i [] s3 σ3 H3 _ I3 (Mz fr3) st3 stop) λr s4 ⟨hr,I4⟩=>?_
    subst hr
    exact fin I4 qn
   ·refine cJ (T.item X' rfl rfl rfl KC i [] s3 σ3 H3 _ I3 (Mz fr3) st3 go) λr s4 ⟨u,hr,h4⟩=>?_
    subst hr
    refine cJ h4 λ_ s5 ⟨x,H5,I5,r5,y5,st5,fr5⟩=>?_
    have I5':=I5.pinned (Mz fr5) (T.obj _ _ st5)
    refine cJ (hg _ _ _ _ _ _ s5 σ3 H5 x u _ I5' r5 (step x H5 y5)) λ_ s6 ⟨σ6,H6,I6,q6⟩=>?_
    have again:∀ {σ7:St} {H7:Hp} {s7:Shared},Inv X' ([]++lF fp s5.heap) σ7 H7 s7->N σ7 H7->∃ m,m<n/\∃ i σ' H',Inv X' [] σ' H' s7/\tn i s7.heap/\(∀ b∈fp,H' b=none)/\W i m σ' H':=λ{σ7 H7 s7} I7 n7=>by
     obtain⟨m',hm,w7⟩:=hN σ7 H7 n7
     refine⟨m',hm,i+1,σ7,H7,I7.kR,T.keep _ _ _ st5 λb hb o e=>(I7.pin (b,o) (List.mem_append_right _ (List.mem_append_right _ (iz hb e)))).1,λb hb=>?_,w7⟩
     obtain⟨o,e,d⟩:=T.obj _ _ st5 b hb
     exact(I7.pin (b,o) (List.mem_append_right _ (List.mem_append_right _ (iz hb e)))).2.1
    have tail:∀ {H7:Hp} {s7:Shared},Inv X' ([]++lF fp s5.heap) σ6 H7 s7->(te σ6 H7 λy H4=>∃ ys,H4 s2.heap.objs.size=some (.lst ys)/\ys.length<sizeLine/\N σ6 (upd H4 s2.heap.objs.size (.lst (ys++[y])))) ->
      wpAny (model X.prog X.w) X.A (eval elt (compEnvC scope cl G.objs.size X.env)) (λx s₅=>wpAny (model X.prog X.w) X.A (call (.builtin "list.append") [.ref s2.heap.objs.size,x])
       (λ_ s₆=>∃ m,m<n/\∃ i σ' H',Inv X' [] σ' H' s₆/\tn i s₆.heap/\(∀ b∈fp,H' b=none)/\W i m σ' H') (λ_ _=>False) s₅) (λ_ _=>False) s7:=by
     intro H7 s7 I7 q7
     refine cJ (he _ _ _ _ _ _ s7 σ6 H7 _ I7 q7) λuy s8 ⟨y,H8,I8,ry,ys,hy,hl,q8⟩=>?_
     refine cJ (k4 (X:=X') _ s8 σ6 H8 (.ref s2.heap.objs.size) [y] (.ref s2.heap.objs.size) [uy] (λ_ H9=>N σ6 H9) I8 rfl (.cons ry .nil) ⟨_,ys,y,rfl,rfl,hy,hl,q8⟩) λ_ s9 ⟨_,H9,I9,_,q9⟩=>?_
     exact again I9 q9
    cases ifs with
    | nil =>
     cases tt with
     | none=>exact wpAny_tests_nil (tail I6 q6)
     | some t=>exact(ht 0 s2 H1 [] []).elim
    | cons c r =>
     cases r with
     | nil =>
      cases tt with
      | none=>exact(ht 0 s2 H1 [] []).elim
      | some t =>
       refine wpAny_tests_one (cJ (ht G.objs.size s2 H1 fp Kt _ s6 σ6 H6 _ I6 q6) λb s7 ⟨H7,I7,q7⟩=>?_)
       cases b with
       | true =>
        rw[if_pos rfl] at q7 ⊢
        exact tail I7 q7
       | false =>
        rw[if_neg Bool.false_ne_true] at q7 ⊢
        exact again I7 q7
     | cons _ _=>cases tt <;> exact(ht 0 s2 H1 [] []).elim
  ·rw[ak (Nat.ne_of_lt (NZ b hb))]
   exact(f2 b hb).1
 exact codeAny_compStart_list (loop _ rfl) (T.self _ 0 _ _ _ (T.keep _ _ _ Na λb _ o e=>old b o e) (loop _ rfl))
theorem Inv.other(I:Inv X Kt σ H s)(f:kC X Kt H C)(hs:Heap.SameBut C s.heap h'):Inv X Kt σ H { s with heap:=h' }:=by
 obtain⟨f0,f1,_,f3,f4,f5⟩:=f
 refine I.zL (s':={ s with heap:=h' }) (ch:=[C]) rfl ⟨λb o e n hb hx=>?_,λb o e n hb hx=>?_,λb o e n hx=>n,λb o e hx=>?_,λ_ _ q=>q,λ_ _ _ q=>q,λb ps q=>⟨#[],by rw[q];simp⟩⟩ (λb u e=>?_) I.bare λb hb=>?_
 ·exact(hs.2 b (λz=>hx (by rw[z];exact List.mem_singleton.mpr rfl))).trans e
 ·exact⟨o.slots,(hs.2 b (λz=>hx (by rw[z];exact List.mem_singleton.mpr rfl))).trans e⟩
 ·exact⟨o,(hs.2 b (λz=>hx (by rw[z];exact List.mem_singleton.mpr rfl))).trans e⟩
 ·refine(I.bC b u e).ma (λc v hc q=>(hs.2 c ?_).trans q) (λ_ q=>q) λ_ _ q=>q
  rcases hc with z | z
  ·rw[z];exact bK e f0
  ·exact bK z f0
 ·rw[List.mem_singleton.mp hb]
  exact⟨f3,f1,f4,f5⟩
theorem vT{cl:List (Str×Addr)}{pos:Pos}{wi:TI}{g:TG}{fs:List Str}(KC:X.calm=true)
  (K5:closureFor scope X.env=pure cl) (hk:scope.kind=.function) (nc:fF scope.names=true) (lo:gQ scope.names=true) (fh:gT cl scope.names=true) (ag:eD X cl) (fr:hZ X scope cl fs js)
  (hi:PI X tg iter wi) (hg:∀ C s₀ H₀ ex Kt,PG (oP X scope cl (ts++fs) C s₀ H₀ ex Kt) tg g)
  (ht:∀ C s₀ H₀ ex Kt,match ifs,tt with | [],none=>True | [c],some t=>PT (oP X scope cl (ts++fs) C s₀ H₀ ex Kt) c t | _,_=>False)
  (he:∀ C s₀ H₀ ex Kt,PE (oP X scope cl (ts++fs) C s₀ H₀ ex Kt) elt te)
  (hs:autoParam (∀ x,foldedSetIterable iter X.env x=pure x) aI._auto_1) :
  PE X (.ListComp elt [⟨tg,iter,ifs,0⟩] scope pos) (AJ wi g tt te ts js):=by
 intro Kt s σ H Q I h
 rw[eval_ListComp]
 refine sv KC K5 hk nc lo fh ag fr hi hg ht he hs I h none _ λD H' s' C Io q hm f=>?_
 obtain⟨m,hn⟩:=hm
 exact⟨m,hn,λh' NN=>⟨.ref D,H',Io.other f NN,rfl,q⟩⟩
def uI(wi:TI)(g:TG)(te:TE)(ts:List Str)(js:List Nat):TE:=fun σ H Q=>wi σ H λJ H1=>∀ D,H1 D=none ->
 ∃ W:Nat->Nat->St->Hp->Prop,(∃ m,W 0 m (fe ts js σ) (upd H1 D (.lst [])))/\∀ i m σ' H',W i m σ' H' ->
  (J.stop i H'/\Q (.ref D) H')\/(J.go i H'/\∃ N:St->Hp->Prop,(∀ σ'' H'',N σ'' H''->∃ m',m'<m/\W (i+1) m' σ'' H'') ∧
   ∀ x H2,J.rL i H' x H2->g x σ' H2 fun σ2 H3=>te σ2 H3 λy H4=>∃ ys,H4 D=some (.lst ys)/\ys.length<sizeLine/\N σ2 (upd H4 D (.lst (ys++[y]))))
def zh(wi:TI)(g:TG)(t:TT)(te:TE)(ts:List Str)(js:List Nat):TE:=fun σ H Q=>wi σ H λJ H1=>∀ D,H1 D=none ->
 ∃ W:Nat->Nat->St->Hp->Prop,(∃ m,W 0 m (fe ts js σ) (upd H1 D (.lst [])))/\∀ i m σ' H',W i m σ' H' ->
  (J.stop i H'/\Q (.ref D) H')\/(J.go i H'/\∃ N:St->Hp->Prop,(∀ σ'' H'',N σ'' H''->∃ m',m'<m/\W (i+1) m' σ'' H'') ∧
   ∀ x H2,J.rL i H' x H2->g x σ' H2 fun σ2 H3=>t σ2 H3 λb NP=>if b=true then te σ2 NP λy H4=>∃ ys,H4 D=some (.lst ys)/\ys.length<sizeLine/\N σ2 (upd H4 D (.lst (ys++[y]))) else N σ2 NP)
theorem Ay{cl:List (Str×Addr)}{pos:Pos}{wi:TI}{g:TG}{fs:List Str}(KC:X.calm=true)
  (K5:closureFor scope X.env=pure cl) (hk:scope.kind=.function) (nc:fF scope.names=true) (lo:gQ scope.names=true) (fh:gT cl scope.names=true) (ag:eD X cl) (fr:hZ X scope cl fs js)
  (hi:PI X tg iter wi) (hg:∀ C s₀ H₀ ex Kt,PG (oP X scope cl (ts++fs) C s₀ H₀ ex Kt) tg g) (he:∀ C s₀ H₀ ex Kt,PE (oP X scope cl (ts++fs) C s₀ H₀ ex Kt) elt te)
  (hs:autoParam (∀ x,foldedSetIterable iter X.env x=pure x) aI._auto_1):PE X (.ListComp elt [⟨tg,iter,[],0⟩] scope pos) (uI wi g te ts js) :=
 vT (tt:=none) KC K5 hk nc lo fh ag fr hi hg (λ_ _ _ _ _=>trivial) he hs
variable{c:Expr}
theorem Ax{cl:List (Str×Addr)}{pos:Pos}{wi:TI}{g:TG}{t:TT}{fs:List Str}(KC:X.calm=true)
  (K5:closureFor scope X.env=pure cl) (hk:scope.kind=.function) (nc:fF scope.names=true) (lo:gQ scope.names=true) (fh:gT cl scope.names=true) (ag:eD X cl) (fr:hZ X scope cl fs js)
  (hi:PI X tg iter wi) (hg:∀ C s₀ H₀ ex Kt,PG (oP X scope cl (ts++fs) C s₀ H₀ ex Kt) tg g) (ht:∀ C s₀ H₀ ex Kt,PT (oP X scope cl (ts++fs) C s₀ H₀ ex Kt) c t) (he:∀ C s₀ H₀ ex Kt,PE (oP X scope cl (ts++fs) C s₀ H₀ ex Kt) elt te)
  (hs:autoParam (∀ x,foldedSetIterable iter X.env x=pure x) aI._auto_1):PE X (.ListComp elt [⟨tg,iter,[c],0⟩] scope pos) (zh wi g t te ts js) :=
 vT (tt:=some t) KC K5 hk nc lo fh ag fr hi hg ht he hs
def fD(h:Heap)(b:Bool)(l:Addr)(xs:Array Value):Prop:=match b with
 | true=>h.IsList l xs
 | false=>h.IsTuple l xs
def dY(h:Heap)(b:Bool)(it l:Addr)(i:Nat):Prop:=match b with
 | true=>h.IsListIter it l i
 | false=>h.IsTupleIter it l i
variable{l:Addr}{b:Bool}{h:Heap}
theorem fD.at{xs:Array Value}(x:fD h b l xs)(k:∀ o,h.get? l=some o->h'.get? l=some o):fD h' b l xs:=by
 cases b with
 | true=>obtain⟨o,ho,r⟩:=(show h.IsList l xs from x);exact(show h'.IsList l xs from ⟨o,k o ho,r⟩)
 | false=>obtain⟨o,ho,r⟩:=(show h.IsTuple l xs from x);exact(show h'.IsTuple l xs from ⟨o,k o ho,r⟩)
variable{i:Nat}{it:Addr}
theorem dY.at(x:dY h b it l i)(k:∀ o,h.get? it=some o->h'.get? it=some o):dY h' b it l i:=by
 cases b with
 | true=>obtain⟨o,ho,r⟩:=(show h.IsListIter it l i from x);exact(show h'.IsListIter it l i from ⟨o,k o ho,r⟩)
 | false=>obtain⟨o,ho,r⟩:=(show h.IsTupleIter it l i from x);exact(show h'.IsTupleIter it l i from ⟨o,k o ho,r⟩)
theorem dY.obj(x:dY h b it l i):∃ o vs,h.get? it=some o/\o.data=.fields vs:=by
 cases b with
 | true=>obtain⟨o,ho,_,hd⟩:=(show h.IsListIter it l i from x);exact⟨o,_,ho,hd⟩
 | false=>obtain⟨o,ho,_,hd⟩:=(show h.IsTupleIter it l i from x);exact⟨o,_,ho,hd⟩
theorem fD.obj{xs:Array Value}(x:fD h b l xs):∃ o n,h.get? l=some o/\o.data=.seq xs n:=by
 cases b with
 | true=>obtain⟨o,ho,_,n,hd⟩:=(show h.IsList l xs from x);exact⟨o,n,ho,hd⟩
 | false=>obtain⟨o,ho,_,n,hd⟩:=(show h.IsTuple l xs from x);exact⟨o,n,ho,hd⟩
variable{Q:Value->Shared->Prop}{items:Array Value}
variable{ys:Array Value}{k1 k2:Nat}{l1 l2:Addr}
section
variable{E:Value->Shared->Prop}
theorem gK{t:Addr}{x:Value}(hit:s.heap.IsTupleIter it t i)
  (ht:s.heap.IsTuple t items) (hx:items[i]?=some x)
  (hQ:∀ h',h'.IsTupleIter it t (i+1)->Heap.SameBut it s.heap h'->Q x { s with heap:=h' }) :
  wpAny (model prog w) A (Builtin.SmallTypes.nextOf (.ref it)) Q E s:=by
 obtain⟨o,ho,hc,hd⟩:=id hit
 obtain⟨ol,hol,_,nl,hdl⟩:=ht
 unfold Builtin.SmallTypes.nextOf
 refine wpAny_bind (wpAny_callSpecial?_slot (name:=Str.ofString "__next__") hit.typeIs F.slot_tuple_iterator_next
  (wpAny_call_entry F.slot_tuple_iterator_next hit.typeIs F.entry_tuple_iterator_next ?_ (F.args_tuple_iterator_next_1 _)))
 show wpAny _ _ (field (.ref it) 0 >>= _) _ _ s
 refine wpAny_bind (wpAny_field ho hd (x:=.ref t) rfl ?_)
 show wpAny _ _ (if (Value.ref t==Value.none)=true then _ else _) _ _ s
 rw[if_neg (show ¬ ((Value.ref t==Value.none)=true) from Bool.false_ne_true)]
 show wpAny _ _ (field (.ref it) 1 >>= _) _ _ s
 refine wpAny_bind (wpAny_field ho hd (x:=.int i 0) rfl ?_)
 show wpAny _ _ (seqItems? (.ref t) >>= _) _ _ s
 refine wpAny_bind (wpAny_seqItems hol hdl ?_)
 simp only[Int.toNat_natCast,hx]
 refine wpAny_bind (wpAny_setField ho hd (by simp) (wpAny_pure ⟨x,rfl,wpAny_pure (hQ _ ?_ (Heap.SameBut.update ..))⟩))
 exact⟨_,Heap.get?_update_self _ ho (Obj.isFreed_of_fields (Obj.data_mapFields hd _)),(Obj.cls_mapFields ..).trans hc,by
  rw[Obj.data_mapFields hd];simp[rawInt]⟩
theorem eU{t:Addr}(hh:A.handled=none)
  (hit:s.heap.IsTupleIter it t i) (ht:s.heap.IsTuple t items) (hx:items[i]?=none)
  (hE:∀ h' e,Heap.ExtBut it s.heap h'->(∃ o,h'.get? e=some o/\o.cls=.type "StopIteration")->E (.ref e) { s with heap:=h' }) :
  wpAny (model prog w) A (Builtin.SmallTypes.nextOf (.ref it)) Q E s:=by
 obtain⟨o,ho,hc,hd⟩:=id hit
 obtain⟨ol,hol,_,nl,hdl⟩:=ht
 unfold Builtin.SmallTypes.nextOf
 refine wpAny_bind (wpAny_callSpecial?_slot (name:=Str.ofString "__next__") hit.typeIs F.slot_tuple_iterator_next
  (wpAny_call_entry F.slot_tuple_iterator_next hit.typeIs F.entry_tuple_iterator_next ?_ (F.args_tuple_iterator_next_1 _)))
 show wpAny _ _ (field (.ref it) 0 >>= _) _ _ s
 refine wpAny_bind (wpAny_field ho hd (x:=.ref t) rfl ?_)
 show wpAny _ _ (if (Value.ref t==Value.none)=true then _ else _) _ _ s
 rw[if_neg (show ¬ ((Value.ref t==Value.none)=true) from Bool.false_ne_true)]
 show wpAny _ _ (field (.ref it) 1 >>= _) _ _ s
 refine wpAny_bind (wpAny_field ho hd (x:=.int i 0) rfl ?_)
 show wpAny _ _ (seqItems? (.ref t) >>= _) _ _ s
 refine wpAny_bind (wpAny_seqItems hol hdl ?_)
 simp only[Int.toNat_natCast,hx]
 refine wpAny_bind (wpAny_rule (wpAny_bind (wpAny_setField ho hd (by simp) ?_)))
 show wpAny _ _ (newExc (.type "StopIteration") [] >>= _) _ _ _
 refine wpAny_bind ?_
 simp only[newExc,newTuple]
 refine wpAny_bind (wpAny_newObj_type ?_ (by size_fits))
 refine wpAny_bind (m:=firstArgMember _ _) (wpAny_of_eq (a:=Value.none) (by first | rfl | (simp only[firstArgMember];rfl)) ?_)
 refine wpAny_newObj_type ?_ (by size_fits)
 simp only[raiseNew]
 refine wpAny_bind (wpAny_handled ?_)
 first | rw[show A.in1.handled=none from hh] | rw[hh]
 refine wpAny_bind (wpAny_pure (wpAny_throw ?_))
 exact hE _ _ (((Heap.SameBut.update ..).extBut.push _).push _) ⟨_,Heap.get?_push_size _ rfl,rfl⟩
theorem cK{x:Value}(hit:dY s.heap b it l i)(hl:fD s.heap b l items)(hx:items[i]?=some x)
  (hQ:∀ h',dY h' b it l (i+1)->Heap.SameBut it s.heap h'->Q x { s with heap:=h' }):wpAny (model prog w) A (Builtin.SmallTypes.nextOf (.ref it)) Q E s:=by
 cases b with
 | true=>exact wpAny_nextOf_list_item hit hl hx hQ
 | false=>exact gK hit hl hx hQ
theorem gm(hh:A.handled=none)(hit:dY s.heap b it l i)(hl:fD s.heap b l items)(hx:items[i]?=none)
  (hE:∀ h' e,Heap.ExtBut it s.heap h'->(∃ o,h'.get? e=some o/\o.cls=.type "StopIteration")->E (.ref e) { s with heap:=h' }):wpAny (model prog w) A (Builtin.SmallTypes.nextOf (.ref it)) Q E s:=by
 cases b with
 | true=>exact wpAny_nextOf_list_end hh hit hl hx hE
 | false=>exact eU hh hit hl hx hE
theorem xy{b1 b2:Bool}{z TI TO i1 i2:Addr}{xs:Array Value}{x y a b:Value}(D:ZipApart z TI TO i1 i2 l1 l2)
  (hz:IsZip s.heap z TI TO .none) (Lj:IsPair s.heap TI (.ref i1) (.ref i2)) (Ll:IsPair s.heap TO a b)
  (h1:dY s.heap b1 i1 l1 k1) (h2:dY s.heap b2 i2 l2 k2) (LV:fD s.heap b1 l1 xs) (LW:fD s.heap b2 l2 ys) (hx:xs[k1]?=some x) (hy:ys[k2]?=some y)
  (hQ:∀ h',IsZip h' z TI TO (rawInt s.heap.objs.size)->IsPair h' TO x y->dY h' b1 i1 l1 (k1+1)->dY h' b2 i2 l2 (k2+1)->IsPair h' s.heap.objs.size x y->h'.objs.size=s.heap.objs.size+1 ->
   (∀ c o,c≠z->c≠TO->c≠i1->c≠i2->s.heap.get? c=some o->h'.get? c=some o)->Q (.ref s.heap.objs.size) { s with heap:=h' }) :
  wpAny (model prog w) A (Builtin.«zip.__next__» ⟨[.ref z],[]⟩) (λfin s'=>∃ v,fin=.done (.ret v)/\Q v s') E s:=by
 show wpAny _ _ (field (.ref z) 2 >>= _) _ _ _
 refine wpAny_bind (wpAny_field hz rfl (x:=.bool false) rfl ?_)
 show wpAny _ _ (field (.ref z) 3 >>= _) _ _ _
 refine wpAny_bind (wpAny_field hz rfl (x:=.ref TI) rfl ?_)
 refine wpAny_bind (wpAny_seqItems Lj rfl ?_)
 show wpAny _ _ (Builtin.SmallTypes.ownedTupleIsFree (.ref z) >>= _) _ _ _
 refine wpAny_bind ?_
 unfold Builtin.SmallTypes.ownedTupleIsFree
 refine wpAny_bind (wpAny_field hz rfl (x:=.none) rfl (wpAny_pure ?_))
 simp only[if_true]
 refine wpAny_bind (wpAny_rule ?_)
 refine wpAny_bind (wpAny_field hz rfl (x:=.ref TO) rfl ?_)
 refine wpAny_bind (wpAny_setField_rec hz (by simp) λh₁ hz1 hs1=>?_)
 replace hz1:IsZip h₁ z TI TO .ellipsis:=hz1
 refine wpAny_bind ?_
 simp only[List.zipIdx_cons,List.zipIdx_nil,List.forIn_cons,List.forIn_nil]
 refine wpAny_bind (wpAny_bind (wpAny_onRaise ?_))
 show wpAny _ _ (Builtin.SmallTypes.nextOf (.ref i1) >>= _) _ _ _
 refine wpAny_bind (cK (h1.at λo e=>hs1.extBut _ _ D.i1z e) (LV.at λo e=>hs1.extBut _ _ D.l1z e) hx λh₂ h1₂ hs2=>wpAny_pure ?_)
 have hTO2:IsPair h₂ TO a b:=hs2.extBut _ _ D.TOi1 (hs1.extBut _ _ D.TOz Ll)
 refine wpAny_bind (wpAny_seqItems hTO2 rfl ?_)
 refine wpAny_bind (wpAny_updateSeq_pair hTO2 λh₃ hTO3 hs3=>?_)
 replace hTO3:IsPair h₃ TO x b:=hTO3
 refine wpAny_bind (wpAny_letGo (wpAny_pure ?_))
 refine wpAny_bind (wpAny_bind (wpAny_onRaise ?_))
 show wpAny _ _ (Builtin.SmallTypes.nextOf (.ref i2) >>= _) _ _ _
 refine wpAny_bind (cK (h2.at λo e=>hs3.extBut _ _ D.TOi2.symm (hs2.extBut _ _ D.i12.symm (hs1.extBut _ _ D.i2z e)))
  (LW.at λo e=>hs3.extBut _ _ D.l2TO (hs2.extBut _ _ D.l2i1 (hs1.extBut _ _ D.l2z e))) hy λh₄ h2₄ hs4=>wpAny_pure ?_)
 have hTO4:IsPair h₄ TO x b:=hs4.extBut _ _ D.TOi2 hTO3
 refine wpAny_bind (wpAny_seqItems hTO4 rfl ?_)
 refine wpAny_bind (wpAny_updateSeq_pair hTO4 λh₅ hTO5 hs5=>?_)
 replace hTO5:IsPair h₅ TO x y:=hTO5
 refine wpAny_bind (wpAny_letGo (wpAny_pure (wpAny_pure ?_)))
 refine wpAny_bind (wpAny_seqItems hTO5 rfl ?_)
 refine wpAny_bind (wpAny_newTuple ?_)
 have Mb:h₅.objs.size=s.heap.objs.size:=by rw[hs5.1,hs4.1,hs3.1,hs2.1,hs1.1]
 have hz5:IsZip h₅ z TI TO .ellipsis:=hs5.extBut _ _ D.TOz.symm (hs4.extBut _ _ D.i2z.symm (hs3.extBut _ _ D.TOz.symm (hs2.extBut _ _ D.i1z.symm hz1)))
 have hk5:∀ c o,c≠z->c≠TO->c≠i1->c≠i2->s.heap.get? c=some o->h₅.get? c=some o:=λc o c1 c2 c3 c4 e =>
  hs5.extBut _ _ c2 (hs4.extBut _ _ c4 (hs3.extBut _ _ c2 (hs2.extBut _ _ c3 (hs1.extBut _ _ c1 e))))
 have h1₅:dY h₅ b1 i1 l1 (k1+1):=h1₂.at λo e=>hs5.extBut _ _ D.TOi1.symm (hs4.extBut _ _ D.i12 (hs3.extBut _ _ D.TOi1.symm e))
 have h2₅:dY h₅ b2 i2 l2 (k2+1):=h2₄.at λo e=>hs5.extBut _ _ D.TOi2.symm e
 have M0:z<h₅.objs.size:=Heap.lt_size hz5
 show wpAny _ _ (Builtin.SmallTypes.ownedTupleHandOut (.ref z) (.ref h₅.objs.size) >>= _) _ _ _
 refine wpAny_bind ?_
 unfold Builtin.SmallTypes.ownedTupleHandOut
 have hz6:IsZip (h₅.push { cls:=.type "tuple", data:=.seq #[x,y] }) z TI TO .ellipsis:=Heap.get?_push_of_some _ hz5
 refine wpAny_bind (wpAny_setField_rec hz6 (by simp) λh₇ hz7 hs7=>?_)
 replace hz7:IsZip h₇ z TI TO (rawInt h₅.objs.size):=hz7
 refine wpAny_setField_rec hz7 (by simp) λh₈ hz₈ hs8=>?_
 replace hz₈:IsZip h₈ z TI TO (rawInt h₅.objs.size):=hz₈
 have up:∀ c o,c≠z->h₅.get? c=some o->h₈.get? c=some o:=λc o c1 e=>hs8.extBut _ _ c1 (hs7.extBut _ _ c1 (Heap.get?_push_of_some _ e))
 have hT8:IsPair h₈ h₅.objs.size x y:=hs8.extBut _ _ (Nat.ne_of_gt M0) (hs7.extBut _ _ (Nat.ne_of_gt M0) (Heap.get?_push_size _ rfl))
 have hz8:h₈.objs.size=h₅.objs.size+1:=by rw[hs8.1,hs7.1,Heap.size_push]
 rw[Mb] at hz₈ hT8 hz8
 refine wpAny_pure ⟨_,rfl,?_⟩
 show Q (.ref h₅.objs.size) _
 rw[Mb]
 exact hQ h₈ hz₈ (up _ _ D.TOz hTO5) (h1₅.at λo e=>up _ o D.i1z e) (h2₅.at λo e=>up _ o D.i2z e) hT8 hz8 λc o c1 c2 c3 c4 e=>up c o c1 (hk5 c o c1 c2 c3 c4 e)
theorem zU{b1 b2:Bool}{z TI TO i1 i2:Addr}{xs:Array Value}{a b:Value}{Q:Fin->Shared->Prop}(hh:A.handled=none)(D:ZipApart z TI TO i1 i2 l1 l2)
  (hz:IsZip s.heap z TI TO .none) (Lj:IsPair s.heap TI (.ref i1) (.ref i2)) (Ll:IsPair s.heap TO a b)
  (h1:dY s.heap b1 i1 l1 k1) (h2:dY s.heap b2 i2 l2 k2) (LV:fD s.heap b1 l1 xs) (LW:fD s.heap b2 l2 ys) (Ma:xs[k1]?=none\/ys[k2]?=none)
  (hE:∀ h' e,(∀ c o,c≠z->c≠TO->c≠i1->c≠i2->s.heap.get? c=some o->h'.get? c=some o)->(∃ o,h'.get? e=some o/\o.cls=.type "StopIteration")->E (.ref e) { s with heap:=h' }) :
  wpAny (model prog w) A (Builtin.«zip.__next__» ⟨[.ref z],[]⟩) Q E s:=by
 show wpAny _ _ (field (.ref z) 2 >>= _) _ _ _
 refine wpAny_bind (wpAny_field hz rfl (x:=.bool false) rfl ?_)
 show wpAny _ _ (field (.ref z) 3 >>= _) _ _ _
 refine wpAny_bind (wpAny_field hz rfl (x:=.ref TI) rfl ?_)
 refine wpAny_bind (wpAny_seqItems Lj rfl ?_)
 show wpAny _ _ (Builtin.SmallTypes.ownedTupleIsFree (.ref z) >>= _) _ _ _
 refine wpAny_bind ?_
 unfold Builtin.SmallTypes.ownedTupleIsFree
 refine wpAny_bind (wpAny_field hz rfl (x:=.none) rfl (wpAny_pure ?_))
 simp only[if_true]
 refine wpAny_bind (wpAny_rule ?_)
 refine wpAny_bind (wpAny_field hz rfl (x:=.ref TO) rfl ?_)
 refine wpAny_bind (wpAny_setField_rec hz (by simp) λh₁ hz1 hs1=>?_)
 replace hz1:IsZip h₁ z TI TO .ellipsis:=hz1
 refine wpAny_bind ?_
 simp only[List.zipIdx_cons,List.zipIdx_nil,List.forIn_cons,List.forIn_nil]
 refine wpAny_bind (wpAny_bind (wpAny_onRaise ?_))
 show wpAny _ _ (Builtin.SmallTypes.nextOf (.ref i1) >>= _) _ _ _
 cases hx:xs[k1]? with
 | none =>
  refine wpAny_bind (gm hh (h1.at λo e=>hs1.extBut _ _ D.i1z e) (LV.at λo e=>hs1.extBut _ _ D.l1z e) hx λh₂ e hs2 he=>?_)
  obtain⟨oe,Mg,MB⟩:=he
  have hz2:IsZip h₂ z TI TO .ellipsis:=hs2 _ _ D.i1z.symm hz1
  have Nk:e≠z:=λx=>by subst x;rw[hz2] at Mg;cases Mg;simp at MB
  refine wpAny_setField_rec hz2 (by simp) λh₃ _ hs3=>hE h₃ e (λc o c1 _ c3 _ x=>hs3.extBut _ _ c1 (hs2 _ _ c3 (hs1.extBut _ _ c1 x))) ⟨oe,hs3.extBut _ _ Nk Mg,MB⟩
 | some x =>
  have hy:ys[k2]?=none:=by rcases Ma with h | h;rw[hx] at h;cases h;exact h
  refine wpAny_bind (cK (h1.at λo e=>hs1.extBut _ _ D.i1z e) (LV.at λo e=>hs1.extBut _ _ D.l1z e) hx λh₂ h1₂ hs2=>wpAny_pure ?_)
  have hTO2:IsPair h₂ TO a b:=hs2.extBut _ _ D.TOi1 (hs1.extBut _ _ D.TOz Ll)
  refine wpAny_bind (wpAny_seqItems hTO2 rfl ?_)
  refine wpAny_bind (wpAny_updateSeq_pair hTO2 λh₃ hTO3 hs3=>?_)
  refine wpAny_bind (wpAny_letGo (wpAny_pure ?_))
  refine wpAny_bind (wpAny_bind (wpAny_onRaise ?_))
  show wpAny _ _ (Builtin.SmallTypes.nextOf (.ref i2) >>= _) _ _ _
  refine wpAny_bind (gm hh (h2.at λo e=>hs3.extBut _ _ D.TOi2.symm (hs2.extBut _ _ D.i12.symm (hs1.extBut _ _ D.i2z e)))
   (LW.at λo e=>hs3.extBut _ _ D.l2TO (hs2.extBut _ _ D.l2i1 (hs1.extBut _ _ D.l2z e))) hy λh₄ e hs4 he=>?_)
  obtain⟨oe,Mg,MB⟩:=he
  have hz4:IsZip h₄ z TI TO .ellipsis:=hs4 _ _ D.i2z.symm (hs3.extBut _ _ D.TOz.symm (hs2.extBut _ _ D.i1z.symm hz1))
  have Nk:e≠z:=λx=>by subst x;rw[hz4] at Mg;cases Mg;simp at MB
  refine wpAny_setField_rec hz4 (by simp) λh₅ _ hs5=>hE h₅ e (λc o c1 c2 c3 c4 x=>hs5.extBut _ _ c1 (hs4 _ _ c4 (hs3.extBut _ _ c2 (hs2.extBut _ _ c3 (hs1.extBut _ _ c1 x))))) ⟨oe,hs5.extBut _ _ Nk Mg,MB⟩
theorem sI(hl:fD s.heap b l items)
  (h:∀ o,o=({ cls:=.type (if b then "list_iterator" else "tuple_iterator"),data:=.fields #[.ref l,.int 0 0] }:Obj)->Q (.ref s.heap.objs.size) { s with heap:=s.heap.push o }):wpAny (model prog w) A (pyIter (.ref l)) Q E s:=by
 cases b with
 | true=>exact wpAny_pyIter_list hl (h _ rfl)
 | false=>exact wpAny_pyIter_tuple hl (h _ rfl)
theorem k_{b1 b2:Bool}{z TI TO i1 i2:Addr}{xs:Array Value}{x y a b:Value}{Q:Option Value->Shared->Prop}(D:ZipApart z TI TO i1 i2 l1 l2)
  (hz:IsZip s.heap z TI TO .none) (Lj:IsPair s.heap TI (.ref i1) (.ref i2)) (Ll:IsPair s.heap TO a b)
  (h1:dY s.heap b1 i1 l1 k1) (h2:dY s.heap b2 i2 l2 k2) (LV:fD s.heap b1 l1 xs) (LW:fD s.heap b2 l2 ys) (hx:xs[k1]?=some x) (hy:ys[k2]?=some y)
  (hQ:∀ h',IsZip h' z TI TO (rawInt s.heap.objs.size)->IsPair h' TO x y->dY h' b1 i1 l1 (k1+1)->dY h' b2 i2 l2 (k2+1)->IsPair h' s.heap.objs.size x y->h'.objs.size=s.heap.objs.size+1 ->
   (∀ c o,c≠z->c≠TO->c≠i1->c≠i2->s.heap.get? c=some o->h'.get? c=some o)->Q (some (.ref s.heap.objs.size)) { s with heap:=h' }) :
  wpAny (model prog w) A (pyNext (.ref z)) Q E s:=by
 have hT:s.TypeIs (.ref z) "zip" := ⟨_,hz,rfl⟩
 unfold pyNext
 exact wpAny_bind (wpAny_attempt (wpAny_callSpecial?_slot (name:=Str.ofString "__next__") hT F.slot_zip_next
  (wpAny_call_entry F.slot_zip_next hT F.entry_zip_next
   (xy D hz Lj Ll h1 h2 LV LW hx hy λh' a1 a2 a3 a4 a5 a6 a7=>wpAny_pure (hQ h' a1 a2 a3 a4 a5 a6 a7)) (F.args_zip_next_1 _))))
theorem mn{b1 b2:Bool}{z TI TO i1 i2:Addr}{xs:Array Value}{a b:Value}{Q:Option Value->Shared->Prop}(hh:A.handled=none)(D:ZipApart z TI TO i1 i2 l1 l2)
  (hz:IsZip s.heap z TI TO .none) (Lj:IsPair s.heap TI (.ref i1) (.ref i2)) (Ll:IsPair s.heap TO a b)
  (h1:dY s.heap b1 i1 l1 k1) (h2:dY s.heap b2 i2 l2 k2) (LV:fD s.heap b1 l1 xs) (LW:fD s.heap b2 l2 ys) (Ma:xs[k1]?=none\/ys[k2]?=none)
  (hQ:∀ h',(∀ c o,c≠z->c≠TO->c≠i1->c≠i2->s.heap.get? c=some o->h'.get? c=some o)->Q none { s with heap:=h' }):wpAny (model prog w) A (pyNext (.ref z)) Q E s:=by
 have hT:s.TypeIs (.ref z) "zip" := ⟨_,hz,rfl⟩
 unfold pyNext
 refine wpAny_bind (wpAny_attempt (wpAny_callSpecial?_slot (name:=Str.ofString "__next__") hT F.slot_zip_next
  (wpAny_call_entry F.slot_zip_next hT F.entry_zip_next (zU hh D hz Lj Ll h1 h2 LV LW Ma λh' e hk he=>?_) (F.args_zip_next_1 _))))
 obtain⟨o,ho,hc⟩:=he
 refine wpAny_bind (wpAny_isInstance (T := "StopIteration") (b:=true) ⟨o,ho,hc⟩ isSubtype_stop ?_)
 exact wpAny_pure (hQ _ hk)
abbrev CL(b:Bool)(l:Addr):Obj:={ cls:=.type (if b then "list_iterator" else "tuple_iterator"),data:=.fields #[.ref l,.int 0 0] }
abbrev EV(h:Heap)(b1:Bool)(l1:Addr):Heap:=h.push (CL b1 l1)
abbrev Ds(h:Heap)(b1 b2:Bool)(l1 l2:Addr):Heap:=(EV h b1 l1).push (CL b2 l2)
abbrev Il(h:Heap)(b1 b2:Bool)(l1 l2:Addr):Heap:=(Ds h b1 b2 l1 l2).push { cls:=.type "tuple", data:=.seq #[.ref h.objs.size,.ref (EV h b1 l1).objs.size] }
abbrev Ir(h:Heap)(b1 b2:Bool)(l1 l2:Addr):Heap:=(Il h b1 b2 l1 l2).push { cls:=.type "tuple", data:=.seq #[.none,.none] }
abbrev FE(h:Heap)(b1 b2:Bool)(l1 l2:Addr):Heap:=(Ir h b1 b2 l1 l2).push { cls:=.type "zip", data:=.fields #[.none,.bool false,.bool false,.ref (Ds h b1 b2 l1 l2).objs.size,.ref (Il h b1 b2 l1 l2).objs.size] }
end
theorem fu{E:Value->Shared->Prop}(hl:fD s.heap b l items)
  (h:Q (.ref s.heap.objs.size) { s with heap:=s.heap.push (CL b l) }):wpAny (model prog w) A (pyIter (.ref l)) Q E s:=sI hl λo e=>by subst e;exact h
theorem fD.push{h:Heap}{b:Bool}{l:Addr}{xs:Array Value}(x:fD h b l xs)(o:Obj):fD (h.push o) b l xs:=x.at λ_ e=>Heap.get?_push_of_some _ e
theorem nF(b1 b2:Bool)(l1 l2:Addr)(xs ys:Array Value) :
  Meets (Builtin.«zip.__new__» ⟨[.type "zip", .ref l1,.ref l2],[]⟩) (λ_ R s=>fD s.heap b1 l1 xs/\fD s.heap b2 l2 ys ∧
   R (.ok (.ret (.ref (Ir s.heap b1 b2 l1 l2).objs.size))) { s with heap:=FE s.heap b1 b2 l1 l2 }) :=
 .of_wp λprog w A R s h=>by
  obtain⟨hp,g,d,tk,os⟩:=s;obtain⟨LV,LW,h⟩:=h
  have N7:=sub_zip
  have hL1:fD (Shared.heap ⟨hp,g,d,tk,os⟩) b1 l1 xs:=LV
  have hL2:fD (Shared.heap ⟨hp.push (CL b1 l1),g,d,tk,os⟩) b2 l2 ys:=fD.push LW _
  wp_walk using fu hL1,fu hL2
  exact⟨_,rfl,h⟩
section
variable{E:Value->Shared->Prop}
theorem dY.new(h:Heap)(b:Bool)(it l:Addr)(e:h.get? it=some (CL b l)):dY h b it l 0:=by
 cases b with
 | true=>exact⟨_,e,rfl,rfl⟩
 | false=>exact⟨_,e,rfl,rfl⟩
theorem wD{b1 b2:Bool}{xs:Array Value}(LV:fD s.heap b1 l1 xs)(LW:fD s.heap b2 l2 ys)
  (h:∀ h',IsZip h' (s.heap.objs.size+4) (s.heap.objs.size+2) (s.heap.objs.size+3) .none->IsPair h' (s.heap.objs.size+2) (.ref s.heap.objs.size) (.ref (s.heap.objs.size+1)) ->
   IsPair h' (s.heap.objs.size+3) .none .none->dY h' b1 s.heap.objs.size l1 0->dY h' b2 (s.heap.objs.size+1) l2 0->h'.objs.size=s.heap.objs.size+5 ->
   (∀ c o,s.heap.get? c=some o->h'.get? c=some o)->Q (.ref (s.heap.objs.size+4)) { s with heap:=h' }) :
  wpAny (model prog w) A (call (.type "zip") [.ref l1,.ref l2]) Q E s:=by
 refine callType_new F.called_zip (by decide) (F.typeCall_zip_2 _ _) (F.newCall_zip_2 _ _) (λobj=>F.args_object_init_3 obj _ _) F.entry_zip_new
  (nF b1 b2 l1 l2 xs ys) ⟨LV,LW,?_⟩
 have z1:(EV s.heap b1 l1).objs.size=s.heap.objs.size+1:=Heap.size_push ..
 have z2:(Ds s.heap b1 b2 l1 l2).objs.size=s.heap.objs.size+2:=by rw[Heap.size_push,z1]
 have z3:(Il s.heap b1 b2 l1 l2).objs.size=s.heap.objs.size+3:=by rw[Heap.size_push,z2]
 have z4:(Ir s.heap b1 b2 l1 l2).objs.size=s.heap.objs.size+4:=by rw[Heap.size_push,z3]
 have z5:(FE s.heap b1 b2 l1 l2).objs.size=s.heap.objs.size+5:=by rw[Heap.size_push,z4]
 have g5:(FE s.heap b1 b2 l1 l2).get? (Ir s.heap b1 b2 l1 l2).objs.size=some _:=Heap.get?_push_size _ rfl
 have g4:(FE s.heap b1 b2 l1 l2).get? (Il s.heap b1 b2 l1 l2).objs.size=some _:=Heap.get?_push_of_some _ (Heap.get?_push_size _ rfl)
 have g3:(FE s.heap b1 b2 l1 l2).get? (Ds s.heap b1 b2 l1 l2).objs.size=some _:=Heap.get?_push_of_some _ (Heap.get?_push_of_some _ (Heap.get?_push_size _ rfl))
 have g2:(FE s.heap b1 b2 l1 l2).get? (EV s.heap b1 l1).objs.size=some _:=Heap.get?_push_of_some _ (Heap.get?_push_of_some _ (Heap.get?_push_of_some _ (Heap.get?_push_size _ rfl)))
 have g1:(FE s.heap b1 b2 l1 l2).get? s.heap.objs.size=some _:=Heap.get?_push_of_some _ (Heap.get?_push_of_some _ (Heap.get?_push_of_some _ (Heap.get?_push_of_some _ (Heap.get?_push_size _ rfl))))
 show _/\_
 rw[z2,z3,z4] at g5
 rw[z1,z2] at g3
 rw[z3] at g4
 rw[z1] at g2
 rw[z4]
 exact⟨⟨_,g5,rfl⟩,h _ g5 g3 g4 (dY.new _ b1 _ _ g1) (dY.new _ b2 _ _ g2) z5 λc o x =>
  Heap.get?_push_of_some _ (Heap.get?_push_of_some _ (Heap.get?_push_of_some _ (Heap.get?_push_of_some _ (Heap.get?_push_of_some _ x))))⟩
end
def jT(K:PySem.W.Frag)(H:Hp)(b:Bool)(a:Addr)(xs:List V):Prop:=match b with
 | true=>f9 K H a xs
 | false=>gu K H a xs
variable{tl:TA}
theorem Inv.row{xs:List V}(I:Inv X Kt σ H s)(h:jT X.K H b a xs):∃ Kv:List Value,Vals xs Kv/\fD s.heap b a Kv.toArray/\xs.length<=sizeLine:=by
 cases b with
 | true =>
  obtain⟨Kv,r,p,z⟩:=I.list h
  exact⟨Kv,r,p.isList,z⟩
 | false =>
  obtain⟨Kv,r,p,z⟩:=I.tuple h
  exact⟨Kv,r,p,z⟩
theorem Inv.kG{xs ys:List V}(I:Inv X Kt σ H s)(h:jT X.K H b a xs)(h':jT X.K H b a ys):xs=ys:=by
 cases b with
 | true=>exact I.nY h h'
 | false=>exact I.lE h h'
theorem Inv.vZ(I:Inv X Kt σ H s)(k:∀ b u,b ∉ ch->s.heap.get? b=some u->h'.get? b=some u)
  (Mo:∀ b∈ch,kC X Kt H b):Inv X Kt σ H { s with heap:=h',toks:=t' }:=by
 have M6:∀ b u,H b=some u->b ∉ ch:=λb u e z=>by rw[(Mo b z).1] at e;cases e
 refine I.step (g':=s.gens) (d':=s.drawn) (ch:=ch) (λb hb=>?_) (λb u _ _ hc e _=>k b u hc e) (λb u _ _ hc e _=>⟨u.slots,k b u hc e⟩)
  (λb u _ e n=>n) (λb u hc e=>⟨u,k b u hc e⟩) (λb xs e=>e) (λb ob u e=>e) (λb ps e=>⟨#[],by rw[e];simp⟩) (λm hm=>?_) (λb u e=>?_) I.bare
 ·obtain⟨_,f1,_,f3,f4,f5⟩:=Mo b hb
  exact⟨f3,f1,f4,f5⟩
 ·obtain⟨ob,es,ep,ho,r⟩:=hm
  exact⟨ob,es,ep,k _ ob (λz=>(Mo _ z).2.1 rfl) ho,r⟩
 ·refine(I.bC b u e).ma (λc v hc q=>k c v ?_ q) (λc q=>q) λc ys q=>q
  rcases hc with z' | z'
  ·rw[z'];exact M6 b u e
  ·exact M6 c _ z'
theorem cz{c:Addr}{xs:List V}(I:Inv X Kt σ H s)(h:jT X.K H b a xs)(f:kC X Kt H c):a≠c:=by
 have rd:∀ {u:HO},Rd H a u->a≠c:=λ{u} r=>by
  rcases r with r | ⟨o,r⟩
  ·exact bK r f.1
  ·exact bK r f.1
 have mk:∀ {o:Obj},X.K.lookup a=some o->a≠c:=λ{o} e z=>by
  subst z
  have e':=I.ok.mod.Dy _ _ e
  rcases f.2.2.2.1 with q | q
  ·exact I.ok.yf _ _ e' q
  ·exact absurd (Nat.lt_of_lt_of_le (Heap.lt_size (I.ok.bs _ _ e').1) q) (Nat.lt_irrefl _)
 cases b with
 | true =>
  rcases(show f9 X.K H a xs from h) with r | ⟨o,Kv,n,e,_⟩
  ·exact rd r
  ·exact mk e
 | false =>
  rcases(show gu X.K H a xs from h) with r | ⟨o,Kv,n,e,_⟩
  ·exact rd r
  ·exact mk e
def IP (K : PySem.W.Frag) (b1 b2 : Bool) (a1 a2 : Addr) : It :=
  ⟨λi H => ∃ xs ys x y, jT K H b1 a1 xs /\ jT K H b2 a2 ys /\ xs[i]? = some x /\ ys[i]? = some y,
   λi H v H' => ∃ p x y, H p = none /\ v = .ref p /\ H' = upd H p (.tup [x, y]) /\ (∀ xs, jT K H b1 a1 xs -> xs[i]? = some x) /\ (∀ ys, jT K H b2 a2 ys -> ys[i]? = some y),
   λi H => ∃ xs ys, jT K H b1 a1 xs /\ jT K H b2 a2 ys /\ (xs.length <= i \/ ys.length <= i)⟩
theorem yN{K:PySem.W.Frag}{tp:Pos}(b1 b2:Bool)(a1 a2 z TI TO i1 i2:Addr)(D:TI≠z/\TO≠z/\i1≠z/\i2≠z/\TI≠TO/\TI≠i1/\TI≠i2/\TO≠i1/\TO≠i2/\i1≠i2) :
  Turn P w K (.Tuple elts x1 tp) (IP K b1 b2 a1 a2) [z,TO,i1,i2,TI] z (λi h=>IsZip h z TI TO .none/\IsPair h TI (.ref i1) (.ref i2)/\(∃ a b,IsPair h TO a b)/\dY h b1 i1 a1 i/\dY h b2 i2 a2 i) where
 mem:=by simp
 obj:=λi h st b hb=>by
  obtain⟨hz,Lj,⟨a,c,Ll⟩,h1,h2⟩:=st
  simp only[List.mem_cons,List.mem_nil_iff,or_false] at hb
  rcases hb with q | q | q | q | q <;> subst q
  ·exact⟨_,hz,λv z=>by cases z⟩
  ·exact⟨_,Ll,λv z=>by cases z⟩
  ·obtain⟨o,vs,e,d⟩:=h1.obj
   exact⟨o,e,λv z=>by rw[d] at z;cases z⟩
  ·obtain⟨o,vs,e,d⟩:=h2.obj
   exact⟨o,e,λv z=>by rw[d] at z;cases z⟩
  ·exact⟨_,Lj,λv z=>by cases z⟩
 keep:=λi h h' st k=>by
  obtain⟨hz,Lj,⟨a,c,Ll⟩,h1,h2⟩:=st
  exact⟨k z (by simp) _ hz,k TI (by simp) _ Lj,⟨a,c,k TO (by simp) _ Ll⟩,h1.at λo e=>k i1 (by simp) o e,h2.at λo e=>k i2 (by simp) o e⟩
 item:=by
  intro X hP hw hK hc i Kt s σ H E I hf st hg
  subst hP hw hK
  obtain⟨xs,ys,x,y,Lk,Ld,hx,hy⟩:=hg
  obtain⟨M1,Nn,p1,Oa⟩:=I.row Lk
  obtain⟨Mi,Np,p2,Ob⟩:=I.row Ld
  obtain⟨u1,hu1,ru1⟩:=Nn.get hx
  obtain⟨u2,hu2,ru2⟩:=Np.get hy
  obtain⟨hz,Lj,⟨a,c,Ll⟩,h1,h2⟩:=st
  obtain⟨d1,d2,d3,d4,d5,d6,d7,d8,d9,d10⟩:=D
  obtain⟨o1,n1,e1,dd1⟩:=p1.obj
  obtain⟨o2,n2,e2,NQ⟩:=p2.obj
  obtain⟨oi1,vs1,NS,di1⟩:=h1.obj
  obtain⟨oi2,vs2,NT,di2⟩:=h2.obj
  have D:ZipApart z TI TO i1 i2 a1 a2:=⟨d1,d2,d3,d4,d5,d6,d7,d8,d9,d10,cz I Lk (hf z (by simp)),cz I Lk (hf TO (by simp)),cz I Lk (hf i1 (by simp)),cz I Lk (hf i2 (by simp)),
   cz I Ld (hf z (by simp)),cz I Ld (hf TO (by simp)),cz I Ld (hf i1 (by simp)),cz I Ld (hf i2 (by simp))⟩
  refine k_ D hz Lj Ll h1 h2 p1 p2 (x:=u1) (y:=u2) (by simpa using hu1) (by simpa using hu2) λh' g1 g2 g3 g4 g5 g6 g7=>⟨_,rfl,?_⟩
  refine wpAny_letOwnedTupleGo_zip (s:={ s with heap:=h' }) g1 λh3 hz3 MF=>?_
  have LX:H s.heap.objs.size=none:=I.bC.fresh (Nat.le_refl _)
  have lt:∀ {c:Addr} {o:Obj},s.heap.get? c=some o->c≠s.heap.objs.size:=λe=>Nat.ne_of_lt (Heap.lt_size e)
  have M4:∀ b o,b ∉ [z,TO,i1,i2,TI]->s.heap.get? b=some o->h3.get? b=some o:=λb o hb q=>by
   simp only[List.mem_cons,List.mem_nil_iff,or_false,not_or] at hb
   exact(MF.2 b hb.1).trans (g7 b o hb.1 hb.2.1 hb.2.2.1 hb.2.2.2.1 q)
  have hT3:h3.get? s.heap.objs.size=some { cls:=.type "tuple", data:=.seq #[u1,u2] }:=(MF.2 _ (lt hz).symm).trans g5
  have I3:Inv X Kt σ (upd H s.heap.objs.size (.tup [x,y])) { s with heap:=h3,toks:=s.toks } :=
   I.ju (ch:=[z,TO,i1,i2,TI]) M4 hf (Nat.le_refl _) (λb hb=>by
    simp only[List.mem_cons,List.mem_nil_iff,or_false] at hb
    rcases hb with q | q | q | q | q <;> subst q
    ·exact⟨_,hz⟩
    ·exact⟨_,Ll⟩
    ·exact⟨_,NS⟩
    ·exact⟨_,NT⟩
    ·exact⟨_,Lj⟩)
    ⟨by show 2<=sizeLine;decide,[u1,u2],.cons ru1 (.cons ru2 .nil),⟨_,hT3,rfl,_,rfl⟩⟩
  refine⟨.ref s.heap.objs.size,_,I3,rfl,⟨_,x,y,LX,rfl,rfl,λzs Nm=>by rw[I.kG Nm Lk];exact hx,λzs Nm=>by rw[I.kG Nm Ld];exact hy⟩,
   ⟨hz3,(MF.2 TI d1).trans (g7 TI _ d1 d5 d6 d7 Lj),⟨_,_,(MF.2 TO d2).trans g2⟩,g3.at λo e=>(MF.2 i1 d3).trans e,g4.at λo e=>(MF.2 i2 d4).trans e⟩,λb hb=>?_⟩
  have nb:b≠s.heap.objs.size:=by
   simp only[List.mem_cons,List.mem_nil_iff,or_false] at hb
   rcases hb with q | q | q | q | q <;> subst q
   ·exact lt hz
   ·exact lt Ll
   ·exact lt NS
   ·exact lt NT
   ·exact lt Lj
  rw[ak nb]
  exact(hf b hb).1
 done:=by
  intro X hP hw hK hc i Kt s σ H E I hf st hg
  subst hP hw hK
  obtain⟨xs,ys,Lk,Ld,Ma⟩:=hg
  obtain⟨M1,Nn,p1,Oa⟩:=I.row Lk
  obtain⟨Mi,Np,p2,Ob⟩:=I.row Ld
  obtain⟨hz,Lj,⟨a,c,Ll⟩,h1,h2⟩:=st
  obtain⟨d1,d2,d3,d4,d5,d6,d7,d8,d9,d10⟩:=D
  have D:ZipApart z TI TO i1 i2 a1 a2:=⟨d1,d2,d3,d4,d5,d6,d7,d8,d9,d10,cz I Lk (hf z (by simp)),cz I Lk (hf TO (by simp)),cz I Lk (hf i1 (by simp)),cz I Lk (hf i2 (by simp)),
   cz I Ld (hf z (by simp)),cz I Ld (hf TO (by simp)),cz I Ld (hf i1 (by simp)),cz I Ld (hf i2 (by simp))⟩
  have l1:=Nn.length
  have l2:=Np.length
  refine mn (I.ok.hd hc) D hz Lj Ll h1 h2 p1 p2 ?_ λh' k=>⟨rfl,?_⟩
  ·rcases Ma with q | q
   ·exact .inl (by simp;omega)
   ·exact .inr (by simp;omega)
  ·exact I.vZ (t':=s.toks) (ch:=[z,TO,i1,i2,TI]) (λb u hb e=>by
    simp only[List.mem_cons,List.mem_nil_iff,or_false,not_or] at hb
    exact k b u hb.1 hb.2.1 hb.2.2.1 hb.2.2.2.1 e) hf
 self:=λ_ _ _ _ _ st h=>by
  obtain⟨hz,_⟩:=st
  exact wpAny_pyIter_zip hz h
theorem Ec(n:Nat):n+2≠n+4/\n+3≠n+4/\n≠n+4/\n+1≠n+4/\n+2≠n+3/\n+2≠n/\n+2≠n+1/\n+3≠n/\n+3≠n+1/\n≠n+1:=by
 refine⟨?_,?_,?_,?_,?_,?_,?_,?_,?_,?_⟩ <;> omega
def Hn(K:PySem.W.Frag)(tl:TA):TI:=fun σ H R=>tl σ H λvs H1=>∃ b1 b2 a1 a2,vs=[.ref a1,.ref a2]/\(∃ xs,jT K H1 b1 a1 xs)/\(∃ ys,jT K H1 b2 a2 ys)/\R (IP K b1 b2 a1 a2) H1
theorem lq{tp:Pos}{l1 l2:Expr}{p pos:Pos}(hg:Gl X "zip")(hm:X.mg "zip" = none)(hl:PA X [l1,l2] tl)(hs:autoParam (starEach [l1,l2] X.env=[(false,eval l1 X.env),(false,eval l2 X.env)]) aR._auto_1)(LY:autoParam (starEach [l2] X.env=[(false,eval l2 X.env)]) aR._auto_1) :
  PI X (.Tuple elts x1 tp) (.Call (.Name "zip" p) [l1,l2] [] pos) (Hn X.K tl):=by
 intro Kt s σ H R I h
 refine Call_ (ix I hg hm PyProof.Rows.boot_zip (PyProof.Rows.callWith_type1 (cJ (hl pos Kt s σ H _ I h) λus s1 ⟨vs,H1,I1,r1,q1⟩=>?_) (by rw[hs,LY]) (by rw[LY];rfl)))
 obtain⟨b1,b2,a1,a2,e,⟨xs,Lk⟩,⟨ys,Ld⟩,q⟩:=q1
 subst e
 cases r1 with
 | cons r rr =>
  cases rr with
  | cons r' rr =>
   cases rr
   cases (show _=Value.ref a1 from r)
   cases (show _=Value.ref a2 from r')
   obtain⟨M1,Nn,p1,Oa⟩:=I1.row Lk
   obtain⟨Mi,Np,p2,Ob⟩:=I1.row Ld
   refine wD p1 p2 λh' g1 g2 g3 g4 g5 g6 g7=>?_
   have I2:Inv X Kt σ H1 { s1 with heap:=h' }:=I1.kept (t':=s1.toks) g7
   refine wpAny_pyIter_zip (s:={ s1 with heap:=h' }) g1 ?_
   refine⟨s1.heap.objs.size+4,[s1.heap.objs.size+4,s1.heap.objs.size+3,s1.heap.objs.size,s1.heap.objs.size+1,s1.heap.objs.size+2],_,_,H1,rfl,I2,
    yN b1 b2 a1 a2 _ _ _ _ _ (Ec s1.heap.objs.size),⟨g1,g2,⟨_,_,g3⟩,g4,g5⟩,λb hb=>?_,q⟩
   have hle:s1.heap.objs.size<=b:=by
    simp only[List.mem_cons,List.mem_nil_iff,or_false] at hb
    rcases hb with q | q | q | q | q
    ·rw[q];exact Nat.le_add_right _ 4
    ·rw[q];exact Nat.le_add_right _ 3
    ·rw[q];exact Nat.le_refl _
    ·rw[q];exact Nat.le_add_right _ 1
    ·rw[q];exact Nat.le_add_right _ 2
   exact I1.qY hle (I1.bC.fresh hle)
def JM(K:PySem.W.Frag)(b:Bool)(a:Addr):It:=match b with
 | true=>J2 K a
 | false=>JZ K a
def G2(K:PySem.W.Frag)(tl:TE):TI:=fun σ H R=>tl σ H λx H1=>∃ b a,x=.ref a/\(∃ xs,jT K H1 b a xs)/\R (JM K b a) H1
theorem eE{l:Expr}{tl:TE}(hl:PE X l tl):PI X tg l (G2 X.K tl):=by
 intro Kt s σ H R I h
 refine cJ (hl Kt s σ H _ I h) λv s1 ⟨x,H1,I1,r1,q1⟩=>?_
 obtain⟨b,a,e,⟨xs,hq⟩,q⟩:=q1
 subst e
 cases r1
 cases b with
 | true =>
  obtain⟨Kv,rv,p,hz⟩:=I1.list hq
  refine wpAny_pyIter_list p.isList ?_
  refine⟨s1.heap.objs.size,[s1.heap.objs.size],_,_,H1,rfl,I1.kept (t':=s1.toks) λb o e=>Heap.get?_push_of_some _ e,wR a _,⟨_,Heap.get?_push_size _ rfl,rfl,rfl⟩,λb hb=>?_,q⟩
  have e:b=s1.heap.objs.size:=by simpa using hb
  subst e
  exact I1.qY (Nat.le_refl _) (I1.bC.fresh (Nat.le_refl _))
 | false =>
  obtain⟨Kv,rv,p,hz⟩:=I1.tuple hq
  refine wpAny_pyIter_tuple (show s1.heap.IsTuple a Kv.toArray from p) ?_
  refine⟨s1.heap.objs.size,[s1.heap.objs.size],_,_,H1,rfl,I1.kept (t':=s1.toks) λb o e=>Heap.get?_push_of_some _ e,uD a _,⟨_,Heap.get?_push_size _ rfl,rfl,rfl⟩,λb hb=>?_,q⟩
  have e:b=s1.heap.objs.size:=by simpa using hb
  subst e
  exact I1.qY (Nat.le_refl _) (I1.bC.fresh (Nat.le_refl _))
theorem w8(hc:X.calm=true):dz X (.builtin "sum") (λxs H Q=>∃ (a:Addr) (ns:List Int),xs=[.ref a]/\f9 X.K H a (ns.map V.int)/\Q (.int ns.sum) H):=by
 intro Kt s σ H xs us Q I r h
 obtain⟨a,ns,rfl,hq,q⟩:=h
 cases r with
 | cons r1 r2 =>
  cases r2
  cases (show _=Value.ref a from r1)
  obtain⟨Kv,rv,p,hz⟩:=I.list hq
  have hi:=intsAre_of rv
  obtain⟨xs',e⟩:=hi.allInts.items
  have e3:numsOf (intItems xs').toList=ns:=by rw[← e];exact hi.numsOf
  rw[nums_intItems] at e3
  refine sum_intListG (I.ok.hd hc) (by rw[← e];exact p.isList) λh' tk t' hk=>⟨.int ns.sum,H,I.kept (t':=tk) hk,⟨t',?_⟩,q⟩
  rw[preSum_eq,List.take_of_length_le (by simp),e3]
structure h9 (K:PySem.W.Frag) (C:Addr):Prop where
 ga:PySem.W.findIn K (.ref C) "__getattribute__" = some (some (.builtin "BaseException.__getattribute__"))
 gn:PySem.W.findIn K (.ref C) "__getattr__" = some none
 hd:PySem.W.hasDictIn K C=true
 sa:PySem.W.findIn K (.ref C) "__setattr__" = some (some (.builtin "object.__setattr__"))
 mb:PySem.W.mroIn K C (.type "BaseException")=some true
 mo:PySem.W.mroIn K C (.type "object")=some true
 ca:PySem.W.findIn K (.ref C) "__class__" = some (some (.builtin "object.__class__"))
 cg:PySem.W.specialIn K (.builtin "object.__class__") "__get__" = some (some (.builtin "getset_descriptor.__get__"))
 ct:PySem.W.takesIn K (.builtin "object.__class__")=some true
variable{name:Str}{ox:Obj}
section
variable{E:Value->Shared->Prop}{K:PySem.W.Frag}{x:Addr}{od:Option Obj}
theorem zx:builtinKind "BaseException.__getattribute__" = some .slot:=by decide +kernel
theorem wZ:splitId "BaseException.__getattribute__" = some ("BaseException", "__getattribute__"):=by decide +kernel
theorem Fq{tk:Tok}{fill expr:Bool}(c:h9 K C)(X:K.In s.heap)(I:PySem.W.InstAt s.heap x ox C od)
  (h:wpAny (model prog w) A.in1 (Builtin.«object.__getattribute__» ⟨[.ref x,.str name tk],[]⟩)
   (λfin s'=>match fin with | .done (.ret v)=>wpAny (model prog w) A (handedOut v) Q E s' | _=>False) (λ_ _=>False) s) :
  wpAny (model prog w) A (getAttrBy (.ref x) (.str name tk) fill expr) Q E s:=by
 have N_:(Value.builtin "BaseException.__getattribute__" == Value.builtin "object.__getattribute__")=false:=by decide +kernel
 have NO:(onTheHeap (Value.ref C)&&Value.builtin "BaseException.__getattribute__" == Value.builtin "object.__getattribute__")=false:=by rw[N_];rfl
 have hx0:(expr&&onTheHeap (Value.builtin "BaseException.__getattribute__"))=false:=by cases expr <;> rfl
 have sub:PySem.W.Looks (model prog w) s.heap (isInstance (.ref x) (.type "BaseException")) true:=I.type.andThen (PySem.W.looks_mroIn X c.mb)
 unfold getAttrBy
 refine wpAny_holding (wpAny_bind (I.type.here (wpAny_bind ((PySem.W.looks_findIn X c.ga).here ?_))))
 dsimp only
 rw[NO,if_neg Bool.false_ne_true]
 unfold getAttrByItsOwn hookBefore
 refine wpAny_bind ?_
 show wpAny _ _ (typeLookup (.ref C) "__getattr__") _ _ _
 refine(PySem.W.looks_findIn X c.gn).here ?_
 refine wpAny_bind (wpAny_attempt (wpAny_holding ?_))
 unfold callGetattribute
 rw[hx0,if_neg Bool.false_ne_true]
 unfold boundAndCalled
 refine wpAny_bind (wpAny_of_eq (PySem.F.attr_ValueError.ga.bind _) ?_)
 refine wpAny_call (codeAny_call_builtin PySem.F.attr_ValueError.ga.plain PySem.F.entry_bexc_ga (@PySem.W.check_slot (model prog w) _ _ s "BaseException.__getattribute__" "BaseException" "__getattribute__" (.ref x) [.str name tk] [] _ zx wZ sub (PySem.F.args_bexc_ga _ _) ?_))
 refine wpAny_mono h (λfin s' z=>?_) (λ_ _ z=>z.elim)
 rcases fin with (v | _ | _ | _) | _ <;> first | exact z | exact z.elim
end
variable{newId:String}{dd:Option Addr}
variable{f:Addr}
section
open PySem.Builtin.ObjectAttr (storeInOwnDict storeTaker? setByDescriptor)
abbrev eO:List Value:=[.type "ValueError", .type "Exception", .type "BaseException", .type "object"]
def fK:List Value->Bool
 | .ref _::r=>fK r
 | l=>l==eO
theorem nA(self:Value):refuseLoop self "__setattr__" eO=pure ():=by kernel_rfl
theorem lR(self:Value):∀ {l:List Value},fK l=true->refuseLoop self "__setattr__" l=pure ()
 | .ref c::r,e=>by rw[PySem.refuseLoop_ref];exact lR self e
 | [],e=>by cases (show false=true from e)
 | .type n::r,e=>by rw[show Value.type n::r=eO from beq_iff_eq.mp e];exact nA self
 | .none::r,e=>by rw[show Value.none::r=eO from beq_iff_eq.mp e];exact nA self
section
variable{E:Value->Shared->Prop}{K:PySem.W.Frag}{x:Addr}{od:Option Obj}
theorem o7{a g:Value}(hc:(PySem.W.clsIn K C).isSome=true)(ha:PySem.W.findIn K (.ref C) name=some (some a))(hg:PySem.W.specialIn K a "__get__" = some (some g))(ht:PySem.W.takesIn K a=some true):PySem.W.findObj K C od name=some (.bind g a):=by
 obtain⟨cd,hc⟩:=Option.isSome_iff_exists.mp hc
 unfold PySem.W.findObj
 rw[hc,Option.bind_some,ha,Option.bind_some]
 simp[hg,ht]
theorem wN{Q:Option Value->Shared->Prop}(c:h9 K C)(X:K.In s.heap)(I:PySem.W.InstAt s.heap x ox C od)(h:Q (some (.ref C)) { s with toks:=s.toks+1 }):wpAny (model prog w) A (getAttr? (.ref x) "__class__") Q E s:=by
 have hc:(PySem.W.clsIn K C).isSome=true:=by obtain⟨cd,hc,_⟩:=PySem.W.any_some c.hd;rw[hc];rfl
 have hf:PySem.W.findObj K C od "__class__" = some (.bind (.builtin "getset_descriptor.__get__") (.builtin "object.__class__")):=o7 hc c.ca c.cg c.ct
 unfold getAttr? getAttrBy?
 refine wpAny_bind (wpAny_mkText (wpAny_bind (wpAny_attempt ?_)))
 refine Fq (s:={ s with toks:=s.toks+1 }) c X I ?_
 unfold Builtin.«object.__getattribute__»
 refine wpAny_bind (wpAny_pure ?_)
 dsimp only
 refine wpAny_bind (wpAny_pure ?_)
 refine wpAny_bind (I.type.here (s:={ s with toks:=s.toks+1 }) (wpAny_bind ((PySem.W.looks_find X I hf).here (s:={ s with toks:=s.toks+1 }) ?_)))
 show wpAny _ _ (holding [.builtin "object.__class__"] (call (.builtin "getset_descriptor.__get__") [.builtin "object.__class__", .ref x,.ref C]) >>= ret) _ _ _
 refine wpAny_bind (wpAny_holding (wpAny_call (PySem.W.class_get (s:={ s with toks:=s.toks+1 }) (ox:=ox) (od:=od) X I c.mo ?_)))
 refine wpAny_pure ?_
 exact PySem.W.handed_on rfl (wpAny_pure h)
theorem ur(c:h9 K C):PySem.W.KitX K (.ref x) (.ref C) (λh=>PySem.W.InstAt h x ox C od) where
 ty:=λ_ _ _ I=>I.type
 it:=λ_ _ X _=>by
  obtain⟨cdD,MS,_⟩:=PySem.W.any_some c.hd
  unfold PySem.W.clsIn at MS
  split at MS
  ·rename_i c' d' cd' sl' ho
   intro A' Q' E' s' k q
   unfold isType loadHead
   exact wpAny_bind (wpAny_loadPart (k _ _ (X _ _ ho)) (wpAny_pure q))
  ·cases MS
 ne:=λh tp dd Kv n sl X htp=>by
  obtain⟨cdD,MS,_⟩:=PySem.W.any_some c.hd
  refine Bool.eq_false_iff.mpr λq=>?_
  have e:C=tp:=Value.ref.inj (beq_iff_eq.mp q)
  subst e
  unfold PySem.W.clsIn at MS
  split at MS
  ·rename_i c' d' cd' sl' ho
   have z:=(X _ _ ho).symm.trans htp
   cases z
  ·cases MS
 ca:=λX I k=>wN c X I k
theorem CY{tk:Tok}{v:Value}{R:Result->Shared->Prop}(po:((PySem.W.clsIn K C).any λcd=>fK cd.mro)=true)(c:h9 K C)(X:K.In s.heap)(I:PySem.W.InstAt s.heap x ox C od)(ht:PySem.W.takerIn K C name=some none)
  (h:∀ b,wpAny (model prog w) A.in1 (storeInOwnDict (.ref x) (.ref C) (.str name tk) name v b)
   (λfin s'=>match fin with | .done f=>R (.ok f) s' | .again c'=>c'.quiet=true/\codeAny (model prog w) A c' R s') (λe s'=>R (.error e) s') s) :
  codeAny (model prog w) A (.call (.builtin "object.__setattr__") ⟨[.ref x,.str name tk,v],[]⟩) R s:=by
 have SF:=PySem.F.store_object
 obtain⟨cd,hc,ho⟩:=PySem.W.any_some po
 have sub:PySem.W.Looks (model prog w) s.heap (isInstance (.ref x) (.type "object")) true:=I.type.andThen (PySem.W.looks_mroIn X c.mo)
 refine codeAny_call_builtin SF.slot.plain SF.entry (@PySem.W.check_slot (model prog w) _ _ s "object.__setattr__" "object" "__setattr__" (.ref x) [.str name tk,v] [] _ SF.kind SF.split sub (SF.args (.ref x) (.str name tk) v) ?_)
 obtain⟨attr,ha,hr⟩:=Option.bind_eq_some_iff.mp ht
 have hm:PySem.W.Looks (model prog w) s.heap (mroOf (.ref C)) cd.mro:=(PySem.W.looks_clsIn X hc).andThen .now
 have L3:PySem.W.Looks (model prog w) s.heap (storeTaker? attr) none:=by
  cases attr with
  | none=>cases hr;exact .now
  | some a =>
   obtain⟨b,hb,e⟩:=Option.map_eq_some_iff.mp hr
   refine(PySem.W.looks_takesIn X hb).andThen ?_
   cases b with
   | true=>cases e
   | false=>exact .now
 rw[PySem.W.osa_eq,PySem.refuse_eq]
 refine wpAny_bind (wpAny_bind (I.type.here (wpAny_bind (hm.here ?_))))
 rw[lR _ ho]
 refine wpAny_pure (wpAny_bind (I.type.here (wpAny_bind ((PySem.W.looks_findIn X ha).here (wpAny_bind (L3.here ?_))))))
 exact h _
theorem zG{vs:Array Value}{v:Value}{Q:Unit->Shared->Prop}(po:((PySem.W.clsIn K C).any λcd=>fK cd.mro)=true)(c:h9 K C)(X:K.In s.heap)(hx:s.heap.get? x=some ⟨.ref C,none,.fields vs,#[]⟩)(ht:PySem.W.takerIn K C name=some none)
  (h:∀ h' tk d,h'.get? x=some ⟨.ref C,some d,.fields vs,#[]⟩->s.heap.get? d=none->h'.Ns1 d (λy=>if y=name then some v else none)->(∀ b o,b≠x->s.heap.get? b=some o->h'.get? b=some o)->Q () { s with heap:=h',toks:=tk }) :
  wpAny (model prog w) A (setAttr (.ref x) name v) Q E s:=by
 have I:PySem.W.InstAt s.heap x ⟨.ref C,none,.fields vs,#[]⟩ C none:=⟨hx,rfl,rfl,trivial⟩
 refine PySem.W.set_plain X I c.sa (CY (s:={ s with toks:=s.toks+1 }) po c X I ht λb=>?_)
 obtain⟨cd,hc,NX⟩:=PySem.W.any_some c.hd
 have Lr:=Heap.lt_size hx
 refine wpAny_bind (wpAny_pure (wpAny_bind (wpAny_bind (wpAny_loadPart hx (wpAny_bind (PySem.W.Looks.here (s:={ s with toks:=s.toks+1 }) (PySem.W.looks_clsIn X hc) ?_))))))
 rw[NX]
 refine wpAny_bind (wpAny_alloc ?_)
 have NO:(s.heap.push { cls:=.type "dict", data:=.dict #[] }).get? x=some ⟨.ref C,none,.fields vs,#[]⟩:=Heap.get?_push_of_some _ hx
 refine wpAny_bind (wpAny_update NO ?_)
 refine wpAny_pure (a:=some s.heap.objs.size) (wpAny_bind (wpAny_pure (wpAny_bind ?_)))
 have N_:((s.heap.push { cls:=.type "dict", data:=.dict #[] }).update x λo=>{ o with dict:=some s.heap.objs.size }).get? x=some ⟨.ref C,some s.heap.objs.size,.fields vs,#[]⟩:=Heap.get?_update_self _ NO rfl
 have e1:(s.heap.push { cls:=.type "dict", data:=.dict #[] }).get? s.heap.objs.size=some { cls:=.type "dict", data:=.dict #[] }:=Heap.get?_push_size s.heap rfl
 have nxd:s.heap.objs.size≠x:=Nat.ne_of_gt Lr
 have e2:((s.heap.push { cls:=.type "dict", data:=.dict #[] }).update x λo=>{ o with dict:=some s.heap.objs.size }).get? s.heap.objs.size=some { cls:=.type "dict", data:=.dict #[] }:=by
  rw[Heap.get?_update_other _ _ (Ne.symm nxd)]
  exact e1
 have e3:((s.heap.push { cls:=.type "dict", data:=.dict #[] }).update x λo=>{ o with dict:=some s.heap.objs.size }).Ns s.heap.objs.size (λ_=>none):=⟨_,#[],_,e2,rfl,(λe he=>absurd he (by simp)),λ_=>rfl⟩
 refine wpAny_nsSet1 (s:={ s with heap:=(s.heap.push { cls:=.type "dict", data:=.dict #[] }).update x λo=>{ o with dict:=some s.heap.objs.size },toks:=s.toks+1 }) (Heap.Ns1.of_empty e3) λh' Nl LY=>?_
 obtain⟨oD,esD,epD,hoD,hdD,MS⟩:=Nl.count (PySem.Within.cons (ns:=[]) name v (λy hy=>absurd rfl hy))
 refine wpAny_bind (wpAny_lookBehind hoD (by rw[hdD];exact pastItsLine_dict (Nat.le_trans MS (by show 1<=sizeLine+1;exact Nat.le_add_left _ _))) ?_)
 refine wpAny_pure (h h' _ s.heap.objs.size ((LY.2 x (Ne.symm nxd)).trans N_) (Heap.get?_none_of_le (Nat.le_refl _)) Nl λb o hb e=>?_)
 refine(LY.2 b (Nat.ne_of_lt (Heap.lt_size e))).trans ?_
 rw[Heap.get?_update_other _ _ (Ne.symm hb)]
 exact Heap.get?_push_of_some _ e
end
def og(K:PySem.W.Frag)(C:Addr)(newId:String)(f:Addr):Bool:=match K.lookup C with
 | some ⟨.type "type", _,.cls cd,sl⟩=>(match cd.mro,sl.toList with
  | .ref C'::bm,[_,_,_,_,some (.builtin n),_]=>C'==C&&n==newId&&!cd.hasDel&&PySem.W.tailIn K eO bm&&PySem.W.nsOkIn K cd.ns&&PySem.W.nsIn K cd.ns "__init__" == some (some (.ref f))
  | _,_=>false)
 | _=>false
section
variable{E:Value->Shared->Prop}{g:Array GenState}{d:Drawn}{t:Nat}{os:OsState}
variable{nm q:Str}{N:Addr}{bs bm:List Value}{Ms:Bool}{sn:List Str}{sub:List Value}{ab:Bool}{col:Option Bool}{k0 k1 k2 k3 k5:Option Value}{ND:String}
theorem nQ(F:ExcBaseFacts "ValueError" newId ND eO)(T:OwnTail h eO bm){mN:Str->Option Value}{rest:List Value}{Q:Fin->Shared->Prop}
  (hC:h.get? C=some (excClassObj nm q C N bs bm Ms sn sub ab col dd k0 k1 k2 k3 k5 newId)) (hn:h.Ns N mN) (MK:mN "__init__" = some (.ref f))
  (hb:∀ h':Heap,(∀ b o,h.get? b=some o->h'.get? b=some o)->∀ self,PySem.W.Looks (model prog w) h' (bindSpecial (.ref f) self) (.ref f,[self]))
  (hq:∀ h':Heap,(∀ b o,h.get? b=some o->h'.get? b=some o)->h'.get? h.objs.size=some { cls:=.type "tuple", data:=.seq rest.toArray } ->
   h'.get? (h.objs.size+1)=some { cls:=.ref C,data:=.fields #[.ref h.objs.size,.none,.none,.none,.bool false,.none] }->h'.objs.size=h.objs.size+2 ->
   wpAny (model prog w) A (call (.ref f) (.ref (h.objs.size+1)::rest)) (λv s'=>v=.none/\Q (.done (.ret (.ref (h.objs.size+1)))) s') E ⟨h',g,d,t,os⟩) (AL:rest.length<=sizeLine:=by size_fits) :
  wpAny (model prog w) A (Builtin.«type.__call__» ⟨.ref C::rest,[]⟩) Q E ⟨h,g,d,t,os⟩:=by
 repeat (first | with_reducible refine wpAny_loadPart_at hC ?_ | with_reducible refine wpAny_madeBy_exc hC ?_ | wp_step)
 refine codeAny_call_builtin_code (Code.quiet_builtin _ F.quiet) (wpAny_check_new_subT F T hC ?_)
 refine codeAny_exc_new_subT F T hC ?_ AL
 show wpAny _ _ _ _ _ _
 have kp:∀ b o,h.get? b=some o->((h.push { cls:=.type "tuple", data:=.seq rest.toArray }).push { cls:=.ref C,data:=.fields #[.ref h.objs.size,.none,.none,.none,.bool false,.none] }).get? b=some o:=λb o e=>Heap.get?_push_of_some _ (Heap.get?_push_of_some _ e)
 have hC1:=kp _ _ hC
 have hn₁:((h.push { cls:=.type "tuple", data:=.seq rest.toArray }).push { cls:=.ref C,data:=.fields #[.ref h.objs.size,.none,.none,.none,.bool false,.none] }).Ns N mN:=hn.keeps kp
 have N0:((h.push { cls:=.type "tuple", data:=.seq rest.toArray }).push
   { cls:=.ref C,data:=.fields #[.ref h.objs.size,.none,.none,.none,.bool false,.none] }).get? (h.objs.size+1)=some
   { cls:=.ref C,data:=.fields #[.ref h.objs.size,.none,.none,.none,.bool false,.none] }:=by heap_get
 have htup:((h.push { cls:=.type "tuple", data:=.seq rest.toArray }).push
   { cls:=.ref C,data:=.fields #[.ref h.objs.size,.none,.none,.none,.bool false,.none] }).get? h.objs.size=some { cls:=.type "tuple", data:=.seq rest.toArray }:=Heap.get?_push_of_some _ (Heap.get?_push_size _ rfl)
 have Mb:((h.push { cls:=.type "tuple", data:=.seq rest.toArray }).push { cls:=.ref C,data:=.fields #[.ref h.objs.size,.none,.none,.none,.bool false,.none] }).objs.size=h.objs.size+2:=by rw[Heap.size_push,Heap.size_push]
 have hcC:(Value.ref C::bm).contains (.ref C)=true:=by simp
 have T₁:=T.keeps kp
 have hb₁:=hb _ kp (.ref (h.objs.size+1))
 have fin:=hq _ kp htup N0 Mb
 generalize ((h.push { cls:=.type "tuple", data:=.seq rest.toArray }).push { cls:=.ref C,data:=.fields #[.ref h.objs.size,.none,.none,.none,.bool false,.none] })=h1 at *
 unfold isInstance
 repeat (first | with_reducible refine wpAny_loadPart_at N0 ?_ | (with_reducible refine wpAny_isSubtype_exc hC1 ?_;rw[hcC]) | wp_step)
 show wpAny _ _ (typeLookup (.ref C) _) _ _ _
 refine wpAny_typeLookup_tail hC1 hn₁ T₁ F.mroIs F.init.lookup ?_
 rw[MK]
 refine wpAny_holding (wpAny_bind (hb₁.here ?_))
 refine wpAny_bind (wpAny_mono fin (λv s' z=>?_) λ_ _ z=>z)
 obtain⟨rfl,z⟩:=z
 wp_walk
 exact z
end
end
def iM(C:Addr)(dd:Option Addr)(e:Addr):HO:=.ext λh=>∃ vs,h.get? e=some ⟨.ref C,dd,.fields vs,#[]⟩
def ExcAt(H:Hp)(e C:Addr)(fo:Option (List (Str×V))):Prop:=match fo with
 | none=>H e=some (iM C none e)
 | some fs=>∃ d,H e=some (iM C (some d) e)/\H d=some (.xd fs)
theorem Inv.zX(I:Inv X Kt σ H s){e:Addr}(he:H e=some (iM C dd e)):∃ vs,s.heap.get? e=some ⟨.ref C,dd,.fields vs,#[]⟩:=(I.bC e _ he).1
theorem Inv.CG(I:Inv X Kt σ H s){e:Addr}{fo:Option (List (Str×V))}(h:ExcAt H e C fo):∃ ox od,PySem.W.InstAt s.heap e ox C od/\(fo=none->od=none) ∧
  ∀ fs,fo=some fs->∃ (o:Obj) (mA:Str->Option Value),od=some o/\(∀ n,PySem.W.lookIn n o=some (mA n))/\∀ f,kZ (fs.lookup f) (mA f):=by
 cases fo with
 | none =>
  obtain⟨vs,q⟩:=I.zX h
  exact⟨_,none,⟨q,rfl,rfl,trivial⟩,λ_=>rfl,λfs z=>(by cases z)⟩
 | some fs =>
  obtain⟨d,h1,h2⟩:=h
  obtain⟨vs,q⟩:=I.zX h1
  obtain⟨mA,n,r⟩:=(show ∃ mA,s.heap.Ns1 d mA/\∀ f,kZ (fs.lookup f) (mA f) from I.bC d _ h2)
  obtain⟨o,ho,hl⟩:=lD n
  refine⟨_,some o,⟨q,rfl,rfl,ho⟩,λz=>(by cases z),λNr z=>?_⟩
  cases z
  exact⟨o,mA,rfl,hl,r⟩
theorem Inv.qu(I:Inv X Kt σ H s)(hn:s.heap.get? a=none):H a=none:=by
 cases q:H a with
 | none=>rfl
 | some u =>
  exfalso
  have:∀ (u:HO),bV X.prog X.w H s.heap a u->∃ ob,s.heap.get? a=some ob:=by
   intro u
   induction u with
   | lst xs=>intro ⟨_,_,_,_,e⟩;exact⟨_,e⟩
   | tup xs=>intro ⟨_,_,_,p⟩;obtain⟨ob,e,_⟩:=p;exact⟨ob,e⟩
   | dK Lu=>intro ⟨_,_,_,_,p⟩;obtain⟨ob,_,_,e,_⟩:=p;exact⟨ob,e⟩
   | dT Lu=>intro ⟨_,_,_,_,ob,_,_,e,_⟩;exact⟨ob,e⟩
   | set S n=>intro p;obtain⟨es,ob,xs,ep,e,_⟩:=p;exact⟨_,e⟩
   | ins C dx fs=>intro ⟨_,_,_,e,_⟩;exact⟨_,e⟩
   | own x=>intro ⟨ob,e⟩;exact⟨ob,e⟩
   | xd fs=>intro ⟨mA,n,_⟩;obtain⟨ob,e,_⟩:=lD n;exact⟨ob,e⟩
   | met f x=>intro e;exact⟨_,e⟩
   | hU lo hi=>intro ⟨_,_,_,e⟩;exact⟨_,e⟩
   | o8 o u _=>intro ⟨e,_⟩;exact⟨_,e⟩
   | Dk ps=>intro e;exact⟨_,e⟩
   | ext φ=>intro ⟨_,⟨ob,e⟩,_⟩;exact⟨ob,e⟩
  obtain⟨ob,e⟩:=this u (I.bC a u q)
  rw[hn] at e;cases e
theorem Inv.DG{o:HO}(I:Inv X Kt σ H s)(k:∀ b u,s.heap.get? b=some u->h'.get? b=some u)(hn:s.heap.get? a=none)(new:bV X.prog X.w (upd H a o) h' a o) :
  Inv X Kt σ (upd H a o) { s with heap:=h',toks:=t' }:=by
 have ne:∀ b u,s.heap.get? b=some u->b≠a:=λb u e z=>by rw[z,hn] at e;cases e
 have MV:H a=none:=I.qu hn
 have M5:∀ b u,H b=some u->b≠a:=λb u e z=>by rw[z,MV] at e;cases e
 refine I.un ⟨λb u e _ _ _=>k b u e,λb u e _ _ _=>⟨u.slots,k b u e⟩,λb u e n _=>by rw[ak (ne b u e)];exact n,λb u e _=>⟨u,k b u e⟩,
  λb xs e=>by rw[ak (M5 b _ e)];exact e,λb ob u e=>by rw[ak (M5 b _ e)];exact e,λb ps e=>⟨#[],by rw[ak (M5 b _ e),e];simp⟩⟩ λb u e=>?_
 by_cases z:b=a
 ·subst z
  rw[aw] at e
  cases e
  exact new
 ·rw[ak z] at e
  refine(I.bC b u e).ma (λc v _ q=>k c v q) (λc q=>?_) λc ys q=>?_
  ·rw[ak (M5 c _ q)];exact q
  ·rw[ak (M5 c _ q)];exact q
variable{apos:Pos}{m:Str}{ta:TE}{o:Expr}
section
variable{f:Str}{pos:Pos}
def JQ(K:PySem.W.Frag):List V->Hp->VK->Prop:=λxs H Q=>∃ e C fo b,h9 K C/\ExcAt H e C fo ∧
 ((∃ T,xs=[.ref e,.ty T]/\PySem.W.kitOne K (.ref C) (.type T)=some b)\/(∃ D,xs=[.ref e,.ref D]/\PySem.W.kitOne K (.ref C) (.ref D)=some b))/\Q (.bl b) H
theorem Ag:dz X (.builtin "isinstance") (JQ X.K):=by
 intro Kt s σ H xs us Q I r h
 obtain⟨e,C,fo,b,c,ha,hc,q⟩:=h
 obtain⟨ox,od,J,_⟩:=I.CG ha
 rcases hc with ⟨T,rfl,hk⟩ | ⟨D,rfl,hk⟩
 ·cases r with
  | cons r1 r2 =>
   cases r2 with
   | cons r3 r4 =>
    cases r4
    cases (show _=Value.ref e from r1)
    cases (show _=Value.type T from r3)
    exact PySem.W.kia_one (ur c) I.ja J hk (λz=>nomatch z) λtk=>⟨.bl b,H,I.tok tk,rfl,q⟩
 ·cases r with
  | cons r1 r2 =>
   cases r2 with
   | cons r3 r4 =>
    cases r4
    cases (show _=Value.ref e from r1)
    cases (show _=Value.ref D from r3)
    exact PySem.W.kia_one (ur c) I.ja J hk (λz=>nomatch z) λtk=>⟨.bl b,H,I.tok tk,rfl,q⟩
end
theorem uJ{K:PySem.W.Frag}{N:Addr}{n:Str}{v:Value}(X:K.In h)(G:h.Ns N mg)(e:PySem.W.nsIn K N n=some (some v)):mg n=some v:=by
 obtain⟨o,es,ep,ho,hd,_,hf⟩:=G
 unfold PySem.W.nsIn at e
 split at e
 ·rename_i c d es' n' sl q
  have:=X _ _ q
  rw[ho] at this
  cases this
  cases hd
  split at e
  ·rename_i en he
   cases e
   rw[← hf]
   unfold nsFind findBy
   rw[← Array.find?_toList,he]
   rfl
  ·split at e <;> cases e
 ·cases e
theorem CZ{K:PySem.W.Frag}(X:K.In h)(q:PySem.W.excIn K C eO newId=true) :
  ∃ bm N nm qn bs Ms sn sub ab col dd k0 k1 k2 k3 k5 mN,h.get? C=some (excClassObj nm qn C N bs bm Ms sn sub ab col dd k0 k1 k2 k3 k5 newId)/\h.Ns N mN/\mN "__init__" = none/\OwnTail h eO bm:=by
 unfold PySem.W.excIn at q
 split at q
 ·rename_i dd cd sl ho
  split at q
  ·rename_i C' bm k0 k1 k2 k3 n k5 hm hs
   simp only[Bool.and_eq_true,beq_iff_eq,Bool.not_eq_true'] at q
   obtain⟨⟨⟨⟨⟨rfl,rfl⟩,MT⟩,ht⟩,bC⟩,MK⟩:=q
   obtain⟨nm,bs,mro,ns,qn,hd,sn,sub,ab,col,del⟩:=cd
   dsimp only at hm MT bC MK
   subst hm MT
   have hsl:sl=#[k0,k1,k2,k3,some (.builtin n),k5]:=by
    obtain⟨l⟩:=sl
    simp only at hs
    rw[hs]
   subst hsl
   exact⟨bm,ns,nm,qn,bs,hd,sn,sub,ab,col,dd,k0,k1,k2,k3,k5,_,X _ _ ho,.of_isNs (PySem.W.isNs_of_in X bC),PySem.W.nsMap_none_of_in X bC MK,PySem.W.tail_of_in X ht⟩
  ·cases q
 ·cases q
theorem yP{K:PySem.W.Frag}(X:K.In h)(q:og K C newId f=true) :
  ∃ bm N nm qn bs Ms sn sub ab col dd k0 k1 k2 k3 k5 mN,h.get? C=some (excClassObj nm qn C N bs bm Ms sn sub ab col dd k0 k1 k2 k3 k5 newId)/\h.Ns N mN/\mN "__init__" = some (.ref f)/\OwnTail h eO bm:=by
 unfold og at q
 split at q
 ·rename_i dd cd sl ho
  split at q
  ·rename_i C' bm k0 k1 k2 k3 n k5 hm hs
   simp only[Bool.and_eq_true,beq_iff_eq,Bool.not_eq_true'] at q
   obtain⟨⟨⟨⟨⟨rfl,rfl⟩,MT⟩,ht⟩,bC⟩,MK⟩:=q
   obtain⟨nm,bs,mro,ns,qn,hd,sn,sub,ab,col,del⟩:=cd
   dsimp only at hm MT bC MK
   subst hm MT
   have hsl:sl=#[k0,k1,k2,k3,some (.builtin n),k5]:=by
    obtain⟨l⟩:=sl
    simp only at hs
    rw[hs]
   subst hsl
   have hN:=Heap.Ns.of_isNs (PySem.W.isNs_of_in X bC)
   exact⟨bm,ns,nm,qn,bs,hd,sn,sub,ab,col,dd,k0,k1,k2,k3,k5,_,X _ _ ho,hN,uJ X hN MK,PySem.W.tail_of_in X ht⟩
  ·cases q
 ·cases q
variable{t:TA}{es:List Expr}{e:Expr}{ps:List Str}
section
variable{p pos:Pos}
end
section
open PySem.SeqAt (shaped noMix noMixAll)
end
section
open PySem.SeqAt (shaped noMix noMixAll)
theorem Dh{x:V}{u t:Value}(I:Inv X Kt σ H s)(rx:RelV x u)(ty:jg X.K H x t):∃ HH:Heap->Prop,PySem.W.KitX X.K u t HH/\HH s.heap/\u≠.builtin "__main__.__loader__#opaque" := by
 cases ty with
 | cy=>cases (show u=Value.none from rx);exact⟨_,PySem.W.kitx_none,True.intro,λz=>nomatch z⟩
 | bl y=>cases (show u=Value.bool y from rx);exact⟨_,PySem.W.kitx_bool,True.intro,λz=>nomatch z⟩
 | int i=>obtain⟨t,q⟩:=(show ∃ t,u=Value.int i t from rx);cases q;exact⟨_,PySem.W.kitx_int,True.intro,λz=>nomatch z⟩
 | str y=>obtain⟨t,q⟩:=(show ∃ t,u=Value.str y t from rx);cases q;exact⟨_,PySem.W.kitx_str,True.intro,λz=>nomatch z⟩
 | DX y=>obtain⟨t,q⟩:=(show ∃ t,u=Value.float y t from rx);cases q;exact⟨_,PySem.W.kitx_float,True.intro,λz=>nomatch z⟩
 | @lst a xs ea =>
  cases (show u=Value.ref a from rx)
  obtain⟨_,_,n,_,h1⟩:=(show bV X.prog X.w H s.heap a (.lst xs) from I.bC a _ ea)
  exact⟨_,PySem.W.kitx_list,⟨_,h1,rfl⟩,λz=>nomatch z⟩
 | @o8 a ob xs ea =>
  cases (show u=Value.ref a from rx)
  obtain⟨_,_,_,n,_,h1⟩:=(show bV X.prog X.w H s.heap a (.o8 ob (.lst xs)) from I.bC a _ ea)
  exact⟨_,PySem.W.kitx_list,⟨_,h1,rfl⟩,λz=>nomatch z⟩
 | @tup a xs ea =>
  cases (show u=Value.ref a from rx)
  obtain⟨_,_,_,o,h1,h2,_⟩:=(show bV X.prog X.w H s.heap a (.tup xs) from I.bC a _ ea)
  exact⟨_,PySem.W.kitx_tuple,⟨o,h1,h2⟩,λz=>nomatch z⟩
 | @dK a Lu ea =>
  cases (show u=Value.ref a from rx)
  obtain⟨_,_,vs,_,o,es,ep,h1,h2,_⟩:=(show bV X.prog X.w H s.heap a (.dK Lu) from I.bC a _ ea)
  exact⟨_,PySem.W.kitx_dict,⟨o,h1,h2.1⟩,λz=>nomatch z⟩
 | @dT a Lu ea =>
  cases (show u=Value.ref a from rx)
  obtain⟨_,_,xs,_,o,es,ep,h1,h2,_⟩:=(show bV X.prog X.w H s.heap a (.dT Lu) from I.bC a _ ea)
  exact⟨_,PySem.W.kitx_dict,⟨o,h1,h2.1⟩,λz=>nomatch z⟩
 | @ins a C dx fs ea cl ha hn GD hm =>
  cases (show u=Value.ref a from rx)
  obtain⟨mA,O,_⟩:=kO I.bC ea
  obtain⟨od,J,_⟩:=O.look
  exact⟨_,PySem.W.kitx_own (cl.get _) cl.hd ha hn GD hm,J,λz=>nomatch z⟩
def GL(K:PySem.W.Frag):List V->Hp->VK->Prop:=λxs H Q=>∃ (x:V) (tp:Addr) (Ts:List String) (t:Value) (b:Bool),xs=[x,.ref tp]/\H tp=some (.tup (Ts.map V.ty))/\jg K H x t/\PySem.W.kitAny K t (Ts.map Value.type)=some b/\Q (.bl b) H
theorem wA:∀ {Ts:List String} {us:List Value},Vals (Ts.map V.ty) us->us=Ts.map Value.type
 | [],us,r=>by rw[List.map_nil] at r;cases r;rfl
 | T::Ts,us,r=>by
  rw[List.map_cons] at r
  cases r with
  | cons r1 r2 =>
   cases (show _=Value.type T from r1)
   rw[wA r2]
   rfl
theorem yl:dz X (.builtin "isinstance") (GL X.K):=by
 intro Kt s σ H xs us Q I r h
 obtain⟨x,tp,Ts,t,b,rfl,htp,ty,e,q⟩:=h
 cases r with
 | cons r1 r2 =>
  cases r2 with
  | cons r3 r4 =>
   cases r4
   cases (show _=Value.ref tp from r3)
   obtain⟨HH,Z,p,ne⟩:=Dh I r1 ty
   obtain⟨_,Kv,rv,o,h1,h2,n,h3⟩:=(show bV X.prog X.w H s.heap tp (.tup (Ts.map V.ty)) from I.bC tp _ htp)
   have ei:=wA rv
   subst ei
   obtain⟨cls,dd,data,sl⟩:=o
   dsimp only at h2 h3
   subst h2 h3
   exact PySem.W.kia_tup Z I.ja p h1 e ne λtk=>⟨.bl b,H,I.tok tk,rfl,q⟩
theorem vO:∀ {bs:List Bool} {us:List Value},Vals (bs.map V.bl) us->us=bs.map Value.bool
 | [],us,r=>by rw[List.map_nil] at r;cases r;rfl
 | b::bs,us,r=>by
  rw[List.map_cons] at r
  cases r with
  | cons r1 r2 =>
   cases (show _=Value.bool b from r1)
   rw[vO r2]
   rfl
theorem Fh:bootBuiltins "all" = some (.builtin "all"):=by decide +kernel
theorem xW(hc:X.calm=true):dz X (.builtin "all") (λxs H Q=>∃ (a:Addr) (bs:List Bool),xs=[.ref a]/\f9 X.K H a (bs.map V.bl)/\Q (.bl (bs.all id)) H):=by
 intro Kt s σ H xs us Q I r h
 obtain⟨a,bs,rfl,hq,q⟩:=h
 cases r with
 | cons r1 r2 =>
  cases r2
  cases (show _=Value.ref a from r1)
  obtain⟨Kv,rv,p,hz⟩:=I.list hq
  have ei:=vO rv
  subst ei
  have hl:=p.isList
  have Lr:a<s.heap.objs.size:=by obtain⟨_,e,_⟩:=hl;exact Heap.lt_size e
  refine call_all_walk (wpAny_pyIter_list hl ?_)
  refine⟨s.heap.objs.size,[s.heap.objs.size,a],[s.heap.objs.size],(bs.map Value.bool).toArray.size,_,_,λi=>(bs[i]?).getD true,rfl,Walks.list (A:=X.A.in1) (I.ok.hd hc) _ a (Nat.ne_of_lt Lr) (bs.map Value.bool).toArray,
   ⟨⟨_,Heap.get?_push_size _ rfl,rfl,rfl⟩,hl.push _⟩,λi v s' Q' E' hP hQ=>?_,λh' tk hk=>?_⟩
  ·have hP':(bs.map Value.bool)[i]?=some v:=by simpa using hP
   rw[List.getElem?_map] at hP'
   obtain⟨b,e1,e2⟩:=Option.map_eq_some_iff.mp hP'
   subst e2
   simp only[e1,Option.getD_some] at hQ
   exact wpAny_truthy_bool hQ
  ·have e:((List.range (bs.map Value.bool).toArray.size).all λi=>(bs[i]?).getD true)=bs.all id:=by
    rw[List.size_toArray,List.length_map]
    rw[Bool.eq_iff_iff,List.all_eq_true,List.all_eq_true]
    constructor
    ·intro h b hb
     obtain⟨i,hi,e⟩:=List.getElem_of_mem hb
     have:=h i (List.mem_range.mpr hi)
     simp only[List.getElem?_eq_getElem hi,Option.getD_some,e] at this
     exact this
    ·intro h i hi
     have NM:=List.mem_range.mp hi
     simp only[List.getElem?_eq_getElem NM,Option.getD_some]
     exact h _ (List.getElem_mem NM)
   rw[e]
   refine⟨.bl _,H,I.kept (t':=tk) (λb x e=>?_),rfl,q⟩
   exact hk b x (λhm=>by rw[List.mem_singleton.mp hm] at e;exact Nat.lt_irrefl _ (Heap.lt_size e)) (Heap.get?_push_of_some _ e)
end
section
open PySem.MeetsSeq PySem.MeetsSeq2 PySem.MeetsSeq3
theorem kX:fillsNumberSlot (.type "tuple") "mul" = pure false :=
 PySem.fillsNumberSlot_seq (id := "tuple.__mul__") (r:=some (.builtin "tuple.__rmul__")) F.slot_tuple_mul.lookup (by decide +kernel) F.slot_tuple_rmul.lookup (by decide +kernel)
theorem q_:seqRepeat? (.type "tuple")=pure (some (.builtin "tuple.__mul__")):=by
 unfold seqRepeat?
 rw[PySem.seqSlot_of (T := "tuple") (name := "__mul__") (id := "tuple.__mul__") F.slot_tuple_mul.lookup (by decide +kernel),PySem.seqSlot_of (T := "tuple") (name := "__rmul__") (id := "tuple.__rmul__") F.slot_tuple_rmul.lookup (by decide +kernel)]
 rfl
theorem qG(a:Int)(t:Tok)(l:Addr)(items:Array Value)(n:Nat)(dd:Option Addr)(sl:Array (Option Value)) :
  Meets (Builtin.«int.__rmul__» ⟨[.int a t,.ref l],[]⟩) (λ_ R s=>s.heap.get? l=some ⟨.type "tuple", dd,.seq items n,sl⟩/\R (.ok (.ret Value.notImplemented)) s) :=
 .of_wp λprog w A R s h=>by obtain⟨hp,g,d,tk,os⟩:=s;obtain⟨hl,h⟩:=h;wp_walk;exact⟨_,rfl,h⟩
theorem xD(l:Addr)(items:Array Value)(n:Nat)(dd:Option Addr)(sl:Array (Option Value))(u:Tok) :
  Meets (Builtin.«tuple.__mul__» ⟨[.ref l,.int 1 u],[]⟩) (λ_ R s=>s.heap.get? l=some ⟨.type "tuple", dd,.seq items n,sl⟩/\R (.ok (.ret (.ref l))) s) :=
 .of_wp λprog w A R s h=>by
  obtain⟨hp,g,d,tk,os⟩:=s;obtain⟨hl,h⟩:=h;have f1:=AutoSeq1.idx_int;have f2:=AutoSeq1.sub_tuple_tuple
  wp_walk using AutoSeq1.wpAny_loadPart' hl
  exact⟨_,rfl,h⟩
theorem x_(l:Addr)(items:Array Value)(n:Nat)(dd:Option Addr)(sl:Array (Option Value))(x:Int)(u:Tok)(c0:¬ (decide (x < -2^63)||decide (x>=2^63))=true)(c1:¬ (items.isEmpty||x==1)=true)(c2:¬ (decide (x<=0)||items.isEmpty)=true)
  (c3:¬ (items.size:Int)*x>(2^63-1)/8) (c4:¬ Builtin.Tuple.tupleTooMany ((items.size:Int)*x)=true) (Mb:(List.foldl (λx1 x2=>x1++x2) #[] (List.replicate x.toNat items)).size<=sizeLine) :
  Meets (Builtin.«tuple.__mul__» ⟨[.ref l,.int x u],[]⟩) (λ_ R s=>s.heap.get? l=some ⟨.type "tuple", dd,.seq items n,sl⟩/\R (.ok (.ret (.ref s.heap.objs.size))) { s with heap:=s.heap.push { cls:=.type "tuple", data:=.seq (List.foldl (λx1 x2=>x1++x2) #[] (List.replicate x.toNat items)) },toks:=s.toks }) :=
 .of_wp λprog w A R s h=>by
  obtain⟨hp,g,d,tk,os⟩:=s;obtain⟨hl,h⟩:=h;have f1:=AutoSeq1.idx_int;have f2:=AutoSeq1.sub_tuple_tuple
  wp_walk using AutoSeq1.wpAny_loadPart' hl
  refine wpAny_ite_false (decide_eq_false c0) ?_;wp_walk using AutoSeq1.wpAny_loadPart' hl
  refine wpAny_ite_false (decide_eq_false c3) ?_;wp_walk using AutoSeq1.wpAny_loadPart' hl
  exact⟨_,rfl,h⟩
theorem xh(l:Addr)(items:Array Value)(n:Nat)(dd:Option Addr)(sl:Array (Option Value))(x:Int)(u:Tok)(c0:¬ (decide (x < -2^63)||decide (x>=2^63))=true)(c1:¬ (items.isEmpty||x==1)=true)(c2:(decide (x<=0)||items.isEmpty)=true) :
  Meets (Builtin.«tuple.__mul__» ⟨[.ref l,.int x u],[]⟩) (λ_ R s=>s.heap.get? l=some ⟨.type "tuple", dd,.seq items n,sl⟩/\R (.ok (.ret (.ref s.heap.objs.size))) { s with heap:=s.heap.push { cls:=.type "tuple", data:=.seq #[] },toks:=s.toks }) :=
 .of_wp λprog w A R s h=>by
  obtain⟨hp,g,d,tk,os⟩:=s;obtain⟨hl,h⟩:=h;have f1:=AutoSeq1.idx_int;have f2:=AutoSeq1.sub_tuple_tuple
  wp_walk using AutoSeq1.wpAny_loadPart' hl
  refine wpAny_ite_false (decide_eq_false c0) ?_;wp_walk using AutoSeq1.wpAny_loadPart' hl
  exact⟨_,rfl,h⟩
def DO(K:PySem.W.Frag):R2:=λx y H Q=>∃ a k xs,x=.ref a/\y=.int k/\gu K H a xs/\xs≠[]/\-(2^63)<=k/\k<2^63/\xs.length*k.toNat<=sizeLine/\(k=1->Q (.ref a) H)/\(k≠1->∀ p,H p=none->Q (.ref p) (upd H p (.tup (List.replicate k.toNat xs).flatten)))
theorem C_:gU X (binaryOp .Mult) (DO X.K):=by
 intro Kt s σ H x y v u Q I rx ry h
 obtain⟨a,k,xs,rfl,rfl,hq,ME,h1,h2,hz,q1,q2⟩:=h
 cases rx
 obtain⟨t,rfl⟩:=ry
 obtain⟨Kv,r,⟨o,e,hc,n,hd⟩,_⟩:=I.tuple hq
 obtain⟨cls,dd,data,sl⟩:=o
 dsimp only at hc hd
 subst hc hd
 have hl:=r.length
 refine wpAny_binaryOp_repeat_ref (T := "tuple") (U := "int") (by decide) ⟨_,e,rfl⟩ (λs'=>typeIs_int s' k t) kX F.fills_int_mul F.slot_int_rmul q_ F.slot_int_index.lookup
  (call_meets F.slot_int_rmul (typeIs_int s k t) F.entry_int_rmul (F.args_int_rmul_2 _ _) (qG k t a Kv.toArray n dd sl) ⟨e,rfl,⟨_,e,rfl⟩,?_⟩)
 by_cases hk1:k=1
 ·subst hk1
  exact call_meets F.slot_tuple_mul ⟨_,e,rfl⟩ F.entry_tuple_mul (F.args_tuple_mul_2 _ _) (xD a Kv.toArray n dd sl t) ⟨e,⟨.ref a,H,I,rfl,q1 rfl⟩⟩
 ·have hb1:(k==1)=false:=by simpa using hk1
  have MK:Kv≠[]:=λz=>ME (r.kM.mp z)
  have hie:Kv.toArray.isEmpty=false:=by cases Kv with | nil=>exact absurd rfl MK | cons _ _=>rfl
  have c0:¬ (decide (k < -2^63)||decide (k>=2^63))=true:=by simp;omega
  have c1:¬ (Kv.toArray.isEmpty||k==1)=true:=by rw[hie,hb1];simp
  have fin:∀ ys,ys=(List.replicate k.toNat Kv).flatten.toArray->EP X Kt σ Q (.ref s.heap.objs.size) { s with heap:=s.heap.push { cls:=.type "tuple", data:=.seq ys },toks:=s.toks }:=λys ey=>by
   subst ey
   refine⟨.ref s.heap.objs.size,_,I.laid (t':=s.toks) (o:=.tup (List.replicate k.toNat xs).flatten) (λb ob q=>Heap.get?_push_of_some _ q) (Nat.le_refl _) ?_,rfl,q2 hk1 _ (I.bC.fresh (Nat.le_refl _))⟩
   exact⟨by rw[len_rep,Nat.mul_comm];exact hz,_,r.rep k.toNat,IsTup.new _ _⟩
  have LX:List.foldl (λx1 x2=>x1++x2) #[] (List.replicate k.toNat Kv.toArray)=(List.replicate k.toNat Kv).flatten.toArray:=by
   have:=foldl_rep Kv k.toNat []
   rw[List.nil_append] at this
   exact this
  by_cases hk0:k<=0
  ·have c2:(decide (k<=0)||Kv.toArray.isEmpty)=true:=by rw[decide_eq_true hk0];rfl
   refine call_meets F.slot_tuple_mul ⟨_,e,rfl⟩ F.entry_tuple_mul (F.args_tuple_mul_2 _ _) (xh a Kv.toArray n dd sl k t c0 c1 c2) ⟨e,fin _ ?_⟩
   rw[show k.toNat=0 by omega]
   rfl
  ·have c2:¬ (decide (k<=0)||Kv.toArray.isEmpty)=true:=by rw[decide_eq_false hk0,hie];simp
   have em:((Kv.toArray.size:Nat):Int)*k=((xs.length*k.toNat:Nat):Int):=by
    rw[List.size_toArray,← hl,Int.natCast_mul,Int.toNat_of_nonneg (by omega)]
   have hs:(sizeLine:Int)<=(2^63-1)/8:=by decide
   refine call_meets F.slot_tuple_mul ⟨_,e,rfl⟩ F.entry_tuple_mul (F.args_tuple_mul_2 _ _) (x_ a Kv.toArray n dd sl k t c0 c1 c2 ?_ ?_ ?_) ⟨e,fin _ LX⟩
   ·rw[em];omega
   ·rw[em]
    unfold Builtin.Tuple.tupleTooMany
    simp only[decide_eq_true_eq]
    omega
   ·rw[LX,List.size_toArray,len_rep,Nat.mul_comm,← hl]
    exact hz
end
structure bq (K:PySem.W.Frag) (x qual:Str) (st:Stmt) (dv:Value) (f:Addr) (fd:FuncData):Prop where
 ex:∃ (oc:Value) (od:Option Addr) (kV doc pm:Value) (an:Option Addr) (KY ct:Value) (M9:Array (Option Value)),
  fd=PySem.W.fnOf x qual (gG st) (eH st) (aY st) dv kV doc pm an KY ct/\K.lookup f=some ⟨oc,od,.func fd,M9⟩/\PySem.W.codeIn K KY qual=true
 kp:PySem.W.keepIn K (.ref f)=true
variable{ds:List Value}{T:Addr}{qual:Str}
section
variable{K:PySem.W.Frag}
theorem bq.binds{st:Stmt}{o:Obj}(F:bq K x qual st (.ref T) f fd)(ho:K.lookup T=some o)(hs:o.data=.seq items n)
  (h:∀ (kV doc pm:Value) (an:Option Addr) (KY ct:Value) (us:List Value),(us++ds).length=ps.length->∃ k,bindArgs (PySem.W.fnOf x qual (gG st) (eH st) (aY st) (.ref T) kV doc pm an KY ct) ⟨us,[]⟩=seqItems? (.ref T) >>= k/\k (some items)=pure (ps.zip (us++ds))):Binds K fd ps ds:=by
 obtain⟨oc,od,kV,doc,pm,an,KY,ct,M9,rfl,lk,LP⟩:=F.ex
 intro s us X hl
 obtain⟨k,h1,h2⟩:=h kV doc pm an KY ct us hl
 exact BindsTo.of_defaults rfl (X _ _ ho) hs h1 h2
end
variable{v:V}
theorem GU{pos:Pos}(hg:Gl X x)(hm:∃ u,X.mg x=some u/\RelV v u)(hd:autoParam ((x==("__debug__" : Str))=false) aD._auto_1):PE X (.Name x pos) (tC v):=by
 obtain⟨u,h1,h2⟩:=hm
 exact Cv hg h1 h2 hd
theorem E4:bootBuiltins "max" = some (.builtin "max"):=by decide +kernel
variable{y:Str}
theorem Bu{cl:List (Str×Addr)}{pos Mx py:Pos}{wi:TI}{g:TG}{fs:List Str}(hN:X.N.Nodup)(hiy:X.N[i]?=some y)(hy:Loc X.env.scope y)(KC:X.calm=true)
  (K5:closureFor scope X.env=pure cl) (hk:scope.kind=.function) (nc:fF scope.names=true) (lo:gQ scope.names=true) (fh:gT cl scope.names=true) (ag:eD X cl) (fr:hZ X scope cl fs js)
  (hi:PI X tg iter wi) (hg:∀ C s₀ H₀ ex Kt,PG (oP X scope cl (ts++fs) C s₀ H₀ ex Kt) tg g) (he:∀ C s₀ H₀ ex Kt,PE (oP X scope cl (ts++fs) C s₀ H₀ ex Kt) elt te)
  (hs:autoParam (∀ x,foldedSetIterable iter X.env x=pure x) aI._auto_1) (N8:autoParam (swapsWith (.ListComp elt [⟨tg,iter,[],0⟩] scope pos) (some (.Name y py)) Mx.line X.env=pure true) aR._auto_1)
  (hf:autoParam (X.fn y=true\/X.env.scope.names.lookup y=some .local) aF._auto_1) :
  PS X (.Assign [.Name y py] (.ListComp elt [⟨tg,iter,[],0⟩] scope pos) Mx) (zB (uI wi g te ts js) (aO i)):=by
 intro Kt s σ H D I h
 rw[exec_Assign_Name_used _ _ _ _ N8]
 refine wpAny_bind (wpAny_standAt (wpAny_bind ?_))
 show wpAny _ X.A (do let _ ← comprehension (.ListComp elt [⟨tg,iter,[],0⟩] scope pos) scope X.env _ (newList []) false (eval iter X.env) (some (assign (.Name y py) X.env))) _ _ s
 refine wpAny_bind (wpAny_mono (sv (tt:=none) KC K5 hk nc lo fh ag fr hi hg (λ_ _ _ _ _=>trivial) he hs I (show AJ wi g none te ts js σ H (λx H1=>D.nx (σ.set i (some x)) H1) from h) (some (assign (.Name y py) X.env)) (λ_ s'=>SP X Kt D .next s') λDd H' s' C Io q hm f=>?_) (λ_ s' hq=>wpAny_pure (wpAny_pure hq)) λ_ _ e=>e)
 show wpAny _ X.A (assign (.Name y py) X.env (.ref Dd)) _ _ s'
 refine wpAny_assign_Name (p9 Io hN hiy hy (v:=.ref Dd) rfl (λs'' I'' ⟨a,sb,ha⟩=>?_) hf)
 obtain⟨m,hn⟩:=hm
 obtain⟨f0,f1,f2,f3,f4,f5⟩:=f
 have naC:a≠C:=by
  rcases ha with z | z
  ·rw[z];exact λw=>f1 w.symm
  ·exact f4 y a z
 refine⟨m,hn.sameBut sb (Ne.symm naC),λh' NN=>?_⟩
 exact⟨_,H',I''.other ⟨f0,f1,f2,f3,f4,f5⟩ NN,q⟩
theorem oq(a b c:Value):checkTypeCall "zip" ⟨[a,b,c],[]⟩=pure ():=by kernel_rfl
theorem pj(a b c:Value):checkBuiltinCall "zip.__new__" ⟨[.type "zip", a,b,c],[]⟩=pure ():=by kernel_rfl
abbrev bD(h:Heap)(T:Addr)(a b c:Value):Prop:=h.get? T=some { cls:=.type "tuple", data:=.seq #[a,b,c] }
structure Z3 (z TI TO i1 i2 i3:Addr):Prop where
 TIz:TI≠z
 TOz:TO≠z
 i1z:i1≠z
 i2z:i2≠z
 Gv:i3≠z
 TITO:TI≠TO
 TIi1:TI≠i1
 TIi2:TI≠i2
 JO:TI≠i3
 TOi1:TO≠i1
 TOi2:TO≠i2
 BP:TO≠i3
 i12:i1≠i2
 JE:i1≠i3
 JC:i2≠i3
structure L3 (z TO i1 i2 i3 l:Addr):Prop where
 z:l≠z
 o:l≠TO
 i1:l≠i1
 i2:l≠i2
 i3:l≠i3
section
variable{E:Value->Shared->Prop}
theorem cW{a b c x:Value}{Q:Unit->Shared->Prop}(hT:bD s.heap T a b c)
  (h:∀ h',h'.get? T=some { cls:=.type "tuple", data:=.seq ((#[a,b,c]:Array Value).setIfInBounds k x) }->Heap.SameBut T s.heap h'->Q () { s with heap:=h' }) :
  wpAny (model prog w) A (updateSeq T (·.setIfInBounds k x)) Q E s:=by
 refine wpAny_updateSeq hT rfl (h _ ?_ (Heap.SameBut.update ..))
 rw[Heap.get?_update_self _ hT rfl]
 simp[Obj.mapSeq]
variable{b1 b2 b3:Bool}{z TI TO i1 i2 i3 l3:Addr}{k3:Nat}{xs zs:Array Value}{x y v a b c:Value}
theorem xO(D:Z3 z TI TO i1 i2 i3)(D1:L3 z TO i1 i2 i3 l1)(D2:L3 z TO i1 i2 i3 l2)(D3:L3 z TO i1 i2 i3 l3)
  (hz:IsZip s.heap z TI TO .none) (Lj:bD s.heap TI (.ref i1) (.ref i2) (.ref i3)) (Ll:bD s.heap TO a b c)
  (h1:dY s.heap b1 i1 l1 k1) (h2:dY s.heap b2 i2 l2 k2) (h3:dY s.heap b3 i3 l3 k3) (LV:fD s.heap b1 l1 xs) (LW:fD s.heap b2 l2 ys) (MW:fD s.heap b3 l3 zs) (hx:xs[k1]?=some x) (hy:ys[k2]?=some y) (hv:zs[k3]?=some v)
  (hQ:∀ h',IsZip h' z TI TO (rawInt s.heap.objs.size)->bD h' TO x y v->dY h' b1 i1 l1 (k1+1)->dY h' b2 i2 l2 (k2+1)->dY h' b3 i3 l3 (k3+1)->bD h' s.heap.objs.size x y v->h'.objs.size=s.heap.objs.size+1 ->
   (∀ c o,c≠z->c≠TO->c≠i1->c≠i2->c≠i3->s.heap.get? c=some o->h'.get? c=some o)->Q (.ref s.heap.objs.size) { s with heap:=h' }) :
  wpAny (model prog w) A (Builtin.«zip.__next__» ⟨[.ref z],[]⟩) (λfin s'=>∃ v,fin=.done (.ret v)/\Q v s') E s:=by
 show wpAny _ _ (field (.ref z) 2 >>= _) _ _ _
 refine wpAny_bind (wpAny_field hz rfl (x:=.bool false) rfl ?_)
 show wpAny _ _ (field (.ref z) 3 >>= _) _ _ _
 refine wpAny_bind (wpAny_field hz rfl (x:=.ref TI) rfl ?_)
 refine wpAny_bind (wpAny_seqItems Lj rfl ?_)
 show wpAny _ _ (Builtin.SmallTypes.ownedTupleIsFree (.ref z) >>= _) _ _ _
 refine wpAny_bind ?_
 unfold Builtin.SmallTypes.ownedTupleIsFree
 refine wpAny_bind (wpAny_field hz rfl (x:=.none) rfl (wpAny_pure ?_))
 simp only[if_true]
 refine wpAny_bind (wpAny_rule ?_)
 refine wpAny_bind (wpAny_field hz rfl (x:=.ref TO) rfl ?_)
 refine wpAny_bind (wpAny_setField_rec hz (by simp) λh₁ hz1 hs1=>?_)
 replace hz1:IsZip h₁ z TI TO .ellipsis:=hz1
 refine wpAny_bind ?_
 simp only[List.zipIdx_cons,List.zipIdx_nil,List.forIn_cons,List.forIn_nil]
 refine wpAny_bind (wpAny_bind (wpAny_onRaise ?_))
 show wpAny _ _ (Builtin.SmallTypes.nextOf (.ref i1) >>= _) _ _ _
 refine wpAny_bind (cK (h1.at λo e=>hs1.extBut _ _ D.i1z e) (LV.at λo e=>hs1.extBut _ _ D1.z e) hx λh₂ h1₂ hs2=>wpAny_pure ?_)
 have hTO2:bD h₂ TO a b c:=hs2.extBut _ _ D.TOi1 (hs1.extBut _ _ D.TOz Ll)
 refine wpAny_bind (wpAny_seqItems hTO2 rfl ?_)
 refine wpAny_bind (cW hTO2 λh₃ hTO3 hs3=>?_)
 replace hTO3:bD h₃ TO x b c:=hTO3
 refine wpAny_bind (wpAny_letGo (wpAny_pure ?_))
 have Nc:∀ q o,q≠z->q≠TO->q≠i1->s.heap.get? q=some o->h₃.get? q=some o:=λq o c1 c2 c3 e=>hs3.extBut _ _ c2 (hs2.extBut _ _ c3 (hs1.extBut _ _ c1 e))
 refine wpAny_bind (wpAny_bind (wpAny_onRaise ?_))
 show wpAny _ _ (Builtin.SmallTypes.nextOf (.ref i2) >>= _) _ _ _
 refine wpAny_bind (cK (h2.at λo e=>Nc _ o D.i2z D.TOi2.symm D.i12.symm e) (LW.at λo e=>Nc _ o D2.z D2.o D2.i1 e) hy λh₄ h2₄ hs4=>wpAny_pure ?_)
 have hTO4:bD h₄ TO x b c:=hs4.extBut _ _ D.TOi2 hTO3
 refine wpAny_bind (wpAny_seqItems hTO4 rfl ?_)
 refine wpAny_bind (cW hTO4 λh₅ hTO5 hs5=>?_)
 replace hTO5:bD h₅ TO x y c:=hTO5
 refine wpAny_bind (wpAny_letGo (wpAny_pure ?_))
 have k5:∀ q o,q≠z->q≠TO->q≠i1->q≠i2->s.heap.get? q=some o->h₅.get? q=some o:=λq o c1 c2 c3 c4 e=>hs5.extBut _ _ c2 (hs4.extBut _ _ c4 (Nc q o c1 c2 c3 e))
 refine wpAny_bind (wpAny_bind (wpAny_onRaise ?_))
 show wpAny _ _ (Builtin.SmallTypes.nextOf (.ref i3) >>= _) _ _ _
 refine wpAny_bind (cK (h3.at λo e=>k5 _ o D.Gv D.BP.symm D.JE.symm D.JC.symm e) (MW.at λo e=>k5 _ o D3.z D3.o D3.i1 D3.i2 e) hv λh₆ h3₆ hs6=>wpAny_pure ?_)
 have hTO6:bD h₆ TO x y c:=hs6.extBut _ _ D.BP hTO5
 refine wpAny_bind (wpAny_seqItems hTO6 rfl ?_)
 refine wpAny_bind (cW hTO6 λh₇ hTO7 hs7=>?_)
 replace hTO7:bD h₇ TO x y v:=hTO7
 refine wpAny_bind (wpAny_letGo (wpAny_pure (wpAny_pure ?_)))
 refine wpAny_bind (wpAny_seqItems hTO7 rfl ?_)
 refine wpAny_bind (wpAny_newTuple ?_)
 have Mb:h₇.objs.size=s.heap.objs.size:=by rw[hs7.1,hs6.1,hs5.1,hs4.1,hs3.1,hs2.1,hs1.1]
 have hz₃:IsZip h₃ z TI TO .ellipsis:=hs3.extBut _ _ D.TOz.symm (hs2.extBut _ _ D.i1z.symm hz1)
 have hz5:IsZip h₅ z TI TO .ellipsis:=hs5.extBut _ _ D.TOz.symm (hs4.extBut _ _ D.i2z.symm hz₃)
 have hz7:IsZip h₇ z TI TO .ellipsis:=hs7.extBut _ _ D.TOz.symm (hs6.extBut _ _ D.Gv.symm hz5)
 have k7:∀ q o,q≠z->q≠TO->q≠i1->q≠i2->q≠i3->s.heap.get? q=some o->h₇.get? q=some o:=λq o c1 c2 c3 c4 c5 e=>hs7.extBut _ _ c2 (hs6.extBut _ _ c5 (k5 q o c1 c2 c3 c4 e))
 have h1₇:dY h₇ b1 i1 l1 (k1+1):=h1₂.at λo e=>hs7.extBut _ _ D.TOi1.symm (hs6.extBut _ _ D.JE (hs5.extBut _ _ D.TOi1.symm (hs4.extBut _ _ D.i12 (hs3.extBut _ _ D.TOi1.symm e))))
 have h2₇:dY h₇ b2 i2 l2 (k2+1):=h2₄.at λo e=>hs7.extBut _ _ D.TOi2.symm (hs6.extBut _ _ D.JC (hs5.extBut _ _ D.TOi2.symm e))
 have h3₇:dY h₇ b3 i3 l3 (k3+1):=h3₆.at λo e=>hs7.extBut _ _ D.BP.symm e
 have M0:z<h₇.objs.size:=Heap.lt_size hz7
 show wpAny _ _ (Builtin.SmallTypes.ownedTupleHandOut (.ref z) (.ref h₇.objs.size) >>= _) _ _ _
 refine wpAny_bind ?_
 unfold Builtin.SmallTypes.ownedTupleHandOut
 have hz₈:IsZip (h₇.push { cls:=.type "tuple", data:=.seq #[x,y,v] }) z TI TO .ellipsis:=Heap.get?_push_of_some _ hz7
 refine wpAny_bind (wpAny_setField_rec hz₈ (by simp) λh₉ hz9 hs9=>?_)
 replace hz9:IsZip h₉ z TI TO (rawInt h₇.objs.size):=hz9
 refine wpAny_setField_rec hz9 (by simp) λhA hzA hsA=>?_
 replace hzA:IsZip hA z TI TO (rawInt h₇.objs.size):=hzA
 have up:∀ c o,c≠z->h₇.get? c=some o->hA.get? c=some o:=λc o c1 e=>hsA.extBut _ _ c1 (hs9.extBut _ _ c1 (Heap.get?_push_of_some _ e))
 have hTA:bD hA h₇.objs.size x y v:=hsA.extBut _ _ (Nat.ne_of_gt M0) (hs9.extBut _ _ (Nat.ne_of_gt M0) (Heap.get?_push_size _ rfl))
 have Oc:hA.objs.size=h₇.objs.size+1:=by rw[hsA.1,hs9.1,Heap.size_push]
 rw[Mb] at hzA hTA Oc
 refine wpAny_pure ⟨_,rfl,?_⟩
 show Q (.ref h₇.objs.size) _
 rw[Mb]
 exact hQ hA hzA (up _ _ D.TOz hTO7) (h1₇.at λo e=>up _ o D.i1z e) (h2₇.at λo e=>up _ o D.i2z e) (h3₇.at λo e=>up _ o D.Gv e) hTA Oc λc o c1 c2 c3 c4 c5 e=>up c o c1 (k7 c o c1 c2 c3 c4 c5 e)
theorem yF{Q:Fin->Shared->Prop}(hh:A.handled=none)(D:Z3 z TI TO i1 i2 i3)(D1:L3 z TO i1 i2 i3 l1)(D2:L3 z TO i1 i2 i3 l2)(D3:L3 z TO i1 i2 i3 l3)
  (hz:IsZip s.heap z TI TO .none) (Lj:bD s.heap TI (.ref i1) (.ref i2) (.ref i3)) (Ll:bD s.heap TO a b c)
  (h1:dY s.heap b1 i1 l1 k1) (h2:dY s.heap b2 i2 l2 k2) (h3:dY s.heap b3 i3 l3 k3) (LV:fD s.heap b1 l1 xs) (LW:fD s.heap b2 l2 ys) (MW:fD s.heap b3 l3 zs) (Ma:xs[k1]?=none\/ys[k2]?=none\/zs[k3]?=none)
  (hE:∀ h' e,(∀ c o,c≠z->c≠TO->c≠i1->c≠i2->c≠i3->s.heap.get? c=some o->h'.get? c=some o)->(∃ o,h'.get? e=some o/\o.cls=.type "StopIteration")->E (.ref e) { s with heap:=h' }) :
  wpAny (model prog w) A (Builtin.«zip.__next__» ⟨[.ref z],[]⟩) Q E s:=by
 show wpAny _ _ (field (.ref z) 2 >>= _) _ _ _
 refine wpAny_bind (wpAny_field hz rfl (x:=.bool false) rfl ?_)
 show wpAny _ _ (field (.ref z) 3 >>= _) _ _ _
 refine wpAny_bind (wpAny_field hz rfl (x:=.ref TI) rfl ?_)
 refine wpAny_bind (wpAny_seqItems Lj rfl ?_)
 show wpAny _ _ (Builtin.SmallTypes.ownedTupleIsFree (.ref z) >>= _) _ _ _
 refine wpAny_bind ?_
 unfold Builtin.SmallTypes.ownedTupleIsFree
 refine wpAny_bind (wpAny_field hz rfl (x:=.none) rfl (wpAny_pure ?_))
 simp only[if_true]
 refine wpAny_bind (wpAny_rule ?_)
 refine wpAny_bind (wpAny_field hz rfl (x:=.ref TO) rfl ?_)
 refine wpAny_bind (wpAny_setField_rec hz (by simp) λh₁ hz1 hs1=>?_)
 replace hz1:IsZip h₁ z TI TO .ellipsis:=hz1
 refine wpAny_bind ?_
 simp only[List.zipIdx_cons,List.zipIdx_nil,List.forIn_cons,List.forIn_nil]
 refine wpAny_bind (wpAny_bind (wpAny_onRaise ?_))
 show wpAny _ _ (Builtin.SmallTypes.nextOf (.ref i1) >>= _) _ _ _
 cases hx:xs[k1]? with
 | none =>
  refine wpAny_bind (gm hh (h1.at λo e=>hs1.extBut _ _ D.i1z e) (LV.at λo e=>hs1.extBut _ _ D1.z e) hx λh₂ e hs2 he=>?_)
  obtain⟨oe,Mg,MB⟩:=he
  have hz2:IsZip h₂ z TI TO .ellipsis:=hs2 _ _ D.i1z.symm hz1
  have Nk:e≠z:=λx=>by subst x;rw[hz2] at Mg;cases Mg;simp at MB
  refine wpAny_setField_rec hz2 (by simp) λh₃ _ hs3=>hE h₃ e (λc o c1 _ c3 _ _ x=>hs3.extBut _ _ c1 (hs2 _ _ c3 (hs1.extBut _ _ c1 x))) ⟨oe,hs3.extBut _ _ Nk Mg,MB⟩
 | some x =>
  refine wpAny_bind (cK (h1.at λo e=>hs1.extBut _ _ D.i1z e) (LV.at λo e=>hs1.extBut _ _ D1.z e) hx λh₂ h1₂ hs2=>wpAny_pure ?_)
  have hTO2:bD h₂ TO a b c:=hs2.extBut _ _ D.TOi1 (hs1.extBut _ _ D.TOz Ll)
  refine wpAny_bind (wpAny_seqItems hTO2 rfl ?_)
  refine wpAny_bind (cW hTO2 λh₃ hTO3 hs3=>?_)
  replace hTO3:bD h₃ TO x b c:=hTO3
  refine wpAny_bind (wpAny_letGo (wpAny_pure ?_))
  have Nc:∀ q o,q≠z->q≠TO->q≠i1->s.heap.get? q=some o->h₃.get? q=some o:=λq o c1 c2 c3 e=>hs3.extBut _ _ c2 (hs2.extBut _ _ c3 (hs1.extBut _ _ c1 e))
  have hz₃:IsZip h₃ z TI TO .ellipsis:=hs3.extBut _ _ D.TOz.symm (hs2.extBut _ _ D.i1z.symm hz1)
  refine wpAny_bind (wpAny_bind (wpAny_onRaise ?_))
  show wpAny _ _ (Builtin.SmallTypes.nextOf (.ref i2) >>= _) _ _ _
  cases hy:ys[k2]? with
  | none =>
   refine wpAny_bind (gm hh (h2.at λo e=>Nc _ o D.i2z D.TOi2.symm D.i12.symm e) (LW.at λo e=>Nc _ o D2.z D2.o D2.i1 e) hy λh₄ e hs4 he=>?_)
   obtain⟨oe,Mg,MB⟩:=he
   have hz4:IsZip h₄ z TI TO .ellipsis:=hs4 _ _ D.i2z.symm hz₃
   have Nk:e≠z:=λx=>by subst x;rw[hz4] at Mg;cases Mg;simp at MB
   refine wpAny_setField_rec hz4 (by simp) λh₅ _ hs5=>hE h₅ e (λc o c1 c2 c3 c4 _ x=>hs5.extBut _ _ c1 (hs4 _ _ c4 (Nc c o c1 c2 c3 x))) ⟨oe,hs5.extBut _ _ Nk Mg,MB⟩
  | some y =>
   have hv:zs[k3]?=none:=by
    rcases Ma with h | h | h
    ·rw[hx] at h;cases h
    ·rw[hy] at h;cases h
    ·exact h
   refine wpAny_bind (cK (h2.at λo e=>Nc _ o D.i2z D.TOi2.symm D.i12.symm e) (LW.at λo e=>Nc _ o D2.z D2.o D2.i1 e) hy λh₄ h2₄ hs4=>wpAny_pure ?_)
   have hTO4:bD h₄ TO x b c:=hs4.extBut _ _ D.TOi2 hTO3
   refine wpAny_bind (wpAny_seqItems hTO4 rfl ?_)
   refine wpAny_bind (cW hTO4 λh₅ hTO5 hs5=>?_)
   refine wpAny_bind (wpAny_letGo (wpAny_pure ?_))
   have k5:∀ q o,q≠z->q≠TO->q≠i1->q≠i2->s.heap.get? q=some o->h₅.get? q=some o:=λq o c1 c2 c3 c4 e=>hs5.extBut _ _ c2 (hs4.extBut _ _ c4 (Nc q o c1 c2 c3 e))
   have hz5:IsZip h₅ z TI TO .ellipsis:=hs5.extBut _ _ D.TOz.symm (hs4.extBut _ _ D.i2z.symm hz₃)
   refine wpAny_bind (wpAny_bind (wpAny_onRaise ?_))
   show wpAny _ _ (Builtin.SmallTypes.nextOf (.ref i3) >>= _) _ _ _
   refine wpAny_bind (gm hh (h3.at λo e=>k5 _ o D.Gv D.BP.symm D.JE.symm D.JC.symm e) (MW.at λo e=>k5 _ o D3.z D3.o D3.i1 D3.i2 e) hv λh₆ e hs6 he=>?_)
   obtain⟨oe,Mg,MB⟩:=he
   have hz6:IsZip h₆ z TI TO .ellipsis:=hs6 _ _ D.Gv.symm hz5
   have Nk:e≠z:=λx=>by subst x;rw[hz6] at Mg;cases Mg;simp at MB
   refine wpAny_setField_rec hz6 (by simp) λh₇ _ hs7=>hE h₇ e (λc o c1 c2 c3 c4 c5 x=>hs7.extBut _ _ c1 (hs6 _ _ c5 (k5 c o c1 c2 c3 c4 x))) ⟨oe,hs7.extBut _ _ Nk Mg,MB⟩
end
section
variable{E:Value->Shared->Prop}
variable{b1 b2 b3:Bool}{z TI TO i1 i2 i3 l3:Addr}{k3:Nat}{xs zs:Array Value}{x y v a b c:Value}
theorem k8{Q:Option Value->Shared->Prop}(D:Z3 z TI TO i1 i2 i3)(D1:L3 z TO i1 i2 i3 l1)(D2:L3 z TO i1 i2 i3 l2)(D3:L3 z TO i1 i2 i3 l3)
  (hz:IsZip s.heap z TI TO .none) (Lj:bD s.heap TI (.ref i1) (.ref i2) (.ref i3)) (Ll:bD s.heap TO a b c)
  (h1:dY s.heap b1 i1 l1 k1) (h2:dY s.heap b2 i2 l2 k2) (h3:dY s.heap b3 i3 l3 k3) (LV:fD s.heap b1 l1 xs) (LW:fD s.heap b2 l2 ys) (MW:fD s.heap b3 l3 zs) (hx:xs[k1]?=some x) (hy:ys[k2]?=some y) (hv:zs[k3]?=some v)
  (hQ:∀ h',IsZip h' z TI TO (rawInt s.heap.objs.size)->bD h' TO x y v->dY h' b1 i1 l1 (k1+1)->dY h' b2 i2 l2 (k2+1)->dY h' b3 i3 l3 (k3+1)->bD h' s.heap.objs.size x y v->h'.objs.size=s.heap.objs.size+1 ->
   (∀ c o,c≠z->c≠TO->c≠i1->c≠i2->c≠i3->s.heap.get? c=some o->h'.get? c=some o)->Q (some (.ref s.heap.objs.size)) { s with heap:=h' }) :
  wpAny (model prog w) A (pyNext (.ref z)) Q E s:=by
 have hT:s.TypeIs (.ref z) "zip" := ⟨_,hz,rfl⟩
 unfold pyNext
 exact wpAny_bind (wpAny_attempt (wpAny_callSpecial?_slot (name:=Str.ofString "__next__") hT F.slot_zip_next
  (wpAny_call_entry F.slot_zip_next hT F.entry_zip_next
   (xO D D1 D2 D3 hz Lj Ll h1 h2 h3 LV LW MW hx hy hv λh' a1 a2 a3 a4 a5 a6 a7 a8=>wpAny_pure (hQ h' a1 a2 a3 a4 a5 a6 a7 a8)) (F.args_zip_next_1 _))))
theorem mx{Q:Option Value->Shared->Prop}(hh:A.handled=none)(D:Z3 z TI TO i1 i2 i3)(D1:L3 z TO i1 i2 i3 l1)(D2:L3 z TO i1 i2 i3 l2)(D3:L3 z TO i1 i2 i3 l3)
  (hz:IsZip s.heap z TI TO .none) (Lj:bD s.heap TI (.ref i1) (.ref i2) (.ref i3)) (Ll:bD s.heap TO a b c)
  (h1:dY s.heap b1 i1 l1 k1) (h2:dY s.heap b2 i2 l2 k2) (h3:dY s.heap b3 i3 l3 k3) (LV:fD s.heap b1 l1 xs) (LW:fD s.heap b2 l2 ys) (MW:fD s.heap b3 l3 zs) (Ma:xs[k1]?=none\/ys[k2]?=none\/zs[k3]?=none)
  (hQ:∀ h',(∀ c o,c≠z->c≠TO->c≠i1->c≠i2->c≠i3->s.heap.get? c=some o->h'.get? c=some o)->Q none { s with heap:=h' }):wpAny (model prog w) A (pyNext (.ref z)) Q E s:=by
 have hT:s.TypeIs (.ref z) "zip" := ⟨_,hz,rfl⟩
 unfold pyNext
 refine wpAny_bind (wpAny_attempt (wpAny_callSpecial?_slot (name:=Str.ofString "__next__") hT F.slot_zip_next
  (wpAny_call_entry F.slot_zip_next hT F.entry_zip_next (yF hh D D1 D2 D3 hz Lj Ll h1 h2 h3 LV LW MW Ma λh' e hk he=>?_) (F.args_zip_next_1 _))))
 obtain⟨o,ho,hc⟩:=he
 refine wpAny_bind (wpAny_isInstance (T := "StopIteration") (b:=true) ⟨o,ho,hc⟩ isSubtype_stop ?_)
 exact wpAny_pure (hQ _ hk)
end
abbrev Ie(h:Heap)(b1 b2 b3:Bool)(l1 l2 l3:Addr):Heap:=(Ds h b1 b2 l1 l2).push (CL b3 l3)
abbrev Im(h:Heap)(b1 b2 b3:Bool)(l1 l2 l3:Addr):Heap:=(Ie h b1 b2 b3 l1 l2 l3).push { cls:=.type "tuple", data:=.seq #[.ref h.objs.size,.ref (EV h b1 l1).objs.size,.ref (Ds h b1 b2 l1 l2).objs.size] }
abbrev Ib(h:Heap)(b1 b2 b3:Bool)(l1 l2 l3:Addr):Heap:=(Im h b1 b2 b3 l1 l2 l3).push { cls:=.type "tuple", data:=.seq #[.none,.none,.none] }
abbrev Ek(h:Heap)(b1 b2 b3:Bool)(l1 l2 l3:Addr):Heap:=(Ib h b1 b2 b3 l1 l2 l3).push { cls:=.type "zip", data:=.fields #[.none,.bool false,.bool false,.ref (Ie h b1 b2 b3 l1 l2 l3).objs.size,.ref (Im h b1 b2 b3 l1 l2 l3).objs.size] }
theorem oz(b1 b2 b3:Bool)(l1 l2 l3:Addr)(xs ys zs:Array Value) :
  Meets (Builtin.«zip.__new__» ⟨[.type "zip", .ref l1,.ref l2,.ref l3],[]⟩) (λ_ R s=>fD s.heap b1 l1 xs/\fD s.heap b2 l2 ys/\fD s.heap b3 l3 zs ∧
   R (.ok (.ret (.ref (Ib s.heap b1 b2 b3 l1 l2 l3).objs.size))) { s with heap:=Ek s.heap b1 b2 b3 l1 l2 l3 }) :=
 .of_wp λprog w A R s h=>by
  obtain⟨hp,g,d,tk,os⟩:=s;obtain⟨LV,LW,MW,h⟩:=h
  have N7:=sub_zip
  have hL1:fD (Shared.heap ⟨hp,g,d,tk,os⟩) b1 l1 xs:=LV
  have hL2:fD (Shared.heap ⟨hp.push (CL b1 l1),g,d,tk,os⟩) b2 l2 ys:=fD.push LW _
  have hL3:fD (Shared.heap ⟨(hp.push (CL b1 l1)).push (CL b2 l2),g,d,tk,os⟩) b3 l3 zs:=fD.push (fD.push MW _) _
  wp_walk using fu hL1,fu hL2,fu hL3
  exact⟨_,rfl,h⟩
section
variable{E:Value->Shared->Prop}
theorem w5{b1 b2 b3:Bool}{l3:Addr}{xs zs:Array Value}(LV:fD s.heap b1 l1 xs)(LW:fD s.heap b2 l2 ys)(MW:fD s.heap b3 l3 zs)
  (h:∀ h',IsZip h' (s.heap.objs.size+5) (s.heap.objs.size+3) (s.heap.objs.size+4) .none->bD h' (s.heap.objs.size+3) (.ref s.heap.objs.size) (.ref (s.heap.objs.size+1)) (.ref (s.heap.objs.size+2)) ->
   bD h' (s.heap.objs.size+4) .none .none .none->dY h' b1 s.heap.objs.size l1 0->dY h' b2 (s.heap.objs.size+1) l2 0->dY h' b3 (s.heap.objs.size+2) l3 0 ->
   (∀ c o,s.heap.get? c=some o->h'.get? c=some o)->Q (.ref (s.heap.objs.size+5)) { s with heap:=h' }) :
  wpAny (model prog w) A (call (.type "zip") [.ref l1,.ref l2,.ref l3]) Q E s:=by
 refine callType_new F.called_zip (by decide) (oq _ _ _) (pj _ _ _) (λobj=>F.initArgs_range_3 obj _ _ _) F.entry_zip_new
  (oz b1 b2 b3 l1 l2 l3 xs ys zs) ⟨LV,LW,MW,?_⟩
 have z1:(EV s.heap b1 l1).objs.size=s.heap.objs.size+1:=Heap.size_push ..
 have z2:(Ds s.heap b1 b2 l1 l2).objs.size=s.heap.objs.size+2:=by rw[Heap.size_push,z1]
 have z3:(Ie s.heap b1 b2 b3 l1 l2 l3).objs.size=s.heap.objs.size+3:=by rw[Heap.size_push,z2]
 have z4:(Im s.heap b1 b2 b3 l1 l2 l3).objs.size=s.heap.objs.size+4:=by rw[Heap.size_push,z3]
 have z5:(Ib s.heap b1 b2 b3 l1 l2 l3).objs.size=s.heap.objs.size+5:=by rw[Heap.size_push,z4]
 have g6:(Ek s.heap b1 b2 b3 l1 l2 l3).get? (Ib s.heap b1 b2 b3 l1 l2 l3).objs.size=some _:=Heap.get?_push_size _ rfl
 have g5:(Ek s.heap b1 b2 b3 l1 l2 l3).get? (Im s.heap b1 b2 b3 l1 l2 l3).objs.size=some _:=Heap.get?_push_of_some _ (Heap.get?_push_size _ rfl)
 have g4:(Ek s.heap b1 b2 b3 l1 l2 l3).get? (Ie s.heap b1 b2 b3 l1 l2 l3).objs.size=some _:=Heap.get?_push_of_some _ (Heap.get?_push_of_some _ (Heap.get?_push_size _ rfl))
 have g3:(Ek s.heap b1 b2 b3 l1 l2 l3).get? (Ds s.heap b1 b2 l1 l2).objs.size=some _:=Heap.get?_push_of_some _ (Heap.get?_push_of_some _ (Heap.get?_push_of_some _ (Heap.get?_push_size _ rfl)))
 have g2:(Ek s.heap b1 b2 b3 l1 l2 l3).get? (EV s.heap b1 l1).objs.size=some _:=Heap.get?_push_of_some _ (Heap.get?_push_of_some _ (Heap.get?_push_of_some _ (Heap.get?_push_of_some _ (Heap.get?_push_size _ rfl))))
 have g1:(Ek s.heap b1 b2 b3 l1 l2 l3).get? s.heap.objs.size=some _:=Heap.get?_push_of_some _ (Heap.get?_push_of_some _ (Heap.get?_push_of_some _ (Heap.get?_push_of_some _ (Heap.get?_push_of_some _ (Heap.get?_push_size _ rfl)))))
 show _/\_
 rw[z3,z4,z5] at g6
 rw[z1,z2,z3] at g4
 rw[z4] at g5
 rw[z2] at g3
 rw[z1] at g2
 rw[z5]
 exact⟨⟨_,g6,rfl⟩,h _ g6 g4 g5 (dY.new _ b1 _ _ g1) (dY.new _ b2 _ _ g2) (dY.new _ b3 _ _ g3) λc o x =>
  Heap.get?_push_of_some _ (Heap.get?_push_of_some _ (Heap.get?_push_of_some _ (Heap.get?_push_of_some _ (Heap.get?_push_of_some _ (Heap.get?_push_of_some _ x)))))⟩
end
def Jd (K : PySem.W.Frag) (b1 b2 b3 : Bool) (a1 a2 a3 : Addr) : It :=
  ⟨λi H => ∃ xs ys zs x y v, jT K H b1 a1 xs /\ jT K H b2 a2 ys /\ jT K H b3 a3 zs /\ xs[i]? = some x /\ ys[i]? = some y /\ zs[i]? = some v,
   λi H r H' => ∃ p x y v, H p = none /\ r = .ref p /\ H' = upd H p (.tup [x, y, v]) /\ (∀ xs, jT K H b1 a1 xs -> xs[i]? = some x) /\ (∀ ys, jT K H b2 a2 ys -> ys[i]? = some y) /\ (∀ zs, jT K H b3 a3 zs -> zs[i]? = some v),
   λi H => ∃ xs ys zs, jT K H b1 a1 xs /\ jT K H b2 a2 ys /\ jT K H b3 a3 zs /\ (xs.length <= i \/ ys.length <= i \/ zs.length <= i)⟩
theorem pR{z TI TO i1 i2 i3:Addr}{xs:List V}(I:Inv X Kt σ H s)(h:jT X.K H b a xs)(hf:∀ b∈[z,TO,i1,i2,i3,TI],kC X Kt H b):L3 z TO i1 i2 i3 a :=
 ⟨cz I h (hf z (by simp)),cz I h (hf TO (by simp)),cz I h (hf i1 (by simp)),cz I h (hf i2 (by simp)),cz I h (hf i3 (by simp))⟩
theorem xx{K:PySem.W.Frag}{tp:Pos}(b1 b2 b3:Bool)(a1 a2 a3 z TI TO i1 i2 i3:Addr)(D:Z3 z TI TO i1 i2 i3) :
  Turn P w K (.Tuple elts x1 tp) (Jd K b1 b2 b3 a1 a2 a3) [z,TO,i1,i2,i3,TI] z (λi h=>IsZip h z TI TO .none/\bD h TI (.ref i1) (.ref i2) (.ref i3)/\(∃ a b c,bD h TO a b c)/\dY h b1 i1 a1 i/\dY h b2 i2 a2 i/\dY h b3 i3 a3 i) where
 mem:=by simp
 obj:=λi h st b hb=>by
  obtain⟨hz,Lj,⟨a,c,d,Ll⟩,h1,h2,h3⟩:=st
  simp only[List.mem_cons,List.mem_nil_iff,or_false] at hb
  rcases hb with q | q | q | q | q | q <;> subst q
  ·exact⟨_,hz,λv z=>by cases z⟩
  ·exact⟨_,Ll,λv z=>by cases z⟩
  ·obtain⟨o,vs,e,d⟩:=h1.obj
   exact⟨o,e,λv z=>by rw[d] at z;cases z⟩
  ·obtain⟨o,vs,e,d⟩:=h2.obj
   exact⟨o,e,λv z=>by rw[d] at z;cases z⟩
  ·obtain⟨o,vs,e,d⟩:=h3.obj
   exact⟨o,e,λv z=>by rw[d] at z;cases z⟩
  ·exact⟨_,Lj,λv z=>by cases z⟩
 keep:=λi h h' st k=>by
  obtain⟨hz,Lj,⟨a,c,d,Ll⟩,h1,h2,h3⟩:=st
  exact⟨k z (by simp) _ hz,k TI (by simp) _ Lj,⟨a,c,d,k TO (by simp) _ Ll⟩,h1.at λo e=>k i1 (by simp) o e,h2.at λo e=>k i2 (by simp) o e,h3.at λo e=>k i3 (by simp) o e⟩
 item:=by
  intro X hP hw hK hc i Kt s σ H E I hf st hg
  subst hP hw hK
  obtain⟨xs,ys,zs,x,y,v,Lk,Ld,Mw,hx,hy,hv⟩:=hg
  obtain⟨M1,Nn,p1,Oa⟩:=I.row Lk
  obtain⟨Mi,Np,p2,Ob⟩:=I.row Ld
  obtain⟨Od,rv3,p3,hz3'⟩:=I.row Mw
  obtain⟨u1,hu1,ru1⟩:=Nn.get hx
  obtain⟨u2,hu2,ru2⟩:=Np.get hy
  obtain⟨u3,hu3,ru3⟩:=rv3.get hv
  obtain⟨hz,Lj,⟨a,c,d,Ll⟩,h1,h2,h3⟩:=st
  obtain⟨oi1,vs1,NS,di1⟩:=h1.obj
  obtain⟨oi2,vs2,NT,di2⟩:=h2.obj
  obtain⟨oi3,vs3,ei3,di3⟩:=h3.obj
  refine k8 D (pR I Lk hf) (pR I Ld hf) (pR I Mw hf) hz Lj Ll h1 h2 h3 p1 p2 p3 (x:=u1) (y:=u2) (v:=u3) (by simpa using hu1) (by simpa using hu2) (by simpa using hu3) λh' g1 g2 g3 g4 g4' g5 g6 g7=>⟨_,rfl,?_⟩
  refine wpAny_letOwnedTupleGo_zip (s:={ s with heap:=h' }) g1 λhN hz3 MF=>?_
  have LX:H s.heap.objs.size=none:=I.bC.fresh (Nat.le_refl _)
  have lt:∀ {c:Addr} {o:Obj},s.heap.get? c=some o->c≠s.heap.objs.size:=λe=>Nat.ne_of_lt (Heap.lt_size e)
  have M4:∀ b o,b ∉ [z,TO,i1,i2,i3,TI]->s.heap.get? b=some o->hN.get? b=some o:=λb o hb q=>by
   simp only[List.mem_cons,List.mem_nil_iff,or_false,not_or] at hb
   exact(MF.2 b hb.1).trans (g7 b o hb.1 hb.2.1 hb.2.2.1 hb.2.2.2.1 hb.2.2.2.2.1 q)
  have hT3:hN.get? s.heap.objs.size=some { cls:=.type "tuple", data:=.seq #[u1,u2,u3] }:=(MF.2 _ (lt hz).symm).trans g5
  have I3:Inv X Kt σ (upd H s.heap.objs.size (.tup [x,y,v])) { s with heap:=hN,toks:=s.toks } :=
   I.ju (ch:=[z,TO,i1,i2,i3,TI]) M4 hf (Nat.le_refl _) (λb hb=>by
    simp only[List.mem_cons,List.mem_nil_iff,or_false] at hb
    rcases hb with q | q | q | q | q | q <;> subst q
    ·exact⟨_,hz⟩
    ·exact⟨_,Ll⟩
    ·exact⟨_,NS⟩
    ·exact⟨_,NT⟩
    ·exact⟨_,ei3⟩
    ·exact⟨_,Lj⟩)
    ⟨by show 3<=sizeLine;decide,[u1,u2,u3],.cons ru1 (.cons ru2 (.cons ru3 .nil)),⟨_,hT3,rfl,_,rfl⟩⟩
  refine⟨.ref s.heap.objs.size,_,I3,rfl,⟨_,x,y,v,LX,rfl,rfl,λzs' Nm=>by rw[I.kG Nm Lk];exact hx,λzs' Nm=>by rw[I.kG Nm Ld];exact hy,λzs' Nm=>by rw[I.kG Nm Mw];exact hv⟩,
   ⟨hz3,(MF.2 TI D.TIz).trans (g7 TI _ D.TIz D.TITO D.TIi1 D.TIi2 D.JO Lj),⟨_,_,_,(MF.2 TO D.TOz).trans g2⟩,g3.at λo e=>(MF.2 i1 D.i1z).trans e,g4.at λo e=>(MF.2 i2 D.i2z).trans e,g4'.at λo e=>(MF.2 i3 D.Gv).trans e⟩,λb hb=>?_⟩
  have nb:b≠s.heap.objs.size:=by
   simp only[List.mem_cons,List.mem_nil_iff,or_false] at hb
   rcases hb with q | q | q | q | q | q <;> subst q
   ·exact lt hz
   ·exact lt Ll
   ·exact lt NS
   ·exact lt NT
   ·exact lt ei3
   ·exact lt Lj
  rw[ak nb]
  exact(hf b hb).1
 done:=by
  intro X hP hw hK hc i Kt s σ H E I hf st hg
  subst hP hw hK
  obtain⟨xs,ys,zs,Lk,Ld,Mw,Ma⟩:=hg
  obtain⟨M1,Nn,p1,Oa⟩:=I.row Lk
  obtain⟨Mi,Np,p2,Ob⟩:=I.row Ld
  obtain⟨Od,rv3,p3,hz3'⟩:=I.row Mw
  obtain⟨hz,Lj,⟨a,c,d,Ll⟩,h1,h2,h3⟩:=st
  have l1:=Nn.length
  have l2:=Np.length
  have l3:=rv3.length
  refine mx (I.ok.hd hc) D (pR I Lk hf) (pR I Ld hf) (pR I Mw hf) hz Lj Ll h1 h2 h3 p1 p2 p3 ?_ λh' k=>⟨rfl,?_⟩
  ·rcases Ma with q | q | q
   ·exact .inl (by simp;omega)
   ·exact .inr (.inl (by simp;omega))
   ·exact .inr (.inr (by simp;omega))
  ·exact I.vZ (t':=s.toks) (ch:=[z,TO,i1,i2,i3,TI]) (λb u hb e=>by
    simp only[List.mem_cons,List.mem_nil_iff,or_false,not_or] at hb
    exact k b u hb.1 hb.2.1 hb.2.2.1 hb.2.2.2.1 hb.2.2.2.2.1 e) hf
 self:=λ_ _ _ _ _ st h=>by
  obtain⟨hz,_⟩:=st
  exact wpAny_pyIter_zip hz h
theorem Cw(n:Nat):Z3 (n+5) (n+3) (n+4) n (n+1) (n+2):=by
 refine⟨?_,?_,?_,?_,?_,?_,?_,?_,?_,?_,?_,?_,?_,?_,?_⟩ <;> (show @Ne Nat _ _;omega)
def Dt(K:PySem.W.Frag)(tl:TA):TI:=fun σ H R=>tl σ H λvs H1=>∃ b1 b2 b3 a1 a2 a3,vs=[.ref a1,.ref a2,.ref a3]/\(∃ xs,jT K H1 b1 a1 xs)/\(∃ ys,jT K H1 b2 a2 ys)/\(∃ zs,jT K H1 b3 a3 zs)/\R (Jd K b1 b2 b3 a1 a2 a3) H1
theorem BG{tp:Pos}{l1 l2 l3:Expr}{p pos:Pos}(hg:Gl X "zip")(hm:X.mg "zip" = none)(hl:PA X [l1,l2,l3] tl)(hs:autoParam (starEach [l1,l2,l3] X.env=[(false,eval l1 X.env),(false,eval l2 X.env),(false,eval l3 X.env)]) aR._auto_1)(LY:autoParam (starEach [l2,l3] X.env=[(false,eval l2 X.env),(false,eval l3 X.env)]) aR._auto_1) :
  PI X (.Tuple elts x1 tp) (.Call (.Name "zip" p) [l1,l2,l3] [] pos) (Dt X.K tl):=by
 intro Kt s σ H R I h
 refine Call_ (ix I hg hm PyProof.Rows.boot_zip (PyProof.Rows.callWith_type1 (cJ (hl pos Kt s σ H _ I h) λus s1 ⟨vs,H1,I1,r1,q1⟩=>?_) (by rw[hs,LY]) (by rw[LY];rfl)))
 obtain⟨b1,b2,b3,a1,a2,a3,e,⟨xs,Lk⟩,⟨ys,Ld⟩,⟨zs,Mw⟩,q⟩:=q1
 subst e
 cases r1 with
 | cons r rr =>
  cases rr with
  | cons r' rr =>
   cases rr with
   | cons Og rr =>
    cases rr
    cases (show _=Value.ref a1 from r)
    cases (show _=Value.ref a2 from r')
    cases (show _=Value.ref a3 from Og)
    obtain⟨M1,Nn,p1,Oa⟩:=I1.row Lk
    obtain⟨Mi,Np,p2,Ob⟩:=I1.row Ld
    obtain⟨Od,rv3,p3,hz3⟩:=I1.row Mw
    refine w5 p1 p2 p3 λh' g1 g2 g3 g4 g5 g6 g7=>?_
    have I2:Inv X Kt σ H1 { s1 with heap:=h' }:=I1.kept (t':=s1.toks) g7
    refine wpAny_pyIter_zip (s:={ s1 with heap:=h' }) g1 ?_
    refine⟨s1.heap.objs.size+5,[s1.heap.objs.size+5,s1.heap.objs.size+4,s1.heap.objs.size,s1.heap.objs.size+1,s1.heap.objs.size+2,s1.heap.objs.size+3],_,_,H1,rfl,I2,
     xx b1 b2 b3 a1 a2 a3 _ _ _ _ _ _ (Cw s1.heap.objs.size),⟨g1,g2,⟨_,_,_,g3⟩,g4,g5,g6⟩,λb hb=>?_,q⟩
    have hle:s1.heap.objs.size<=b:=by
     simp only[List.mem_cons,List.mem_nil_iff,or_false] at hb
     rcases hb with q | q | q | q | q | q
     ·rw[q];exact Nat.le_add_right _ 5
     ·rw[q];exact Nat.le_add_right _ 4
     ·rw[q];exact Nat.le_refl _
     ·rw[q];exact Nat.le_add_right _ 1
     ·rw[q];exact Nat.le_add_right _ 2
     ·rw[q];exact Nat.le_add_right _ 3
    exact I1.qY hle (I1.bC.fresh hle)
variable{oe:Obj}{outer:List Env}
variable{to:Option Addr}
section
variable{M:Model}{E:Value->Shared->Prop}
theorem p6{env:Env}{L e:Addr}{vs:Array Value}{head:Value}{Nh:Bool}{Q:Unit->Shared->Prop}
  (MV:A.frames=some (env::outer)) (hl:s.heap.FunFrames base (env::outer)) (hf:env.frame=some L)
  (he:s.heap.get? e=some oe) (hd:oe.data=.fields vs) (Mb:1<vs.size)
  (h:∀ h' T oT ts,h'.get? e=some (Obj.mapFields (·.setIfInBounds 1 (.ref T)) oe)->s.heap.objs.size<=T->T≠e->h'.get? T=some oT->oT.data=.fields ts->ts[3]?=some (rawInt L) ->
   (∀ b o,b≠e->b ∉ uv (env::outer)->s.heap.get? b=some o->h'.get? b=some o)->(∀ b o,b≠e->s.heap.get? b=some o->∃ sl,h'.get? b=some { o with slots:=sl })->Q () { s with heap:=h' }) :
  wpAny M A (do let a ← frameOf env;let pl ← entryPlaceOf L Nh;let b ← EntryCells.newEntry head a .none (rawInt L) .none pl;setField (.ref e) 1 b) Q E s:=by
 have hene:e ∉ (env::outer).filterMap (·.frame):=λhm=>by
  obtain⟨_,o,ho,N3⟩:=hl.mem hm
  rw[he] at ho;injection ho with ho;subst ho;exact N3 vs hd
 refine wpAny_bind (wpAny_frameOf_fun MV hl hf λh₁ hs1=>?_)
 refine wpAny_bind (wpAny_entryPlaceOf λpl K7=>?_)
 unfold EntryCells.newEntry newFields
 refine wpAny_bind (wpAny_newObj_type ?_ (K7.sizeOk5 _ _ _ _ _))
 have he1:h₁.get? e=some oe:=(hs1.2.1 e hene).trans he
 have he₂:=Heap.get?_push_of_some (h:=h₁) { cls:=.type "traceback", dict:=none,data:=.fields ([head,.ref L,.none,rawInt L,.none]++(if pl.isEmpty then List.replicate 6 Value.none else pl)).toArray } he1
 have hTe:h₁.objs.size≠e:=Nat.ne_of_gt (Heap.lt_size he1)
 have hd3:=Obj.data_mapFields hd (·.setIfInBounds 1 (Value.ref h₁.objs.size))
 have he3:=Heap.get?_update_self (Obj.mapFields (·.setIfInBounds 1 (Value.ref h₁.objs.size))) he₂ (Obj.isFreed_of_fields hd3)
 have hT₃:=(Heap.get?_update_other (h₁.push { cls:=.type "traceback", dict:=none,data:=.fields ([head,.ref L,.none,rawInt L,.none]++(if pl.isEmpty then List.replicate 6 Value.none else pl)).toArray })
  (Obj.mapFields (·.setIfInBounds 1 (Value.ref h₁.objs.size))) (Ne.symm hTe)).trans (Heap.get?_push_size h₁ rfl)
 have keep:∀ b o,b≠e->h₁.get? b=some o ->
   ((h₁.push { cls:=.type "traceback", dict:=none,data:=.fields ([head,.ref L,.none,rawInt L,.none]++(if pl.isEmpty then List.replicate 6 Value.none else pl)).toArray }).update e (Obj.mapFields (·.setIfInBounds 1 (Value.ref h₁.objs.size)))).get? b=some o:=λb o MJ hb=>by
  rw[Heap.get?_update_other _ _ (Ne.symm MJ)]
  exact Heap.get?_push_of_some _ hb
 refine wpAny_setField he₂ hd Mb (h _ h₁.objs.size _ _ he3 ?_ hTe hT₃ rfl (by first | (simp;done) | (rcases K7 with rfl | ⟨_,_,_,_,_,_,_,rfl⟩ <;> simp)) ?_ ?_)
 ·exact Nat.le_of_eq hs1.1.symm
 ·intro b o MJ hbf hb
  exact keep b o MJ ((hs1.2.1 b hbf).trans hb)
 ·intro b o MJ hb
  obtain⟨sl,hs⟩:=hs1.2.2 b o hb
  exact⟨sl,keep b _ MJ hs⟩
def Lies(h:Heap)(e:Addr)(vs:Array Value)(to:Option Addr):Prop:=match to with
 | none=>vs[1]?=some .none
 | some T=>vs[1]?=some (.ref T)/\T≠e/\∃ oT ts,h.get? T=some oT/\oT.data=.fields ts/\ts[3]?=some .none
theorem xS{env:Env}{L e:Addr}{vs:Array Value}{Q:Unit->Shared->Prop}
  (MV:A.frames=some (env::outer)) (hl:s.heap.FunFrames base (env::outer)) (hf:env.frame=some L)
  (he:s.heap.get? e=some oe) (hd:oe.data=.fields vs) (hto:Lies s.heap e vs to)
  (h:∀ h' T oT ts,h'.get? e=some (Obj.mapFields (·.setIfInBounds 1 (.ref T)) oe)->s.heap.objs.size<=T->T≠e->h'.get? T=some oT->oT.data=.fields ts->ts[3]?=some (rawInt L) ->
   (∀ b o,b≠e->(∀ T,to=some T->b≠T)->b ∉ uv (env::outer)->s.heap.get? b=some o->h'.get? b=some o) ->
   (∀ b o,b≠e->(∀ T,to=some T->b≠T)->s.heap.get? b=some o->∃ sl,h'.get? b=some { o with slots:=sl })->(∀ b o,s.heap.get? b=some o->∃ o',h'.get? b=some o')->Q () { s with heap:=h' }) :
  wpAny M A (noteFrame (.ref e) env) Q E s:=by
 unfold noteFrame
 simp only[hf]
 cases to with
 | none =>
  have h1:vs[1]?=some .none:=hto
  refine wpAny_bind (wpAny_field he hd h1 ?_)
  rw[if_neg (by decide)]
  refine p6 MV hl hf he hd (Array.getElem?_eq_some_iff.mp h1).1 λh' T oT ts a1 a2 a3 a4 a5 a6 a7 a8=>?_
  refine h h' T oT ts a1 a2 a3 a4 a5 a6 (λb o n1 _ n2 q=>a7 b o n1 n2 q) (λb o n1 _ q=>a8 b o n1 q) λb o q=>?_
  by_cases z:b=e
  ·subst z;exact⟨_,a1⟩
  ·obtain⟨sl,r⟩:=a8 b o z q;exact⟨_,r⟩
 | some T0 =>
  obtain⟨h1,hTe,oT,ts,hT,hdT,h3⟩:=hto
  refine wpAny_bind (wpAny_field he hd h1 ?_)
  rw[if_pos (show (Value.ref T0 != Value.none)=true from by simp)]
  refine wpAny_bind (wpAny_field hT hdT h3 ?_)
  rw[if_neg (show ¬ ((Value.none==rawInt L)=true) from by simp[rawInt])]
  refine wpAny_bind (wpAny_setField hT hdT (Array.getElem?_eq_some_iff.mp h3).1 ?_)
  have other:∀ b,b≠T0->(s.heap.update T0 (Obj.mapFields (·.setIfInBounds 3 Value.none))).get? b=s.heap.get? b:=λb hb=>Heap.get?_update_other _ _ (Ne.symm hb)
  have M7:∀ b o,s.heap.get? b=some o->(∀ vs,o.data≠.fields vs)->b≠T0:=λb o hb N3 q=>by
   rw[q,hT] at hb;injection hb with hb;subst hb;exact N3 ts hdT
  have Ng:=Heap.get?_update_self (Obj.mapFields (·.setIfInBounds 3 Value.none)) hT (Obj.isFreed_of_fields (Obj.data_mapFields hdT _))
  refine p6 MV (hl.of_keeps λb o hb N3=>⟨o,(other b (M7 b o hb N3)).trans hb,rfl⟩) hf ((other e (Ne.symm hTe)).trans he) hd (Array.getElem?_eq_some_iff.mp h1).1 λh' T oT' ts' a1 a2 a3 a4 a5 a6 a7 a8=>?_
  refine h h' T oT' ts' a1 (by simpa [Heap.update] using a2) a3 a4 a5 a6 (λb o n1 n2 n3 q=>a7 b o n1 n3 ((other b (n2 T0 rfl)).trans q)) (λb o n1 n2 q=>a8 b o n1 ((other b (n2 T0 rfl)).trans q)) λb o q=>?_
  by_cases z:b=e
  ·subst z;exact⟨_,a1⟩
  ·by_cases z2:b=T0
   ·subst z2
    obtain⟨sl,r⟩:=a8 b _ z Ng;exact⟨_,r⟩
   ·obtain⟨sl,r⟩:=a8 b o z ((other b z2).trans q);exact⟨_,r⟩
end
def jS(C:Addr)(dd:Option Addr)(e:Addr):HO:=.ext λh=>∃ t,h.get? e=some ⟨.ref C,dd,.fields #[.ref t,.none,.none,.none,.bool false,.none],#[]⟩
def GZ(C:Addr)(dd:Option Addr)(e T:Addr):HO:=.ext λh=>∃ vs,h.get? e=some ⟨.ref C,dd,.fields vs,#[]⟩/\vs[1]?=some (.ref T)
def JV(fl:Value)(T:Addr):HO:=.ext λh=>∃ oT ts,h.get? T=some oT/\oT.data=.fields ts/\ts[3]?=some fl
def nh(Hc:Hp)(e T C:Addr)(dd:Option Addr)(fl:Value):Hp:=upd (upd Hc T (JV fl T)) e (GZ C dd e T)
variable{fl:Value}{Hc:Hp}
theorem r_{e:Addr}:nh Hc e T C dd fl e=some (GZ C dd e T):=aw
theorem pX{e:Addr}(n:T≠e):nh Hc e T C dd fl T=some (JV fl T):=by unfold nh;rw[ak n,aw]
theorem lu{e b:Addr}(n:b≠e)(n2:b≠T):nh Hc e T C dd fl b=Hc b:=by unfold nh;rw[ak n,ak n2]
theorem Inv.note{e:Addr}{vs:Array Value}{φ:Heap->Prop}{Q:Unit->Shared->Prop}{E:Value->Shared->Prop}(I:Inv X Kt σ H s)(K4:X.stack=X.env::X.outer)(hf:X.env.frame=some X.env.locals)
  (he:H e=some (.ext φ)) (hx:s.heap.get? e=some ⟨.ref C,dd,.fields vs,#[]⟩) (lies:Lies s.heap e vs to) (hT:∀ T,to=some T->(∃ ψ,H T=some (.ext ψ))/\Hc T=none) (hc:∀ b,b≠e->(∀ T,to=some T->b≠T)->Hc b=H b)
  (h:∀ h' T,Hc T=none->T≠e->Inv X Kt σ (nh Hc e T C dd (rawInt X.env.locals)) { s with heap:=h' }->Q () { s with heap:=h' }) :
  wpAny (model X.prog X.w) X.A (noteFrame (.ref e) X.env) Q E s:=by
 have hl:=I.stack
 have MV:=I.ok.frames
 have sf:=I.qL
 rw[K4] at hl MV sf
 refine xS (base:=X.base) MV hl hf hx rfl lies λh' T oT ts a1 a2 a3 a4 a5 a6 a7 a8 a9=>?_
 have hTn:H T=none:=I.bC.fresh a2
 have nT:∀ b u,H b=some u->b≠T:=λb u q z=>by rw[z,hTn] at q;cases q
 have MP:∀ b u,H b=some u->(∀ ψ,u≠.ext ψ)->b≠e/\∀ T0,to=some T0->b≠T0:=by
  intro b u q hu
  refine⟨λz=>?_,λT0 z w=>?_⟩
  ·rw[z,he] at q;exact hu _ (Option.some.inj q).symm
  ·obtain⟨⟨ψ,q2⟩,_⟩:=hT T0 z
   rw[w,q2] at q;exact hu _ (Option.some.inj q).symm
 have old:∀ b u,H b=some u->(∀ ψ,u≠.ext ψ)->nh Hc e T C dd (rawInt X.env.locals) b=some u:=λb u q hu=>by
  obtain⟨n1,n2⟩:=MP b u q hu
  rw[lu n1 (nT b u q),hc b n1 n2];exact q
 have hcT:Hc T=none:=by
  by_cases z:∃ T0,to=some T0/\T=T0
  ·obtain⟨T0,z1,z2⟩:=z;rw[z2];exact(hT T0 z1).2
  ·rw[hc T a3 λT0 z1 z2=>z ⟨T0,z1,z2⟩];exact hTn
 have un:∀ b o,s.heap.get? b=some o->H b=none->b≠e/\(∀ T0,to=some T0->b≠T0)/\b≠T:=by
  intro b o q n
  refine⟨λz=>?_,λT0 z w=>?_,Nat.ne_of_lt (Nat.lt_of_lt_of_le (Heap.lt_size q) a2)⟩
  ·rw[z,he] at n;cases n
  ·obtain⟨⟨ψ,q2⟩,_⟩:=hT T0 z
   rw[w,q2] at n;cases n
 refine h h' T hcT a3 ?_
 have U:Un (uv X.stack) [] H (nh Hc e T C dd (rawInt X.env.locals)) s.heap h':=by
  rw[K4]
  refine⟨λb o q n nf _=>?_,λb o q n _ _=>?_,λb o q n _=>?_,λb o q _=>a9 b o q,λb xs q=>old b _ q (λ_ z=>nomatch z),λb ob u q=>old b _ q (λ_ z=>nomatch z),λb ps q=>⟨#[],?_⟩⟩
  ·obtain⟨n1,n2,_⟩:=un b o q n;exact a7 b o n1 n2 nf q
  ·obtain⟨n1,n2,_⟩:=un b o q n;exact a8 b o n1 n2 q
  ·obtain⟨n1,n2,n3⟩:=un b o q n
   rw[lu n1 n3,hc b n1 n2];exact n
  ·rw[old b _ q (λ_ z=>nomatch z)];simp
 have ok:lU X.prog X.w (nh Hc e T C dd (rawInt X.env.locals)) h':=λb u q=>by
  by_cases z:b=e
  ·subst z
   rw[r_] at q;cases q
   refine⟨⟨_,a1,?_⟩,⟨_,a1⟩,λh1 h2 ⟨ws,q1,q2⟩ k=>⟨ws,k _ q1,q2⟩⟩
   have Mb:1<vs.size:=by
    cases to with
    | none=>exact(Array.getElem?_eq_some_iff.mp (show vs[1]?=some .none from lies)).1
    | some T0=>exact(Array.getElem?_eq_some_iff.mp lies.1).1
   simp[Mb]
  ·by_cases z2:b=T
   ·subst z2
    rw[pX a3] at q;cases q
    exact⟨⟨oT,ts,a4,a5,a6⟩,⟨_,a4⟩,λh1 h2 ⟨o1,t1,q1,q2,q3⟩ k=>⟨o1,t1,k _ q1,q2,q3⟩⟩
   ·rw[lu z z2] at q
    have z3:∀ T0,to=some T0->b≠T0:=λT0 w w2=>by rw[w2,(hT T0 w).2] at q;cases q
    rw[hc b z z3] at q
    have nf:∀ c u',H c=some u'->c ∉ uv (X.env::X.outer):=λc u' q' hm=>by have:=sf c hm;rw[q'] at this;cases this
    refine(I.bC b u q).ma (λc v Ni q'=>?_) (λc q'=>old c _ q' (λ_ z=>nomatch z)) λc xs q'=>old c _ q' (λ_ z=>nomatch z)
    rcases Ni with rfl | Ni
    ·exact a7 c v z z3 (nf c u q) q'
    ·obtain⟨n1,n2⟩:=MP c _ Ni (λ_ z=>nomatch z)
     exact a7 c v n1 n2 (nf c _ Ni) q'
 exact I.call (ch:=[]) U ok I.bare (λb z=>absurd z (by simp))
theorem Inv.FY{e:Addr}(I:Inv X Kt σ (nh Hc e T C dd fl) s)(n:T≠e):∃ vs oT ts,s.heap.get? e=some ⟨.ref C,dd,.fields vs,#[]⟩/\vs[1]?=some (.ref T)/\s.heap.get? T=some oT/\oT.data=.fields ts/\ts[3]?=some fl:=by
 obtain⟨vs,h1,h2⟩:=(I.bC e _ r_).1
 obtain⟨oT,ts,q⟩:=(I.bC T _ (pX n)).1
 exact⟨vs,oT,ts,h1,h2,q⟩
theorem Inv.HV{e:Addr}{Q:Unit->Shared->Prop}{E:Value->Shared->Prop}(I:Inv X Kt σ (nh Hc e T C dd fl) s)(hfl:fl=.none\/fl=rawInt X.env.locals)(n:T≠e)(hcT:Hc T=none)(K4:X.stack=X.env::X.outer)(hf:X.env.frame=some X.env.locals)
  (h:∀ h' T,Hc T=none->T≠e->Inv X Kt σ (nh Hc e T C dd (rawInt X.env.locals)) { s with heap:=h' }->Q () { s with heap:=h' }) :
  wpAny (model X.prog X.w) X.A (noteFrame (.ref e) X.env) Q E s:=by
 obtain⟨vs,oT,ts,hx,h1,hT,hd,h3⟩:=I.FY n
 rcases hfl with rfl | rfl
 ·refine I.note (Hc:=Hc) (to:=some T) K4 hf r_ hx ⟨h1,n,oT,ts,hT,hd,h3⟩ (λT0 z=>?_) (λb n1 n2=>(lu n1 (n2 T rfl)).symm) h
  cases z
  exact⟨⟨_,pX n⟩,hcT⟩
 ·unfold noteFrame
  simp only[hf]
  refine wpAny_bind (wpAny_field hx rfl h1 ?_)
  rw[if_pos (show (Value.ref T != Value.none)=true from by simp)]
  refine wpAny_bind (wpAny_field hT hd h3 ?_)
  rw[if_pos (show (rawInt X.env.locals==rawInt X.env.locals)=true from by simp)]
  exact wpAny_pure (h s.heap T hcT n I)
theorem Inv.HG{e:Addr}{Q:Unit->Shared->Prop}{E:Value->Shared->Prop}(I:Inv X Kt σ H s)(he:H e=some (jS C dd e))(K4:X.stack=X.env::X.outer)(hf:X.env.frame=some X.env.locals)
  (h:∀ h' T,upd H e (iM C dd e) T=none->T≠e->Inv X Kt σ (nh (upd H e (iM C dd e)) e T C dd (rawInt X.env.locals)) { s with heap:=h' }->Q () { s with heap:=h' }) :
  wpAny (model X.prog X.w) X.A (noteFrame (.ref e) X.env) Q E s:=by
 obtain⟨t,hx⟩:=(I.bC e _ he).1
 exact I.note (Hc:=upd H e (iM C dd e)) (to:=none) K4 hf he hx rfl (λ_ z=>by cases z) (λb n1 _=>ak n1) h
theorem Inv.AO{e:Addr}{fr:Option Addr}{Q:Unit->Shared->Prop}{E:Value->Shared->Prop}(I:Inv X Kt σ (nh Hc e T C dd fl) s)(n:T≠e)
  (h:∀ h',Inv X Kt σ (nh Hc e T C dd (fr.elim .none λf=>rawInt f)) { s with heap:=h' }->Q () { s with heap:=h' }) :
  wpAny (model X.prog X.w) X.A (setFlight (.ref e) fr) Q E s:=by
 obtain⟨vs,oT,ts,hx,h1,hT,hd,h3⟩:=I.FY n
 unfold setFlight
 refine wpAny_bind (wpAny_field hx rfl h1 ?_)
 rw[if_pos (show (Value.ref T != Value.none)=true from by simp)]
 have Mb:3<ts.size:=(Array.getElem?_eq_some_iff.mp h3).1
 refine wpAny_setField hT hd Mb (h _ ?_)
 have other:∀ b,b≠T->(s.heap.update T (Obj.mapFields (·.setIfInBounds 3 (fr.elim Value.none λf=>rawInt f)))).get? b=s.heap.get? b:=λb hb=>Heap.get?_update_other _ _ (Ne.symm hb)
 have Ng:=Heap.get?_update_self (Obj.mapFields (·.setIfInBounds 3 (fr.elim Value.none λf=>rawInt f))) hT (Obj.isFreed_of_fields (Obj.data_mapFields hd _))
 have nT:∀ b,nh Hc e T C dd fl b=none->b≠T:=λb q z=>by rw[z,pX n] at q;cases q
 have same:∀ b,b≠T->nh Hc e T C dd (fr.elim .none λf=>rawInt f) b=nh Hc e T C dd fl b:=λb z=>by
  by_cases w:b=e
  ·subst w;rw[r_,r_]
  ·rw[lu w z,lu w z]
 have ne:∀ b u,nh Hc e T C dd fl b=some u->(∀ ψ,u≠.ext ψ)->b≠T:=λb u q hu z=>by rw[z,pX n] at q;exact hu _ (Option.some.inj q).symm
 refine I.un (t':=s.toks) ⟨λb o q z _ _=>(other b (nT b z)).trans q,λb o q z _ _=>⟨o.slots,(other b (nT b z)).trans q⟩,λb o q z _=>by rw[same b (nT b z)];exact z,λb o q _=>?_,λb xs q=>?_,λb ob u q=>?_,λb ps q=>⟨#[],?_⟩⟩ λb u q=>?_
 ·by_cases z:b=T
  ·subst z;exact⟨_,Ng⟩
  ·exact⟨o,(other b z).trans q⟩
 ·rw[same b (ne b _ q λ_ z=>nomatch z)];exact q
 ·rw[same b (ne b _ q λ_ z=>nomatch z)];exact q
 ·rw[same b (ne b _ q λ_ z=>nomatch z),q];simp
 ·by_cases z:b=T
  ·subst z
   rw[pX n] at q;cases q
   refine⟨⟨_,_,Ng,Obj.data_mapFields hd _,?_⟩,⟨_,Ng⟩,λh1 h2 ⟨o1,t1,q1,q2,q3⟩ k=>⟨o1,t1,k _ q1,q2,q3⟩⟩
   simp[Mb]
  ·rw[same b z] at q
   refine(I.bC b u q).ma (λc v hc q'=>(other c ?_).trans q') (λc q'=>?_) λc xs q'=>?_
   ·rcases hc with rfl | hc
    ·exact z
    ·exact ne c _ hc λ_ z=>nomatch z
   ·rw[same c (ne c _ q' λ_ z=>nomatch z)];exact q'
   ·rw[same c (ne c _ q' λ_ z=>nomatch z)];exact q'
def bU(P:Program)(w:World):Gx:=λouter H s E e s'=>∃ (ea T C:Addr) (dd:Option Addr) (Hc:Hp),e=.ref ea/\s'.os=s.os/\AllBare s'.gens/\Un (uv outer) [] H (nh Hc ea T C dd .none) s.heap s'.heap/\lU P w (nh Hc ea T C dd .none) s'.heap ∧
 Hc ea=some (iM C dd ea)/\Hc T=none/\T≠ea/\E (.ref ea) none Hc
def Zx (X : Cx) (E : St -> XK) (e : Value) (s : Shared) : Prop := ∃ (ea C : Addr) (dd : Option Addr) (Kt : List (Addr × Obj)) (σ : St), e = .ref ea ∧
  ((∃ H, Inv X Kt σ H s /\ H ea = some (jS C dd ea) /\ E σ (.ref ea) none (upd H ea (iM C dd ea))) ∨
   (∃ Hc T fl, Inv X Kt σ (nh Hc ea T C dd fl) s /\ (fl = .none \/ fl = rawInt X.env.locals) /\ Hc ea = some (iM C dd ea) /\ Hc T = none /\ T ≠ ea /\ E σ (.ref ea) none Hc))
variable{E:St->XK}
theorem Zx.note{e:Value}{Q:Unit->Shared->Prop}{F:Value->Shared->Prop}(z:Zx X E e s)(K4:X.stack=X.env::X.outer)(hf:X.env.frame=some X.env.locals)
  (h:∀ s' ea C dd Kt σ Hc T,e=.ref ea->Inv X Kt σ (nh Hc ea T C dd (rawInt X.env.locals)) s'->Hc ea=some (iM C dd ea)->Hc T=none->T≠ea->E σ (.ref ea) none Hc->Q () s') :
  wpAny (model X.prog X.w) X.A (noteFrame e X.env) Q F s:=by
 obtain⟨ea,C,dd,Kt,σ,rfl,⟨H,I,h1,h2⟩ | ⟨Hc,T,fl,I,h1,h2,h3,h4,h5⟩⟩:=z
 ·exact I.HG h1 K4 hf λh' T q1 q2 I2=>h _ ea C dd Kt σ _ T rfl I2 aw q1 q2 h2
 ·exact I.HV h1 h4 h3 K4 hf λh' T q1 q2 I2=>h _ ea C dd Kt σ _ T rfl I2 h2 q1 q2 h5
theorem Zx.Fl{E:XK}{e:Value}{F:Value->Shared->Prop}(z:Zx X (λ_=>E) e s)(K4:X.stack=X.env::X.outer)(hf:X.env.frame=some X.env.locals)(hex:X.ex=[]) :
  wpAny (model X.prog X.w) X.A (leaving X.env e) (λ_ s'=>bU X.prog X.w X.outer X.H₀ X.s₀ E e s') F s:=by
 unfold leaving
 refine wpAny_bind (z.note K4 hf λs' ea C dd Kt σ Hc T he I h1 h2 h3 h4=>?_)
 subst he
 refine I.AO h3 λh' I2=>⟨ea,T,C,dd,Hc,rfl,I2.os,I2.bare,?_,I2.bC,h1,h2,h3,h4⟩
 have:=I2.base
 rw[hex] at this
 exact this
theorem Zx.own(K4:X.stack=X.env::X.outer)(hf:X.env.frame=some X.env.locals):PassesOwn (model X.prog X.w) X.A X.env (Zx X E):=by
 intro e s z
 refine z.note K4 hf λs' ea C dd Kt σ Hc T he I h1 h2 h3 h4=>?_
 subst he
 obtain⟨vs,oT,ts,hx,q1,_⟩:=I.FY h3
 show wpAny _ _ _ _ _ _
 refine wpAny_bind (wpAny_field hx rfl q1 ?_)
 rw[if_neg (show ¬ ((Value.ref T==Value.none)=true) from by simp)]
 rw[hf]
 refine I.AO h3 λh' I2=>⟨ea,C,dd,Kt,σ,rfl,.inr ⟨Hc,T,_,I2,.inr rfl,h1,h2,h3,h4⟩⟩
structure eS (X:Cx) (E:St->XK):Prop where
 pass:∀ (Kt:List (Addr×Obj)) (σ:St) (H:Hp) (s:Shared) (e:Value) (s':Shared),Inv X Kt σ H s->bU X.prog X.w X.stack H s (E σ) e s'->X.xe e s'
 new:∀ (Kt:List (Addr×Obj)) (σ:St) (H:Hp) (s:Shared) (e C:Addr) (dd:Option Addr),Inv X Kt σ H s->H e=some (jS C dd e)->E σ (.ref e) none (upd H e (iM C dd e))->X.xe (.ref e) s
 own:PassesOwn (model X.prog X.w) X.A X.env X.xe
abbrev Cx.out(X:Cx)(E:St->XK):Cx:=X.pk (Zx X E)
theorem DZ(K4:X.stack=X.env::X.outer)(hf:X.env.frame=some X.env.locals):eS (X.out E) E where
 pass:=by
  intro Kt σ H s e s' I h
  obtain⟨ea,T,C,dd,Hc,rfl,os,bare,un,bC,h1,h2,h3,hE⟩:=h
  have I':=I.gY.zL (ch:=[]) os un bC bare (λb z=>absurd z (by simp))
  exact⟨ea,C,dd,Kt,σ,rfl,.inr ⟨Hc,T,.none,I',.inl rfl,h1,h2,h3,hE⟩⟩
 new:=λKt σ H s e C dd I he hE=>⟨e,C,dd,Kt,σ,rfl,.inl ⟨H,I.gY,he,hE⟩⟩
 own:=Zx.own K4 hf
variable{N:List Str}{M9:Array (Option Value)}{od:Option Addr}{body:List Stmt}{params:Arguments}
theorem uT{K:PySem.W.Frag}{dV kV doc pm KY ct oc:Value}{an:Option Addr}(lk:K.lookup f=some ⟨oc,od,.func (PySem.W.fnOf name qual params body scope dV kV doc pm an KY ct),M9⟩)(LP:PySem.W.codeIn K KY qual=true)(S:cB N ps scope)
  (len:∀ vs H Q E,sp vs H Q E->vs.length=ps.length)
  (MR:∀ (A:Around) (outer:List Env) (s:Shared) (H:Hp) (vs:List V) (Q:VK) (E:XK),bZ k (A.deeper (envOfC qual scope s.heap.objs.size f KY))->sp vs H Q E ->
   ∃ t,kj ((kQ (bU P w) P w K mg base N qual scope f KY A outer s H E).out λ_=>E) body t/\t { nx:=λ_ H'=>Q .cy H',rt:=Q } (start N vs) H) :
  aV P w K mg base (bU P w) (k+1) f (PySem.W.fnOf name qual params body scope dV kV doc pm an KY ct) ps sp:=by
 refine Hz lk LP S len λA outer s H vs Q E hr hs=>?_
 obtain⟨t,h1,h2⟩:=MR A outer s H vs Q E hr hs
 refine⟨t,λKt s1 σ H1 D I q=>?_,h2⟩
 refine wpAny_mono (h1 Kt s1 σ H1 D (I.pk _) q) (λf s' z=>z.gY) λe s' z=>?_
 exact z.Fl rfl rfl rfl
variable{pos':Pos}
section
open PySem.Builtin.ObjectAttr (storeInOwnDict storeTaker? setByDescriptor)
theorem qp{e t:Addr}(he:h.get? e=some ⟨.ref C,dd,.fields #[.ref t,.none,.none,.none,.bool false,.none],#[]⟩):bV P w H h e (jS C dd e) :=
 ⟨⟨t,he⟩,⟨_,he⟩,λ_ _ ⟨t,q⟩ k=>⟨t,k _ q⟩⟩
section
variable{p pos:Pos}
def HC(C:Addr)(t:TA):TE:=fun σ H Q=>t σ H λvs H1=>vs.length<=sizeLine/\∀ a,H1 a=none->Q (.ref a) (upd H1 a (jS C none a))
theorem BS(hc:PySem.W.excIn X.K C eO "ValueError.__new__" = true)(kp:PySem.W.keepIn X.K (.ref C)=true)(hg:Gl X x)(hm:X.mg x=some (.ref C))
  (ha:PA X (e::es) t) (Lz:autoParam ((x==("__debug__" : Str))=false) aD._auto_1) (he:autoParam (starEach (e::es) X.env=(false,eval e X.env)::starEach es X.env) aR._auto_1) (K7:autoParam ((backTo pos (starEach es X.env)).any (·.1)=false) aR._auto_1) :
  PE X (.Call (.Name x p) (e::es) [] pos) (HC C t):=by
 intro Kt s σ H Q I h
 refine wpAny_Call_Name_kw (kF I hg hm ?_ Lz)
 refine PySem.W.callWith_K (h₀:=X.base) I.ok.mod.Dy kp (cJ (ha pos Kt s σ H _ I h) λus s1 ⟨vs,H1,I1,r,hl,q⟩=>⟨I1.ja,?_⟩) he K7
 obtain⟨bm,N,nm,qn,bs,Ms,sn,sub,ab,col,dd,k0,k1,k2,k3,k5,mN,hC,hN,MK,T⟩:=CZ I1.ja hc
 obtain⟨hp,g,d,tk,os⟩:=s1
 refine wpAny_call_exc_subT PySem.F.excBase_ValueError T hC hN MK (λh' a M=>?_) (by show us.length<=sizeLine;rw[← r.length];exact hl)
 obtain⟨t',e1,_,_⟩:=M.there
 have I2:Inv X Kt σ (upd H1 a (jS C none a)) ⟨h',g,d,tk,os⟩:=I1.DG (t':=tk) M.keeps M.new (qp e1)
 have hn:H1 a=none:=I1.qu M.new
 exact⟨.ref a,_,I2,rfl,q a hn⟩
def Fv(C:Addr)(sp:Sp)(t:TA):TE:=fun σ H Q=>t σ H λvs H1=>vs.length<=sizeLine/\∀ a,H1 a=none->sp (.ref a::vs) (upd H1 a (jS C none a)) (λv H2=>v=.cy/\Q (.ref a) H2) E0
theorem Bf(hc:og X.K C "ValueError.__new__" f=true)(hf:PySem.W.isFn X.K (.ref f)=true)(kp:PySem.W.keepIn X.K (.ref C)=true)(F:aV X.prog X.w X.K X.mg X.base (bU X.prog X.w) k f fd ps sp)(hr:bZ (k+1) X.A)(hb:Binds X.K fd ps [])(hg:Gl X x)(hm:X.mg x=some (.ref C))
  (ha:PA X (e::es) t) (Lz:autoParam ((x==("__debug__" : Str))=false) aD._auto_1) (he:autoParam (starEach (e::es) X.env=(false,eval e X.env)::starEach es X.env) aR._auto_1) (K7:autoParam ((backTo pos (starEach es X.env)).any (·.1)=false) aR._auto_1) :
  PE X (.Call (.Name x p) (e::es) [] pos) (Fv C sp t):=by
 intro Kt s σ H Q I h
 refine wpAny_Call_Name_kw (kF I hg hm ?_ Lz)
 refine PySem.W.callWith_K (h₀:=X.base) I.ok.mod.Dy kp (cJ (ha pos Kt s σ H _ I h) λus s1 ⟨vs,H1,I1,r,hl,q⟩=>⟨I1.ja,?_⟩) he K7
 have X1:=I1.ja
 obtain⟨bm,N,nm,qn,bs,Ms,sn,sub,ab,col,dd,k0,k1,k2,k3,k5,mN,hC,hN,MK,T⟩:=yP X1 hc
 obtain⟨hp,g,d,tk,os⟩:=s1
 have f1:=tc_lookup
 have f2:=tc_bind (.ref C)
 have hT:(⟨hp,g,d,tk,os⟩:Shared).TypeIs (.ref C) "type" := ⟨_,hC,rfl⟩
 refine wpAny_call (codeAny_of_tree ?_)
 show wpAny _ _ (callAny (.ref C) _) _ _ _
 repeat (any_goals (first | assumption | with_reducible refine wpAny_loadPart_at hC ?_ | wp_step))
 refine⟨rfl,?_⟩
 refine codeAny_call_builtin_at (Code.quiet_builtin _ (by decide +kernel)) entry_typeCall (wpAny_check_type_call_sub hC (nQ PySem.F.excBase_ValueError T hC hN MK
  (λh' kk self=>PySem.W.bind_fn (λb o z=>kk b o (X1 b o z)) self (beq_iff_eq.mp hf)) (λh' kk ht hx hz=>?_) (by show us.length<=sizeLine;rw[← r.length];exact hl)))
 have I2:Inv X Kt σ (upd H1 (hp.objs.size+1) (jS C none (hp.objs.size+1))) ⟨h',g,d,tk,os⟩:=I1.DG (t':=tk) kk (Heap.get?_none_of_le (Nat.le_succ _)) (qp hx)
 have hq:=q (hp.objs.size+1) (I1.qu (Heap.get?_none_of_le (Nat.le_succ _)))
 have r2:Vals (V.ref (hp.objs.size+1)::vs) (Value.ref (hp.objs.size+1)::us):=.cons rfl r
 have hlen:(Value.ref (hp.objs.size+1)::us++[]).length=ps.length:=by
  rw[List.append_nil,← r2.length]
  exact F.len _ _ _ _ hq
 refine wpAny_call (codeAny_mono (F.run _ X.stack _ _ ⟨Value.ref (hp.objs.size+1)::us,[]⟩ (Value.ref (hp.objs.size+1)::us) _ _ E0 (hr.make C us []) (I2.j9.make C us []) (by have:=hb _ (Value.ref (hp.objs.size+1)::us) I2.ja hlen;rwa [List.append_nil] at this) r2 hq) λr s' Mv=>?_)
 cases r with
 | error e =>
  obtain⟨_,_,_,_,_,_,_,_,_,_,_,_,_,z⟩:=Mv
  exact z.elim
 | ok fl =>
  cases fl with
  | ret u =>
   obtain⟨v,H',I3,rv,ev,q3⟩:=I2.after Mv
   subst ev
   exact⟨rv,⟨V.ref (hp.objs.size+1),H',I3,rfl,q3⟩⟩
  | next=>exact False.elim Mv
  | brk=>exact False.elim Mv
  | cont=>exact False.elim Mv
def Fo(K:PySem.W.Frag)(ta tv:TE)(f:Str):TS:=λD σ H=>tv σ H λy H1=>ta σ H1 λx H2=>∃ a C,x=.ref a/\H2 a=some (jS C none a)/\h9 K C/\((PySem.W.clsIn K C).any λcd=>fK cd.mro)=true/\bN K C f ∧
 ∀ d,H2 d=none->d≠a->D.nx σ (upd (upd H2 d (.xd [(f,y)])) a (jS C (some d) a))
theorem zZ{value:Expr}{tv:TE}{n:Str}(ha:PE X o ta)(hv:PE X value tv)(hs:swapsWith value (some (.Attribute o n pos')) pos.line X.env=pure false):PS X (.Assign [.Attribute o n pos'] value pos) (Fo X.K ta tv n):=by
 intro Kt s σ H D I h
 refine plainObj_wpAny_Assign_Attribute (cJ (hv Kt s σ H _ I h) λu s1 ⟨y,H1,I1,ry,q⟩=>cJ (ha Kt s1 σ H1 _ I1 q) λov s2 ⟨x,H2,I2,rx,a,C,ex,ea,c,po,na,q2⟩=>?_) hs
 subst ex
 obtain rfl:ov=Value.ref a:=rx
 obtain⟨tt,hx⟩:=(I2.bC a _ ea).1
 refine zG po c I2.ja hx na.DH λh' tk d e1 e2 e3 e4=>?_
 have hd:H2 d=none:=I2.qu e2
 have nda:d≠a:=λz=>by rw[z,ea] at hd;cases hd
 refine⟨σ,_,?_,q2 d hd nda⟩
 have up:∀ b,b≠a->b≠d->upd (upd H2 d (.xd [(n,y)])) a (jS C (some d) a) b=H2 b:=λb h1 h2=>by rw[ak h1,ak h2]
 have nd:∀ b u,s2.heap.get? b=some u->b≠d:=λb u e z=>by rw[z,e2] at e;cases e
 have nH:∀ b u,H2 b=some u->b≠d:=λb u e z=>by rw[z,hd] at e;cases e
 have nE:∀ b u,H2 b=some u->(∀ C dd,u≠jS C dd a)->b≠a:=λb u e hu z=>by
  rw[z,ea] at e
  exact hu C none (Option.some.inj e).symm
 refine I2.un (t':=tk) ⟨λb u e z _ _=>e4 b u (λw=>by rw[w,ea] at z;cases z) e,λb u e z _ _=>⟨u.slots,e4 b u (λw=>by rw[w,ea] at z;cases z) e⟩,λb u e z _=>?_,λb u e _=>?_,λb xs e=>?_,λb ob u e=>?_,λb ps e=>?_⟩ λb u e=>?_
 ·rw[up b (λw=>by rw[w,ea] at z;cases z) (nd b u e)];exact z
 ·by_cases w:b=a
  ·rw[w];exact⟨_,e1⟩
  ·exact⟨u,e4 b u w e⟩
 ·rw[up b (nE b _ e λ_ _ z=>by cases z) (nH b _ e)];exact e
 ·rw[up b (nE b _ e λ_ _ z=>by cases z) (nH b _ e)];exact e
 ·exact⟨#[],by rw[up b (nE b _ e λ_ _ z=>by cases z) (nH b _ e),e];simp⟩
 ·by_cases w:b=a
  ·subst w
   rw[aw] at e
   cases e
   exact qp e1
  ·rw[ak w] at e
   by_cases w2:b=d
   ·subst w2
    rw[aw] at e
    cases e
    refine⟨_,e3,λg=>?_⟩
    show kZ (List.lookup g [(n,y)]) (if g=n then some _ else none)
    rw[List.lookup_cons]
    by_cases z:g=n
    ·rw[if_pos z,show (g==n)=true from by simp[z]];exact ry
    ·rw[if_neg z,show (g==n)=false from by simp[z]];exact True.intro
   ·rw[ak w2] at e
    refine(I2.bC b u e).ma (λc v hc z=>e4 c v ?_ z) (λc z=>?_) λc ys z=>?_
    ·rcases hc with z' | z'
     ·rw[z'];exact w
     ·exact nE c _ z' λ_ _ z=>by cases z
    ·rw[up c (nE c _ z λ_ _ z=>by cases z) (nH c _ z)];exact z
    ·rw[up c (nE c _ z λ_ _ z=>by cases z) (nH c _ z)];exact z
end
end
section
variable{M:Model}{E:Value->Shared->Prop}
theorem DK{e:Addr}{o:Obj}(hx:s.heap.get? e=some o)(h:Q o.cls s):wpAny M A (typeOf (.ref e)) Q E s:=by
 unfold typeOf
 exact wpAny_bind (wpAny_loadPart hx (wpAny_pure h))
theorem vM{e:Addr}{o:Obj}{vs:Array Value}{Q:Bool->Shared->Prop}(hx:s.heap.get? e=some o)(hd:o.data=.fields vs)(h:Q false s):wpAny M A (isType (.ref e)) Q E s:=by
 unfold isType loadHead
 refine wpAny_bind (wpAny_loadPart hx (wpAny_pure ?_))
 rw[hd];exact h
end
def F4(K:PySem.W.Frag)(E:St->XK)(te:TE):TS:=λD σ H=>te σ H λv H1=>∃ e C dd,v=.ref e/\H1 e=some (jS C dd e)/\h9 K C/\PySem.W.typeIn K (.ref C)=some (.type "type")/\E σ (.ref e) none (upd H1 e (iM C dd e))
theorem t_{exc:Expr}{pos:Pos}(O:eS X E)(KC:X.calm=true)(he:PE X exc te):PS X (.Raise (some exc) none pos) (F4 X.K E te):=by
 intro Kt s σ H D I h
 rw[arm_exec_Raise]
 refine wpAny_bind (wpAny_standAt ?_)
 unfold raiseStmt
 dsimp only [evalOpt,Option.map]
 refine wpAny_bind (wpAny_bind (cJ (he Kt s σ H _ I h) λu s1 hq=>wpAny_bind (wpAny_standAt (wpAny_pure ?_))))
 obtain⟨v,H1,I1,rv,e,C,dd,ev,hN,c,ht,hE⟩:=hq
 subst ev
 obtain rfl:u=Value.ref e:=rv
 obtain⟨t,hx⟩:=(I1.bC e _ hN).1
 have X1:=I1.ja
 refine wpAny_bind (wpAny_pure ?_)
 refine wpAny_bind (wpAny_holding ?_)
 unfold excFromValue isExcClass
 refine wpAny_bind (wpAny_bind (vM hx rfl ?_))
 refine wpAny_pure ?_
 refine wpAny_bind ?_
 unfold isInstance
 refine wpAny_bind (DK hx ((PySem.W.looks_mroIn X1 c.mb).here ?_))
 refine wpAny_pure ?_
 dsimp only
 refine wpAny_bind (vM hx rfl ?_)
 unfold raisedInstance
 refine wpAny_bind (wpAny_bind (DK hx (wpAny_bind ((PySem.W.looks_typeIn X1 ht).here ?_))))
 refine wpAny_pure ?_
 unfold setFlight
 refine wpAny_bind (wpAny_bind (wpAny_field hx rfl (x:=.none) rfl ?_))
 refine wpAny_pure ?_
 exact wpAny_raiseNew_none (I1.ok.hd KC) (O.new Kt σ H1 s1 e C dd I1 hN hE)
inductive PV where
 | cy | bl (b:Bool) | int (i:Int) | str (x:Str)
 | tup (xs:List PV) | lst (xs:List PV)
 | iU (xs:List PV)
 | obj (C:Addr) (fs:List (Str×PV))
 | exc (C:Addr) (fo:Option (List (Str×PV)))
 | emp
 deriving Inhabited
mutual
inductive Rep (H:Hp):PV->V->Prop where
 | cy:Rep H .cy .cy
 | bl (b:Bool):Rep H (.bl b) (.bl b)
 | int (i:Int):Rep H (.int i) (.int i)
 | str (x:Str):Rep H (.str x) (.str x)
 | tup {a:Addr} {xs:List PV} {vs:List V}:H a=some (.tup vs)->aM H xs vs->Rep H (.tup xs) (.ref a)
 | lst {a:Addr} {xs:List PV} {vs:List V}:H a=some (.lst vs)->aM H xs vs->Rep H (.lst xs) (.ref a)
 | iU {a:Addr} {o:Obj} {xs:List PV} {vs:List V}:H a=some (.o8 o (.lst vs))->aM H xs vs->Rep H (.iU xs) (.ref a)
 | obj {a C dx:Addr} {fs:List (Str×PV)} {vs:List (Str×V)}:H a=some (.ins C dx vs)->iq H fs vs->Rep H (.obj C fs) (.ref a)
 | xj {a C:Addr}:H a=some (iM C none a)->Rep H (.exc C none) (.ref a)
 | xi {a C d:Addr} {fs:List (Str×PV)} {vs:List (Str×V)}:H a=some (iM C (some d) a)->H d=some (.xd vs)->iq H fs vs->Rep H (.exc C (some fs)) (.ref a)
 | emp {a:Addr}:H a=some (.dK [])->Rep H .emp (.ref a)
inductive aM (H:Hp):List PV->List V->Prop where
 | nil:aM H [] []
 | cons {p:PV} {v:V} {ps:List PV} {vs:List V}:Rep H p v->aM H ps vs->aM H (p::ps) (v::vs)
inductive iq (H:Hp):List (Str×PV)->List (Str×V)->Prop where
 | nil:iq H [] []
 | cons {n:Str} {p:PV} {v:V} {ps:List (Str×PV)} {vs:List (Str×V)}:Rep H p v->iq H ps vs->iq H ((n,p)::ps) ((n,v)::vs)
end
mutual
theorem Rep.mono{H H':Hp}(s:bf H H'):∀ {p:PV} {v:V},Rep H p v->Rep H' p v
 | _,_,.cy=>.cy
 | _,_,.bl b=>.bl b
 | _,_,.int i=>.int i
 | _,_,.str x=>.str x
 | _,_,.tup h r=>.tup (s _ _ h) (r.mono s)
 | _,_,.lst h r=>.lst (s _ _ h) (r.mono s)
 | _,_,.iU h r=>.iU (s _ _ h) (r.mono s)
 | _,_,.obj h r=>.obj (s _ _ h) (r.mono s)
 | _,_,.xj h=>.xj (s _ _ h)
 | _,_,.xi h h2 r=>.xi (s _ _ h) (s _ _ h2) (r.mono s)
 | _,_,.emp h=>.emp (s _ _ h)
theorem aM.mono{H H':Hp}(s:bf H H'):∀ {p:List PV} {v:List V},aM H p v->aM H' p v
 | _,_,.nil=>.nil
 | _,_,.cons h r=>.cons (h.mono s) (r.mono s)
theorem iq.mono{H H':Hp}(s:bf H H'):∀ {p:List (Str×PV)} {v:List (Str×V)},iq H p v->iq H' p v
 | _,_,.nil=>.nil
 | _,_,.cons h r=>.cons (h.mono s) (r.mono s)
end
theorem aM.length{H:Hp}:∀ {p:List PV} {v:List V},aM H p v->p.length=v.length
 | _,_,.nil=>rfl
 | _,_,.cons _ r=>by simp[r.length]
theorem aM.get{H:Hp}:∀ {p:List PV} {v:List V} {i:Nat} {x:PV},aM H p v->p[i]?=some x->∃ u,v[i]?=some u/\Rep H x u
 | _,_,_,_,.nil,e=>by simp at e
 | _,_,0,_,.cons h _,e=>by simp at e;subst e;exact⟨_,rfl,h⟩
 | _,_,i+1,x,.cons _ r,e=>by
  obtain⟨u,h1,h2⟩:=aM.get (i:=i) (x:=x) r (by simpa using e)
  exact⟨u,by simpa using h1,h2⟩
theorem aM.append{H:Hp}:∀ {p q:List PV} {v u:List V},aM H p v->aM H q u->aM H (p++q) (v++u)
 | _,_,_,_,.nil,s=>s
 | _,_,_,_,.cons h r,s=>.cons h (r.append s)
theorem aM.take{H:Hp}:∀ {p:List PV} {v:List V} (n:Nat),aM H p v->aM H (p.take n) (v.take n)
 | _,_,0,_=>.nil
 | _,_,_+1,.nil=>.nil
 | _,_,n+1,.cons h r=>.cons h (r.take n)
theorem aM.drop{H:Hp}:∀ {p:List PV} {v:List V} (n:Nat),aM H p v->aM H (p.drop n) (v.drop n)
 | _,_,0,r=>r
 | _,_,_+1,.nil=>.nil
 | _,_,n+1,.cons _ r=>r.drop n
theorem aM.set{H:Hp}{x:PV}{u:V}(h:Rep H x u):∀ {p:List PV} {v:List V} (i:Nat),aM H p v->aM H (p.set i x) (v.set i u)
 | _,_,_,.nil=>.nil
 | _,_,0,.cons _ r=>.cons h r
 | _,_,i+1,.cons q r=>.cons q (r.set h i)
theorem aM.snoc{p:List PV}{v:List V}{x:PV}{u:V}(r:aM H p v)(h:Rep H x u):aM H (p++[x]) (v++[u]):=r.append (.cons h .nil)
theorem iq.look{H:Hp}{f:Str}:∀ {p:List (Str×PV)} {v:List (Str×V)} {x:PV},iq H p v->p.lookup f=some x->∃ u,v.lookup f=some u/\Rep H x u
 | _,_,_,.nil,e=>by simp at e
 | (n,_)::_,_,x,.cons h r,e=>by
  rw[List.lookup_cons] at e ⊢
  cases q:f==n with
  | true=>rw[q] at e;cases e;exact⟨_,rfl,h⟩
  | false=>rw[q] at e;exact r.look e
theorem iq.none{H:Hp}{f:Str}:∀ {p:List (Str×PV)} {v:List (Str×V)},iq H p v->p.lookup f=none->v.lookup f=none
 | _,_,.nil,_=>rfl
 | (n,_)::_,_,.cons h r,e=>by
  rw[List.lookup_cons] at e ⊢
  cases q:f==n with
  | true=>rw[q] at e;cases e
  | false=>rw[q] at e;exact r.none e
theorem aM.ints{H:Hp}:∀ {ns:List Int} {v:List V},aM H (ns.map PV.int) v->v=ns.map V.int
 | [],_,.nil=>rfl
 | _::_,_,.cons (.int i) r=>by rw[r.ints];rfl
theorem aM.JU{H:Hp}:∀ {ns:List Bool} {v:List V},aM H (ns.map PV.bl) v->v=ns.map V.bl
 | [],_,.nil=>rfl
 | _::_,_,.cons (.bl i) r=>by rw[r.JU];rfl
structure bF (Hs H Kw H':Hp):Prop where
 st:bf Hs Kw
 al:bf H H'
 sub:bf Kw H'
 nw:∀ a o,Hs a=none->H a=some o->Kw a=none
variable{Hs:Hp}
theorem bF.refl(s:bf Hs H):bF Hs H Hs H:=⟨λ_ _ e=>e,λ_ _ e=>e,s,λ_ _ e _=>e⟩
variable{KN:Hp}
theorem bF.trans{H1 KH H2:Hp}(a:bF Hs H KN H1)(b:bF KN H1 KH H2):bF Hs H KH H2 :=
 ⟨λc o e=>b.st c o (a.st c o e),λc o e=>b.al c o (a.al c o e),b.sub,λc o e q=>b.nw c o (a.nw c o e q) (a.al c o q)⟩
theorem bF.new{p:Addr}{o:HO}(s:bf Hs H)(n:H p=none):bF Hs H (upd Hs p o) (upd H p o):=by
 have ne:∀ c u,H c=some u->c≠p:=λc u e z=>by rw[z,n] at e;cases e
 refine⟨λc u e=>?_,λc u e=>?_,λc u e=>?_,λc u e q=>?_⟩
 ·rw[ak (ne c u (s c u e))];exact e
 ·rw[ak (ne c u e)];exact e
 ·by_cases z:c=p
  ·subst z;rw[aw] at e ⊢;exact e
  ·rw[ak z] at e ⊢;exact s c u e
 ·rw[ak (ne c u q)];exact e
inductive SV where
 | sh (p:PV)
 | ow (xs:List PV)
 | bd (a C:Addr) (fs:List (Str×PV))
abbrev af:=List (Option SV)
structure SR (B H₀ Hs H:Hp) (σ:St) (env:af):Prop where
 gr:bF B H₀ Hs H
 len:σ.length=env.length
 sh:∀ (i:Nat) (p:PV),env[i]?=some (some (.sh p))->∃ v,σ[i]?=some (some v)/\Rep Hs p v
 ow:∀ (i:Nat) (xs:List PV),env[i]?=some (some (.ow xs))->∃ a vs,σ[i]?=some (some (.ref a))/\H a=some (.lst vs)/\Hs a=none/\H₀ a=none/\aM Hs xs vs
 sep:∀ (i j:Nat) (xs ys:List PV) (a:Addr),i≠j->env[i]?=some (some (.ow xs))->env[j]?=some (some (.ow ys))->σ[i]?=some (some (.ref a))->σ[j]?≠some (some (.ref a))
 bd:∀ (i:Nat) (a C:Addr) (fs:List (Str×PV)),env[i]?=some (some (.bd a C fs))->∃ dx vs,σ[i]?=some (some (.ref a))/\H a=some (.ins C dx vs)/\Hs a=none/\H₀ a=none/\iq Hs fs vs
 one:∀ (i j:Nat) (a b C D:Addr) (fs gs:List (Str×PV)),env[i]?=some (some (.bd a C fs))->env[j]?=some (some (.bd b D gs))->i=j
variable{H₀:Hp}
theorem SR.grow{B Kw H':Hp}{env:af}(r:SR B H₀ Hs H σ env)(g:bF Hs H Kw H'):SR B H₀ Kw H' σ env where
 gr:=r.gr.trans g
 len:=r.len
 sh:=λi p e=>let ⟨v,h1,h2⟩:=r.sh i p e;⟨v,h1,h2.mono g.st⟩
 ow:=λi xs e=>let ⟨a,vs,h1,h2,h3,h4,h5⟩:=r.ow i xs e;⟨a,vs,h1,g.al _ _ h2,g.nw _ _ h3 h2,h4,h5.mono g.st⟩
 sep:=r.sep
 bd:=λi a C fs e=>let ⟨dx,vs,h1,h2,h3,h4,h5⟩:=r.bd i a C fs e;⟨dx,vs,h1,g.al _ _ h2,g.nw _ _ h3 h2,h4,h5.mono g.st⟩
 one:=r.one
abbrev EX:=Addr×Option (List (Str×PV))
abbrev M(α:Type):=Option (Except EX α)
def M.ok{α:Type}(a:α):M α:=some (.ok a)
variable{α:Type}
noncomputable def M.bind{β:Type}(x:M α)(f:α->M β):M β:=match x with
 | some (.ok a)=>f a
 | some (.error e)=>some (.error e)
 | none=>none
instance:Monad M where
 pure:=M.ok
 bind:=M.bind
def ay(r:M α)(Q:α->Prop)(E:EX->Prop):Prop:=match r with
 | some (.ok a)=>Q a
 | some (.error e)=>E e
 | none=>False
theorem ay.imp{r:M α}{Q Q':α->Prop}{E E':EX->Prop}(h:ay r Q E)(hq:∀ a,Q a->Q' a)(he:∀ e,E e->E' e):ay r Q' E':=by
 cases r with
 | none=>exact h
 | some x=>cases x with
  | ok a=>exact hq a h
  | error e=>exact he e h
theorem ay.bind{α β:Type}{x:M α}{f:α->M β}{Q:β->Prop}{E:EX->Prop}(h:ay (x.bind f) Q E):ay x (λa=>ay (f a) Q E) E:=by
 cases x with
 | none=>exact h
 | some x=>cases x with
  | ok a=>exact h
  | error e=>exact h
def XW(E:XK)(Hs H:Hp)(x:EX):Prop:=∀ ea Kw H',bF Hs H Kw H'->Rep Kw (.exc x.1 x.2) (.ref ea)->E (.ref ea) none H'
theorem XW.grow{E:XK}{Kw H':Hp}{x:EX}(h:XW E Hs H x)(g:bF Hs H Kw H'):XW E Kw H' x:=λea KH H2 g2 r=>h ea KH H2 (g.trans g2) r
def tE(E:St->XK)(f:af->M PV):TE:=fun σ H Q=>∃ B H₀ Hs env,SR B H₀ Hs H σ env/\ay (f env) (λp=>∀ v Kw H',bF Hs H Kw H'->Rep Kw p v->Q v H') (XW (E σ) Hs H)
theorem PE.imp{t t':TE}(h:PE X e t)(i:∀ σ H Q,t' σ H Q->t σ H Q):PE X e t':=λKt s σ H Q I q=>h Kt s σ H Q I (i σ H Q q)
theorem wg{f:af->M PV}{g:af->PV->M PV}{Q R:VK}(h:tE E (λenv=>(f env).bind (g env)) σ H Q)
  (k:∀ B H₀ Hs H1 env p v,SR B H₀ Hs H1 σ env->Rep Hs p v->ay (g env p) (λq=>∀ u Kw H',bF Hs H1 Kw H'->Rep Kw q u->Q u H') (XW (E σ) Hs H1)->R v H1):tE E f σ H R:=by
 obtain⟨B,H₀,Hs,env,sr,h⟩:=h
 refine⟨B,H₀,Hs,env,sr,(ay.bind h).imp (λp hp v Kw H' g r=>?_) λe he=>he⟩
 exact k B H₀ Kw H' env p v (sr.grow g) r (hp.imp (λq hq u KH H2 g2 r2=>hq u KH H2 (g.trans g2) r2) λe he=>he.grow g)
theorem wb{f g:af->M PV}{op:PV->PV->M PV}{r:R2}{Q:VK}(h:tE E (λenv=>(f env).bind λp=>(g env).bind λq=>op p q) σ H Q)
  (k:∀ Hs H1 p q v u,bf Hs H1->Rep Hs p v->Rep Hs q u->ay (op p q) (λz=>∀ w Kw H',bF Hs H1 Kw H'->Rep Kw z w->Q w H') (XW (E σ) Hs H1)->r v u H1 Q):FH r (tE E f) (tE E g) σ H Q:=by
 refine wg h λB H₀ Hs H1 env p v sr rp hp=>?_
 refine⟨B,H₀,Hs,env,sr,(ay.bind hp).imp (λq hq u Kw H' g ru=>?_) λe he=>he⟩
 exact k Kw H' p q v u (sr.grow g).gr.sub (rp.mono g.st) ru (hq.imp (λz hz w KH H2 g2 r2=>hz w KH H2 (g.trans g2) r2) λe he=>he.grow g)
theorem HY{f:af->M PV}{op:PV->M PV}{r:V->Hp->VK->Prop}{Q:VK}(h:tE E (λenv=>(f env).bind op) σ H Q)
  (k:∀ Hs H1 p v,bf Hs H1->Rep Hs p v->ay (op p) (λz=>∀ w Kw H',bF Hs H1 Kw H'->Rep Kw z w->Q w H') (XW (E σ) Hs H1)->r v H1 Q):J0 r (tE E f) σ H Q :=
 wg h λB H₀ Hs H1 env p v sr rp hp=>k Hs H1 p v sr.gr.sub rp hp
def FL(sp:Sp)(Lo:List V)(E:St->XK)(t:TA):TE:=fun σ H Q=>t σ H λvs H1=>sp (vs++Lo) H1 Q (E σ)
def A1(C:Addr)(m:Str)(sp:Sp)(Lo:List V)(E:St->XK)(ta:TE)(t:TA):TE:=fun σ H Q=>ta σ H λx H1=>∃ a dx fs,x=.ref a/\H1 a=some (.ins C dx fs)/\fs.lookup m=none ∧
 t σ H1 λvs H2=>sp (x::(vs++Lo)) H2 Q (E σ)
def EB(C:Addr)(sp:Sp)(Lo:List V)(E:St->XK)(t:TA):TE:=fun σ H Q=>t σ H λvs H1=>∀ x dx,H1 x=none->H1 dx=none->dx≠x ->
 sp (.ref x::(vs++Lo)) (upd (upd H1 dx (.own x)) x (.ins C dx [])) (λv H2=>v=.cy/\Q (.ref x) H2) (E σ)
variable{Lo:List V}
variable{vs:List V}{us:List Value}
variable{pl:Sem Bool}
section
variable{p pos:Pos}
theorem rJ{Q:VK}(F:aV X.prog X.w X.K X.mg X.base (bU X.prog X.w) k f fd ps sp)(hr:bZ k X.A)(hb:Binds X.K fd ps ds)(hd:Vals Lo ds)(hx:eS X E)
  (I:Inv X Kt σ H s) (r:Vals vs us) (h:sp (vs++Lo) H Q (E σ)):wpAny (model X.prog X.w) X.A (call (.ref f) us) (EP X Kt σ Q) X.xe s:=by
 have r2:Vals (vs++Lo) (us++ds):=r.append hd
 have hl:(us++ds).length=ps.length:=by rw[← r2.length];exact F.len _ _ _ _ h
 refine wpAny_call (codeAny_mono (F.run X.A X.stack s H ⟨us,[]⟩ (us++ds) (vs++Lo) Q (E σ) hr I.j9 (hb s us I.ja hl) r2 h) λr s' hq=>?_)
 cases r with
 | error e=>exact hx.pass Kt σ H s e s' I hq
 | ok fl =>
  cases fl with
  | ret u=>exact I.after hq
  | next=>exact False.elim hq
  | brk=>exact False.elim hq
  | cont=>exact False.elim hq
theorem AB(F:aV X.prog X.w X.K X.mg X.base (bU X.prog X.w) k f fd ps sp)(hr:bZ k X.A)(hg:Gl X x)(hm:X.mg x=some (.ref f))(hk:PySem.W.keepIn X.K (.ref f)=true)(hb:Binds X.K fd ps ds)(hd:Vals Lo ds)(hx:eS X E)
  (ha:PA X (e::es) t) (Lz:autoParam ((x==("__debug__" : Str))=false) aD._auto_1) (he:autoParam (starEach (e::es) X.env=(false,eval e X.env)::starEach es X.env) aR._auto_1) (K7:autoParam ((backTo pos (starEach es X.env)).any (·.1)=false) aR._auto_1) :
  PE X (.Call (.Name x p) (e::es) [] pos) (FL sp Lo E t):=by
 intro Kt s σ H Q I h
 refine wpAny_Call_Name_kw (kF I hg hm ?_ Lz)
 refine PySem.W.callWith_K (h₀:=X.base) I.ok.mod.Dy hk (cJ (ha pos Kt s σ H _ I h) λus s1 ⟨vs,H1,I1,r,q⟩=>⟨I1.ja,?_⟩) he K7
 exact rJ F hr hb hd hx I1 r q
theorem zo(he:PE X o ta)(c:kW X.K C)(hm:Meth X.K C m f)(F:aV X.prog X.w X.K X.mg X.base (bU X.prog X.w) k f fd ps sp)(hr:bZ k X.A)(hb:Binds X.K fd ps ds)(hd:Vals Lo ds)(hx:eS X E)(ha:PA X (e::es) t)
  (K4:autoParam (starEach (e::es) X.env=(false,eval e X.env)::starEach es X.env) aR._auto_1) (K7:autoParam ((backTo pos (starEach es X.env)).any (·.1)=false) aR._auto_1)
  (ht:autoParam (eval (.Call (.Attribute o m apos) (e::es) [] pos) X.env=(do
   let ov ← eval o X.env
   standAt apos.atName
   let (f,first) ← holding [ov] (getMethod ov m pl)
   callWith pos f first (backTo pos (starEach (e::es) X.env)) (backToKw pos (keywordEach [] X.env)))) aR._auto_1) :
  PE X (.Call (.Attribute o m apos) (e::es) [] pos) (A1 C m sp Lo E ta t):=by
 intro Kt s σ H Q I h
 refine PySem.W.methodCall_KW (pl:=pl) (cJ (he Kt s σ H _ I h) λu s1 ⟨x,H1,I1,rx,a,dx,fs,ex,ea,l,q⟩=>?_) ht
 subst ex
 obtain rfl:u=Value.ref a:=rx
 refine oE I1 ea c hm l ?_
 refine PySem.W.callWith_K (first:=[.ref a]) (h₀:=X.base) I.ok.mod.Dy hm.kp (cJ (ha pos Kt s1 σ H1 _ I1 q) λus s2 ⟨vs,H2,I2,r,q2⟩=>⟨I2.ja,?_⟩) K4 K7
 exact rJ (us:=.ref a::us) (vs:=.ref a::vs) F hr hb hd hx I2 (.cons rfl r) q2
theorem w9(he:PE X o ta)(c:kW X.K C)(hm:Meth X.K C m f)(F:aV X.prog X.w X.K X.mg X.base (bU X.prog X.w) k f fd ps sp)(hr:bZ k X.A)(hb:Binds X.K fd ps ds)(hd:Vals Lo ds)(hx:eS X E)
  (ht:autoParam (eval (.Call (.Attribute o m apos) [] [] pos) X.env=(do
   let ov ← eval o X.env
   standAt apos.atName
   let (f,first) ← holding [ov] (getMethod ov m pl)
   callWith pos f first (backTo pos (starEach [] X.env)) (backToKw pos (keywordEach [] X.env)))) aR._auto_1) :
  PE X (.Call (.Attribute o m apos) [] [] pos) (A1 C m sp Lo E ta uM):=by
 intro Kt s σ H Q I h
 refine PySem.W.methodCall_KW (pl:=pl) (cJ (he Kt s σ H _ I h) λu s1 ⟨x,H1,I1,rx,a,dx,fs,ex,ea,l,q⟩=>?_) ht
 subst ex
 obtain rfl:u=Value.ref a:=rx
 refine oE I1 ea c hm l ?_
 exact PySem.W.callWith_K0 (first:=[.ref a]) I1.ja hm.kp (rJ (us:=[.ref a]) (vs:=[.ref a]) F hr hb hd hx I1 (.cons rfl .nil) q)
theorem xB{Q:VK}(M:Mk X.K C f)(F:aV X.prog X.w X.K X.mg X.base (bU X.prog X.w) k f fd ps sp)(hr:bZ (k+1) X.A)(hb:Binds X.K fd ps ds)(hd:Vals Lo ds)
  (hx:eS X E) (I:Inv X Kt σ H s) (r:Vals vs us)
  (h:∀ x dx,H x=none->H dx=none->dx≠x->sp (.ref x::(vs++Lo)) (upd (upd H dx (.own x)) x (.ins C dx [])) (λv H2=>v=.cy/\Q (.ref x) H2) (E σ)) :
  wpAny (model X.prog X.w) X.A (call (.ref C) us) (EP X Kt σ Q) X.xe s:=by
 have hq:=h (s.heap.objs.size+1) s.heap.objs.size (I.bC.fresh (Nat.le_succ _)) (I.bC.fresh (Nat.le_refl _)) (Nat.ne_of_lt (Nat.lt_succ_self _))
 have I2:=Inv.made (C:=C) I
 have r2:Vals (V.ref (s.heap.objs.size+1)::(vs++Lo)) (Value.ref (s.heap.objs.size+1)::(us++ds)):=.cons rfl (r.append hd)
 have hl:(Value.ref (s.heap.objs.size+1)::us++ds).length=ps.length:=by
  have e:=r2.length
  rw[F.len _ _ _ _ hq] at e
  exact e.symm
 refine wpAny_call (yZ (f:=f) I.ja M.makes M.init (beq_iff_eq.mp M.fn) (codeAny_mono (F.run _ X.stack _ _ ⟨Value.ref (s.heap.objs.size+1)::us,[]⟩ (Value.ref (s.heap.objs.size+1)::(us++ds)) _ _ (E σ) (hr.make C us [])
  (I2.j9.make C us []) (hb _ (Value.ref (s.heap.objs.size+1)::us) I2.ja hl) r2 hq) λr s' Mv=>?_))
 cases r with
 | error e=>exact hx.pass Kt σ _ _ e s' I2 Mv
 | ok fl =>
  cases fl with
  | ret u =>
   obtain⟨v,H',I3,rv,ev,q3⟩:=I2.after Mv
   subst ev
   exact⟨rv,⟨V.ref (s.heap.objs.size+1),H',I3,rfl,q3⟩⟩
  | next=>exact False.elim Mv
  | brk=>exact False.elim Mv
  | cont=>exact False.elim Mv
theorem zI(M:Mk X.K C f)(F:aV X.prog X.w X.K X.mg X.base (bU X.prog X.w) k f fd ps sp)(hr:bZ (k+1) X.A)(hg:Gl X x)(hm:X.mg x=some (.ref C))(hb:Binds X.K fd ps ds)(hd:Vals Lo ds)(hx:eS X E)
  (ha:PA X (e::es) t) (Lz:autoParam ((x==("__debug__" : Str))=false) aD._auto_1) (he:autoParam (starEach (e::es) X.env=(false,eval e X.env)::starEach es X.env) aR._auto_1) (K7:autoParam ((backTo pos (starEach es X.env)).any (·.1)=false) aR._auto_1) :
  PE X (.Call (.Name x p) (e::es) [] pos) (EB C sp Lo E t):=by
 intro Kt s σ H Q I h
 refine wpAny_Call_Name_kw (kF I hg hm ?_ Lz)
 refine PySem.W.callWith_K (h₀:=X.base) I.ok.mod.Dy M.kp (cJ (ha pos Kt s σ H _ I h) λus s1 ⟨vs,H1,I1,r,q⟩=>⟨I1.ja,?_⟩) he K7
 exact xB M F hr hb hd hx I1 r q
end
abbrev dR(Hs H:Hp)(Q:VK):PV->Prop:=λz=>∀ w Kw H',bF Hs H Kw H'->Rep Kw z w->Q w H'
variable{p:PV}
theorem dR.flat{Q:VK}(h:dR Hs H Q p)(s:bf Hs H)(r:Rep Hs p v):Q v H:=h v Hs H (.refl s) r
theorem dR.tup{Hs H:Hp}{Q:VK}{xs:List PV}{vs:List V}(h:dR Hs H Q (.tup xs))(s:bf Hs H)(r:aM Hs xs vs):∀ p,H p=none->Q (.ref p) (upd H p (.tup vs)) :=
 λp n=>h _ (upd Hs p (.tup vs)) _ (bF.new s n) (.tup aw (r.mono (bF.new s n).st))
theorem dR.lst{Hs H:Hp}{Q:VK}{xs:List PV}{vs:List V}(h:dR Hs H Q (.lst xs))(s:bf Hs H)(r:aM Hs xs vs):∀ p,H p=none->Q (.ref p) (upd H p (.lst vs)) :=
 λp n=>h _ (upd Hs p (.lst vs)) _ (bF.new s n) (.lst aw (r.mono (bF.new s n).st))
namespace HT
theorem z0{prog:Program}{w:World}{A:Around}{E:Value->Shared->Prop}{s:Shared}{t b:Addr}{ws:List Value}{Q:Value->Shared->Prop}(ht:IsTup s.heap t #[])(hb:IsTup s.heap b ws.toArray)
  (h1:Q (.ref b) s):wpAny (model prog w) A (binaryOp .Add (.ref t) (.ref b)) Q E s:=by
 obtain⟨⟨cls,dd,data,sl⟩,ho,hc,n,hd⟩:=id ht
 obtain⟨⟨cls2,NQ,data2,sl2⟩,ML,Nj,n2,hd2⟩:=id hb
 simp only at hc hd Nj hd2
 subst hc hd Nj hd2
 exact concat_meets ⟨_,ho,rfl⟩ ⟨_,ML,rfl⟩ noFill_tuple_add seq_tuple_add PySem.F.slot_tuple_add PySem.F.entry_tuple_add (PySem.F.args_tuple_add_2 _ _)
   (tuple_addW0 t b #[] ws.toArray n n2 dd NQ sl sl2 rfl) ⟨ho,ML,h1⟩
end HT
def yW(K:PySem.W.Frag):R2:=λx y H Q=>∃ a b ys,x=.ref a/\y=.ref b/\gu K H a []/\gu K H b ys/\Q (.ref b) H
theorem AM:gU X (binaryOp .Add) (yW X.K):=by
 intro Kt s σ H x y v u Q I rx ry h
 obtain⟨a,b,ys,rfl,rfl,ha,hb,q1⟩:=h
 cases rx
 cases ry
 obtain⟨Kv,r1,p1,_⟩:=I.tuple ha
 obtain⟨Mi,r2,p2,_⟩:=I.tuple hb
 have e:Kv=[]:=r1.kM.mpr rfl
 subst e
 exact HT.z0 p1 p2 ⟨.ref b,H,I,rfl,q1⟩
def cC(c:Prop)[Decidable c](x:M α):M α:=if c then x else none
theorem ay.cC{α:Type}{c:Prop}[Decidable c]{x:M α}{Q:α->Prop}{E:EX->Prop}(h:ay (L2.cC c x) Q E):c/\ay x Q E:=by
 unfold L2.cC at h
 by_cases hc:c
 ·rw[if_pos hc] at h;exact⟨hc,h⟩
 ·rw[if_neg hc] at h;exact h.elim
def eZ(o:Option PV):M PV:=match o with
 | some x=>M.ok x
 | none=>none
theorem ay.opt{o:Option PV}{Q:PV->Prop}{E:EX->Prop}(h:ay (eZ o) Q E):∃ x,o=some x/\Q x:=by
 cases o with
 | none=>exact h.elim
 | some x=>exact⟨x,rfl,h⟩
variable{j:Nat}
variable{op:CmpOp}
section
variable{a b:Expr}{pos:Pos}{f g h:af->M PV}
def ae(i:Nat)(env:af):M PV:=match env[i]? with
 | some (some (.sh p))=>M.ok p
 | _=>none
theorem Ew(hN:X.N[i]?=some x)(hv:Bn X.env.scope x)(hd:autoParam ((x==("__debug__" : Str))=false) aD._auto_1)(LP:autoParam ((x==("__classdict__" : Str))=false) aD._auto_1):PE X (.Name x pos) (tE E (ae i)):=by
 refine(iy hN hv hd LP).imp fun σ H Q q=>?_
 obtain⟨B,H₀,Hs,env,sr,q⟩:=q
 unfold ae at q
 split at q
 ·rename_i p e
  obtain⟨v,h1,h2⟩:=sr.sh i p e
  exact⟨v,h1,dR.flat q sr.gr.sub h2⟩
 ·exact q.elim
theorem kz(he:PE X e (tC v))(r:∀ H,Rep H p v):PE X e (tE E λ_=>M.ok p):=by
 refine he.imp fun σ H Q q=>?_
 obtain⟨B,H₀,Hs,env,sr,q⟩:=q
 exact dR.flat q sr.gr.sub (r Hs)
theorem Al{i:Int}:PE X (.Constant (.int i) j pos) (tE E λ_=>M.ok (.int i)):=kz AR λ_=>.int i
theorem He{i:Bool}:PE X (.Constant (.bool i) j pos) (tE E λ_=>M.ok (.bl i)):=kz GI λ_=>.bl i
theorem Ge:PE X (.Constant .none j pos) (tE E λ_=>M.ok .cy):=kz FF λ_=>.cy
theorem Es{i:Str}:PE X (.Constant (.str i) j pos) (tE E λ_=>M.ok (.str i)):=kz Fb λ_=>.str i
def aj(op:PV->PV->M PV)(f g:af->M PV):af->M PV:=λenv=>(f env).bind λp=>(g env).bind λq=>op p q
def l9(E:St->XK)(r:R2)(op:PV->PV->M PV):Prop:=∀ (σ:St) (Hs H:Hp) (p q:PV) (v u:V) (Q:VK),bf Hs H->Rep Hs p v->Rep Hs q u->ay (op p q) (dR Hs H Q) (XW (E σ) Hs H)->r v u H Q
theorem nK{op:Operator}{r:R2}{o:PV->PV->M PV}(ho:gU X (binaryOp op) r)(hv:l9 E r o)(ha:PE X a (tE E f))(hb:PE X b (tE E g)):PE X (.BinOp a op b pos) (tE E (aj o f g)) :=
 (D5 ho ha hb).imp fun σ H Q q=>wb q λHs H1 p q v u s rp rq h=>hv σ Hs H1 p q v u Q s rp rq h
theorem ji{r:R2}{o:PV->PV->M PV}(ho:gU X (compareOp op) r)(hv:l9 E r o)(ha:PE X a (tE E f))(hb:PE X b (tE E g))(hm:behindInMarks op b=false):PE X (.Compare a [op] [b] pos) (tE E (aj o f g)) :=
 (BH ho ha hb hm).imp fun σ H Q q=>wb q λHs H1 p q v u s rp rq h=>hv σ Hs H1 p q v u Q s rp rq h
def dF:PV->PV->M PV
 | .int i,.int j=>M.ok (.int (i+j))
 | .str x,.str y=>cC (x.length+y.length<=sizeLine) (M.ok (.str (x++y)))
 | .tup xs,.tup ys=>cC (xs.length+ys.length<=sizeLine) (M.ok (.tup (xs++ys)))
 | .lst xs,.lst ys=>cC (xs.length+ys.length<=sizeLine) (M.ok (.lst (xs++ys)))
 | _,_=>none
def Dp(K:PySem.W.Frag):R2:=λx y H Q=>(∃ i j,x=.int i/\y=.int j/\Q (.int (i+j)) H)\/(∃ i j,x=.str i/\y=.str j/\i.length+j.length<=sizeLine/\Q (.str (i++j)) H)\/DS K x y H Q\/Hm x y H Q\/yW K x y H Q
theorem C4:gU X (binaryOp .Add) (Dp X.K):=gU.or Gs (gU.or uG (gU.or CW (gU.or E5 AM)))
theorem Ea{K:PySem.W.Frag}:l9 E (Dp K) dF:=by
 intro σ Hs H p q v u Q s rp rq h
 cases rp with
 | int i=>cases rq with
  | int j=>exact .inl ⟨i,j,rfl,rfl,dR.flat h s (.int _)⟩
  | _=>exact h.elim
 | str i=>cases rq with
  | str j =>
   obtain⟨hz,h⟩:=ay.cC h
   exact .inr (.inl ⟨i,j,rfl,rfl,hz,dR.flat h s (.str _)⟩)
  | _=>exact h.elim
 | @tup a xs vs ha hx=>cases rq with
  | @tup b ys us hb hy =>
   obtain⟨hz,h⟩:=ay.cC h
   cases hx with
   | nil=>exact .inr (.inr (.inr (.inr ⟨a,b,us,rfl,rfl,gu.of (s _ _ ha),gu.of (s _ _ hb),dR.flat h s (.tup hb hy)⟩)))
   | cons NO N_ =>
    have hx:=aM.cons NO N_
    refine .inr (.inr (.inl ⟨a,b,_,us,rfl,rfl,gu.of (s _ _ ha),gu.of (s _ _ hb),(λz=>nomatch z),by rw[← hx.length,← hy.length];exact hz,λz=>?_,λz=>dR.tup h s (hx.append hy)⟩))
    have e:ys=[]:=by cases hy with | nil=>rfl | cons _ _=>cases z
    subst e
    rw[List.append_nil] at h
    exact dR.flat h s (.tup ha hx)
  | _=>exact h.elim
 | @lst a xs vs ha hx=>cases rq with
  | @lst b ys us hb hy =>
   obtain⟨hz,h⟩:=ay.cC h
   exact .inr (.inr (.inr (.inl ⟨a,b,vs,us,rfl,rfl,s _ _ ha,s _ _ hb,by rw[← hx.length,← hy.length];exact hz,dR.lst h s (hx.append hy)⟩)))
  | _=>exact h.elim
 | _=>exact h.elim
def zi(c:Int->Int->Bool)(o:Int->Int->Int):PV->PV->M PV
 | .int i,.int j=>cC (c i j=true) (M.ok (.int (o i j)))
 | _,_=>none
theorem yB{C:Int->Int->Prop}{c:Int->Int->Bool}{o:Int->Int->Int}(hc:∀ i j,c i j=true->C i j):l9 E (rI C λi j=>.int (o i j)) (zi c o):=by
 intro σ Hs H p q v u Q s rp rq h
 cases rp with
 | int i=>cases rq with
  | int j =>
   obtain⟨hz,h⟩:=ay.cC h
   exact⟨i,j,rfl,rfl,hc i j hz,dR.flat h s (.int _)⟩
  | _=>exact h.elim
 | _=>exact h.elim
def mf:PV->PV->M PV
 | .int i,.int j=>M.ok (.int (i-j))
 | _,_=>none
theorem EH:l9 E (vh λi j=>.int (i-j)) mf:=by
 intro σ Hs H p q v u Q s rp rq h
 cases rp with
 | int i=>cases rq with
  | int j=>exact⟨i,j,rfl,rfl,dR.flat h s (.int _)⟩
  | _=>exact h.elim
 | _=>exact h.elim
def yS(o:Int->Int->Bool):PV->PV->M PV
 | .int i,.int j=>M.ok (.bl (o i j))
 | _,_=>none
theorem ql{o:Int->Int->Bool}:l9 E (vh λi j=>.bl (o i j)) (yS o):=by
 intro σ Hs H p q v u Q s rp rq h
 cases rp with
 | int i=>cases rq with
  | int j=>exact⟨i,j,rfl,rfl,dR.flat h s (.bl _)⟩
  | _=>exact h.elim
 | _=>exact h.elim
def aQ:PV->PV->M PV
 | .tup xs,.int i=>eZ (rM xs i)
 | .lst xs,.int i=>eZ (rM xs i)
 | .iU xs,.int i=>eZ (rM xs i)
 | .str z,.int i=>cC (z.length<=sizeLine) (eZ ((rM z.cps.toList i).map λc=>.str ⟨#[c]⟩))
 | _,_=>none
theorem aM.rM{H:Hp}{xs:List PV}{vs:List V}{i:Int}{x:PV}(r:aM H xs vs)(e:L2.rM xs i=some x):∃ v,L2.rM vs i=some v/\Rep H x v:=by
 unfold L2.rM at e ⊢
 rw[← r.length]
 obtain⟨j,h1,h2⟩:=Option.bind_eq_some_iff.mp e
 obtain⟨v,h3,h4⟩:=r.get h2
 exact⟨v,by rw[h1];exact h3,h4⟩
theorem ED{K:PySem.W.Frag}:l9 E (Jr K) aQ:=by
 intro σ Hs H p q v u Q s rp rq h
 cases rp with
 | @tup a xs vs ha hx=>cases rq with
  | int i =>
   obtain⟨x,ex,h⟩:=ay.opt h
   obtain⟨v,h1,h2⟩:=hx.rM ex
   exact .inr (.inl ⟨a,vs,i,v,rfl,rfl,gu.of (s _ _ ha),h1,dR.flat h s h2⟩)
  | _=>exact h.elim
 | @lst a xs vs ha hx=>cases rq with
  | int i =>
   obtain⟨x,ex,h⟩:=ay.opt h
   obtain⟨v,h1,h2⟩:=hx.rM ex
   exact .inl ⟨a,vs,i,v,rfl,rfl,f9.of (s _ _ ha),h1,dR.flat h s h2⟩
  | _=>exact h.elim
 | @iU a o xs vs ha hx=>cases rq with
  | int i =>
   obtain⟨x,ex,h⟩:=ay.opt h
   obtain⟨v,h1,h2⟩:=hx.rM ex
   exact .inl ⟨a,vs,i,v,rfl,rfl,.inl (.inr ⟨o,s _ _ ha⟩),h1,dR.flat h s h2⟩
  | _=>exact h.elim
 | str z=>cases rq with
  | int i =>
   obtain⟨hz,h⟩:=ay.cC h
   obtain⟨x,ex,h⟩:=ay.opt h
   obtain⟨c,ec,rfl⟩:=Option.map_eq_some_iff.mp ex
   exact .inr (.inr ⟨z,i,c,rfl,rfl,hz,ec,dR.flat h s (.str _)⟩)
  | _=>exact h.elim
 | _=>exact h.elim
theorem Fc(ha:PE X a (tE E f))(hb:PE X b (tE E g))(hs:qk b):PE X (.Subscript a b pos) (tE E (aj aQ f g)) :=
 (DR zE ha hb hs).imp fun σ H Q q=>wb q λHs H1 p q v u s rp rq h=>ED σ Hs H1 p q v u Q s rp rq h
end
def tG(E:St->XK)(f:af->M α)(K:Hp->Hp->α->Prop):St->Hp->Prop:=fun σ H=>∃ B H₀ Hs env,SR B H₀ Hs H σ env/\ay (f env) (K Hs H) (XW (E σ) Hs H)
def KG(K:Hp->Hp->α->Prop):Prop:=∀ Hs H Kw H' b,K Hs H b->bF Hs H Kw H'->K Kw H' b
abbrev KB(Q:Bool->Hp->Prop):Hp->Hp->Bool->Prop:=λHs H k=>∀ Kw H',bF Hs H Kw H'->Q k H'
abbrev jR(Q:VK):Hp->Hp->PV->Prop:=λHs H p=>dR Hs H Q p
abbrev KL(Q:List V->Hp->Prop):Hp->Hp->List PV->Prop:=λHs H ps=>∀ vs Kw H',bF Hs H Kw H'->aM Kw ps vs->Q vs H'
theorem KB.g{Q:Bool->Hp->Prop}:KG (KB Q):=λHs H Kw H' b k g KH H2 g2=>k KH H2 (g.trans g2)
theorem jR.g{Q:VK}:KG (jR Q):=λHs H Kw H' b k g w KH H2 g2 r=>k w KH H2 (g.trans g2) r
theorem KL.g{Q:List V->Hp->Prop}:KG (KL Q):=λHs H Kw H' b k g w KH H2 g2 r=>k w KH H2 (g.trans g2) r
def tT(E:St->XK)(f:af->M Bool):TT:=fun σ H Q=>tG E f (KB Q) σ H
def tL(E:St->XK)(f:af->M (List PV)):TA:=fun σ H Q=>tG E f (KL Q) σ H
theorem PT.imp{t t':TT}(h:PT X e t)(i:∀ σ H Q,t' σ H Q->t σ H Q):PT X e t':=λKt s σ H Q I q=>h Kt s σ H Q I (i σ H Q q)
theorem PW.imp{t t':TT}(h:PW X e t)(i:∀ σ H Q,t' σ H Q->t σ H Q):PW X e t':=λw Kt s σ H Q I q=>h w Kt s σ H Q I (i σ H Q q)
theorem PA.imp{e:List Expr}{t':TA}(h:PA X e t)(i:∀ σ H Q,t' σ H Q->t σ H Q):PA X e t':=λw Kt s σ H Q I q=>h w Kt s σ H Q I (i σ H Q q)
section
variable{β:Type}{K:Hp->Hp->β->Prop}
theorem cj{f:af->M PV}{g:af->PV->M β}{R:VK}(kg:KG K)(h:tG E (λenv=>(f env).bind (g env)) K σ H)
  (k:∀ B H₀ Hs H1 env p v,SR B H₀ Hs H1 σ env->Rep Hs p v->ay (g env p) (K Hs H1) (XW (E σ) Hs H1)->R v H1):tE E f σ H R:=by
 obtain⟨B,H₀,Hs,env,sr,h⟩:=h
 refine⟨B,H₀,Hs,env,sr,(ay.bind h).imp (λp hp v Kw H' g r=>?_) λe he=>he⟩
 exact k B H₀ Kw H' env p v (sr.grow g) r (hp.imp (λq hq=>kg _ _ _ _ q hq g) λe he=>he.grow g)
theorem ko{f:af->M Bool}{g:af->Bool->M β}{R:Bool->Hp->Prop}(kg:KG K)(h:tG E (λenv=>(f env).bind (g env)) K σ H)
  (k:∀ B H₀ Hs H1 env p,SR B H₀ Hs H1 σ env->ay (g env p) (K Hs H1) (XW (E σ) Hs H1)->R p H1):tT E f σ H R:=by
 obtain⟨B,H₀,Hs,env,sr,h⟩:=h
 refine⟨B,H₀,Hs,env,sr,(ay.bind h).imp (λp hp Kw H' g=>?_) λe he=>he⟩
 exact k B H₀ Kw H' env p (sr.grow g) (hp.imp (λq hq=>kg _ _ _ _ q hq g) λe he=>he.grow g)
theorem dc{f:af->M (List PV)}{g:af->List PV->M β}{R:List V->Hp->Prop}(kg:KG K)(h:tG E (λenv=>(f env).bind (g env)) K σ H)
  (k:∀ B H₀ Hs H1 env p v,SR B H₀ Hs H1 σ env->aM Hs p v->ay (g env p) (K Hs H1) (XW (E σ) Hs H1)->R v H1):tL E f σ H R:=by
 obtain⟨B,H₀,Hs,env,sr,h⟩:=h
 refine⟨B,H₀,Hs,env,sr,(ay.bind h).imp (λp hp v Kw H' g r=>?_) λe he=>he⟩
 exact k B H₀ Kw H' env p v (sr.grow g) r (hp.imp (λq hq=>kg _ _ _ _ q hq g) λe he=>he.grow g)
end
def vo:PV->M Bool
 | .bl b=>M.ok b
 | _=>none
def fE(f:af->M PV):af->M Bool:=λenv=>(f env).bind vo
theorem ay.Ik{Q:Bool->Prop}{E:EX->Prop}(h:ay (vo p) Q E):∃ b,p=.bl b/\Q b:=by
 cases p with
 | bl b=>exact⟨b,rfl,h⟩
 | _=>exact h.elim
variable{r:List V->Hp->VK->Prop}
section
variable{a b:Expr}{pos:Pos}{f g h:af->M PV}{u v:af->M Bool}{rest:List Expr}
theorem sQ{Q:Bool->Hp->Prop}(q:tT E (fE f) σ H Q):tB (tE E f) σ H Q:=by
 refine cj KB.g q λB H₀ Hs H1 env p v sr rp hp=>?_
 obtain⟨k,rfl,hp⟩:=ay.Ik hp
 cases rp
 exact⟨k,rfl,hp Hs H1 (.refl sr.gr.sub)⟩
theorem qj(he:PE X e (tE E f))(hw:autoParam (∀ whole,isTrue e X.env whole=(do let v ← whole;standAt e.pos;holding [v] (truthy v))) aI._auto_1):PT X e (tT E (fE f)) :=
 (Gh he hw).imp fun σ H Q q=>sQ q
theorem jq{r:R2}{o:PV->PV->M PV}(ho:gU X (compareOp op) r)(hv:l9 E r o)(ha:PE X a (tE E f))(hb:PE X b (tE E g))(hm:behindInMarks op b=false):PT X (.Compare a [op] [b] pos) (tT E (fE (aj o f g))):=by
 refine(vD ho ha hb hm).imp fun σ H Q q=>?_
 have q':=sQ q
 exact wb q' λHs H1 p q v u s rp rq h=>hv σ Hs H1 p q v u _ s rp rq h
def k6(u:af->M Bool):af->M Bool:=λenv=>(u env).bind λb=>M.ok (!b)
def D_(u v:af->M Bool):af->M Bool:=λenv=>(u env).bind λb=>if b=true then v env else M.ok false
def G4(u v:af->M Bool):af->M Bool:=λenv=>(u env).bind λb=>if b=true then M.ok true else v env
theorem FO(ha:PT X a (tT E u)):PT X (.UnaryOp .Not a pos) (tT E (k6 u)) :=
 (D8 ha).imp fun σ H Q q=>ko KB.g q λB H₀ Hs H1 env p sr hp=>hp Hs H1 (.refl sr.gr.sub)
theorem BI(ha:PT X a (tT E u)):PW X (.BoolOp .And [a] pos) (tT E u):=pw_and1 ha
theorem uR(ha:PT X a (tT E u)):PW X (.BoolOp .Or [a] pos) (tT E u):=pw_or1 ha
theorem Gj(ha:PT X a (tT E u))(hb:PW X (.BoolOp .And (b::rest) pos) (tT E v)):PW X (.BoolOp .And (a::b::rest) pos) (tT E (D_ u v)):=by
 refine(pw_and ha hb).imp fun σ H Q q=>ko KB.g q λB H₀ Hs H1 env p sr hp=>?_
 cases p with
 | true=>exact⟨B,H₀,Hs,env,sr,hp⟩
 | false=>exact hp Hs H1 (.refl sr.gr.sub)
theorem yQ(ha:PT X a (tT E u))(hb:PW X (.BoolOp .Or (b::rest) pos) (tT E v)):PW X (.BoolOp .Or (a::b::rest) pos) (tT E (G4 u v)):=by
 refine(pw_or ha hb).imp fun σ H Q q=>ko KB.g q λB H₀ Hs H1 env p sr hp=>?_
 cases p with
 | true=>exact hp Hs H1 (.refl sr.gr.sub)
 | false=>exact⟨B,H₀,Hs,env,sr,hp⟩
def EM(f:af->M PV):af->M PV:=λenv=>(f env).bind λp=>(vo p).bind λb=>M.ok (.bl (!b))
def AF(f g:af->M PV):af->M PV:=λenv=>(f env).bind λp=>(vo p).bind λb=>if b=true then g env else M.ok (.bl false)
def Kh(f g:af->M PV):af->M PV:=λenv=>(f env).bind λp=>(vo p).bind λb=>if b=true then M.ok (.bl true) else g env
theorem Gf(ha:PE X a (tE E f)):PE X (.UnaryOp .Not a pos) (tE E (EM f)):=by
 refine(Eo ha).imp fun σ H Q q=>cj (K:=jR Q) jR.g q λB H₀ Hs H1 env p v sr rp hp=>?_
 obtain⟨k,rfl,hp⟩:=ay.Ik (ay.bind hp)
 cases rp
 exact⟨k,rfl,dR.flat hp sr.gr.sub (.bl _)⟩
theorem uz(ha:PE X a (tE E f))(hb:PE X (.BoolOp .And (b::rest) pos) (tE E g)):PE X (.BoolOp .And (a::b::rest) pos) (tE E (AF f g)):=by
 refine(FI ha hb).imp fun σ H Q q=>cj (K:=jR Q) jR.g q λB H₀ Hs H1 env p v sr rp hp=>?_
 obtain⟨k,rfl,hp⟩:=ay.Ik (ay.bind hp)
 cases rp
 refine⟨k,rfl,?_⟩
 cases k with
 | true=>exact⟨B,H₀,Hs,env,sr,hp⟩
 | false=>exact dR.flat hp sr.gr.sub (.bl _)
def xn(u:af->M Bool)(f g:af->M PV):af->M PV:=λenv=>(u env).bind λb=>if b=true then f env else g env
theorem Eb(hc:PT X c (tT E u))(ha:PE X a (tE E f))(hb:PE X b (tE E g)):PE X (.IfExp c a b pos) (tE E (xn u f g)):=by
 refine(Ap hc ha hb).imp fun σ H Q q=>ko (K:=jR Q) jR.g q λB H₀ Hs H1 env p sr hp=>?_
 cases p with
 | true=>exact⟨B,H₀,Hs,env,sr,hp⟩
 | false=>exact⟨B,H₀,Hs,env,sr,hp⟩
def ao:af->M (List PV):=λ_=>M.ok []
def aa(f:af->M PV)(fs:af->M (List PV)):af->M (List PV):=λenv=>(f env).bind λp=>(fs env).bind λps=>M.ok (p::ps)
variable{fs:af->M (List PV)}
theorem yM:PA X [] (tL E ao):=by
 refine g9.imp fun σ H Q q=>?_
 obtain⟨B,H₀,Hs,env,sr,q⟩:=q
 exact q [] Hs H (.refl sr.gr.sub) .nil
theorem vz(ha:PE X e (tE E f))(hr:PA X es (tL E fs))(hs:autoParam (starEach (e::es) X.env=(false,eval e X.env)::starEach es X.env) aR._auto_1):PA X (e::es) (tL E (aa f fs)):=by
 refine(dJ ha hr hs).imp fun σ H Q q=>cj (K:=KL Q) KL.g q λB H₀ Hs H1 env p v sr rp hp=>?_
 refine⟨B,H₀,Hs,env,sr,(ay.bind hp).imp (λps N5 vs Kw H' g r=>?_) λe he=>he⟩
 exact N5 (v::vs) Kw H' g (.cons (rp.mono g.st) r)
def j4(fs:af->M (List PV)):af->M PV:=λenv=>(fs env).bind λps=>cC (ps.length<=sizeLine) (M.ok (.tup ps))
def oS(fs:af->M (List PV)):af->M PV:=λenv=>(fs env).bind λps=>cC (ps.length<=sizeLine) (M.ok (.lst ps))
theorem Ey(hr:PA X es (tL E fs)):PE X (.Tuple es x1 pos) (tE E (j4 fs)):=by
 refine(AV hr).imp fun σ H Q q=>dc (K:=jR Q) jR.g q λB H₀ Hs H1 env p v sr rp hp=>?_
 obtain⟨hz,hp⟩:=ay.cC hp
 exact⟨by rw[← rp.length];exact hz,dR.tup hp sr.gr.sub rp⟩
theorem yu(hr:PA X es (tL E fs)):PE X (.List es pos) (tE E (oS fs)):=by
 refine(nX hr).imp fun σ H Q q=>dc (K:=jR Q) jR.g q λB H₀ Hs H1 env p v sr rp hp=>?_
 obtain⟨hz,hp⟩:=ay.cC hp
 exact⟨by rw[← rp.length];exact hz,dR.lst hp sr.gr.sub rp⟩
def ai(o:List PV->M PV)(fs:af->M (List PV)):af->M PV:=λenv=>(fs env).bind o
def jZ(E:St->XK)(r:List V->Hp->VK->Prop)(o:List PV->M PV):Prop:=∀ (σ:St) (Hs H:Hp) (ps:List PV) (vs:List V) (Q:VK),bf Hs H->aM Hs ps vs->ay (o ps) (dR Hs H Q) (XW (E σ) Hs H)->r vs H Q
theorem yI{o:List PV->M PV}{Q:VK}(hv:jZ E r o)(q:tE E (ai o fs) σ H Q):Ii r (tL E fs) σ H Q :=
 dc (K:=jR Q) jR.g q λB H₀ Hs H1 env p v sr rp hp=>hv σ Hs H1 p v Q sr.gr.sub rp hp
variable{p:Pos}{id T:String}
theorem kr{o:List PV->M PV}(hc:dz X (.builtin id) r)(hv:jZ E r o)(hg:Gl X x)(hm:X.mg x=none)(hx:bootBuiltins x=some (.builtin id))(ha:PA X (e::es) (tL E fs))(hn:autoParam (x ≠ "__name__") aD._auto_1)(Lz:autoParam ((x==("__debug__" : Str))=false) aD._auto_1)
  (he:autoParam (starEach (e::es) X.env=(false,eval e X.env)::starEach es X.env) aR._auto_1) (K7:autoParam ((backTo pos (starEach es X.env)).any (·.1)=false) aR._auto_1):PE X (.Call (.Name x p) (e::es) [] pos) (tE E (ai o fs)) :=
 (kT hc hg hm hx ha hn Lz he K7).imp fun σ H Q q=>yI hv q
theorem lp{o:List PV->M PV}(hc:dz X (.type T) r)(hv:jZ E r o)(hg:Gl X x)(hm:X.mg x=none)(hx:bootBuiltins x=some (.type T))(ha:PA X (e::es) (tL E fs))(hn:autoParam (x ≠ "__name__") aD._auto_1)(Lz:autoParam ((x==("__debug__" : Str))=false) aD._auto_1)
  (he:autoParam (starEach (e::es) X.env=(false,eval e X.env)::starEach es X.env) aR._auto_1) (K7:autoParam ((backTo pos (starEach es X.env)).any (·.1)=false) aR._auto_1):PE X (.Call (.Name x p) (e::es) [] pos) (tE E (ai o fs)) :=
 (wH hc hg hm hx ha hn Lz he K7).imp fun σ H Q q=>yI hv q
end
variable{xs:List PV}
def bR:PV->Option (List PV)
 | .tup xs=>some xs
 | .lst xs=>some xs
 | .iU xs=>some xs
 | _=>none
theorem AY{K:PySem.W.Frag}(s:bf Hs H)(r:Rep Hs p v)(e:bR p=some xs):∃ a vs,v=.ref a/\(f9 K H a vs\/gu K H a vs)/\aM Hs xs vs:=by
 cases r with
 | tup h r=>cases e;exact⟨_,_,rfl,.inr (gu.of (s _ _ h)),r⟩
 | lst h r=>cases e;exact⟨_,_,rfl,.inl (f9.of (s _ _ h)),r⟩
 | iU h r=>cases e;exact⟨_,_,rfl,.inl (.inl (.inr ⟨_,s _ _ h⟩)),r⟩
 | _=>cases e
def qN:PV->M PV
 | .str z=>cC (z.length<=sizeLine) (M.ok (.int z.length))
 | p=>eZ ((bR p).map λxs=>.int xs.length)
def fx:List PV->M PV
 | [p]=>qN p
 | _=>none
theorem aM.one(r:aM H [p] vs):∃ v,vs=[v]/\Rep H p v:=by
 cases r with
 | cons h r=>cases r;exact⟨_,rfl,h⟩
theorem aM.two{q:PV}(r:aM H [p,q] vs):∃ v u,vs=[v,u]/\Rep H p v/\Rep H q u:=by
 cases r with
 | cons h r=>obtain⟨u,rfl,h2⟩:=r.one;exact⟨_,_,rfl,h,h2⟩
def Au(K:PySem.W.Frag):List V->Hp->VK->Prop:=λxs H Q=>(∃ p ys,xs=[.ref p]/\(f9 K H p ys\/gu K H p ys)/\Q (.int ys.length) H)\/∃ z,xs=[.str z]/\z.length<=sizeLine/\Q (.int z.length) H
theorem qb:dz X (.builtin "len") (Au X.K):=dz.or qD qJ
theorem E3{K:PySem.W.Frag}:jZ E (Au K) fx:=by
 intro σ Hs H ps vs Q s r h
 match ps,r with
 | [],_=>exact h.elim
 | _::_::_,_=>exact h.elim
 | [p],r =>
  obtain⟨v,rfl,rp⟩:=r.one
  cases hp:bR p with
  | none =>
   cases p with
   | str z =>
    cases rp
    obtain⟨hz,h⟩:=ay.cC h
    exact .inr ⟨z,rfl,hz,dR.flat h s (.int _)⟩
   | tup _=>cases hp
   | lst _=>cases hp
   | iU _=>cases hp
   | _=>exact h.elim
  | some xs =>
   obtain⟨a,us,rfl,hq,hx⟩:=AY (K:=K) s rp hp
   have h':ay (eZ ((bR p).map λxs=>PV.int xs.length)) (dR Hs H Q) (XW (E σ) Hs H):=by
    cases p with
    | str z=>cases hp
    | _=>exact h
   rw[hp] at h'
   refine .inl ⟨a,us,rfl,hq,?_⟩
   rw[← hx.length]
   exact dR.flat h' s (.int _)
def vJ:List PV->M PV
 | [p]=>eZ ((bR p).map .lst)
 | _=>none
theorem Ck{K:PySem.W.Frag}:jZ E (λxs H Q=>∃ p ys,xs=[.ref p]/\(f9 K H p ys\/gu K H p ys)/\∀ l,H l=none->Q (.ref l) (upd H l (.lst ys))) vJ:=by
 intro σ Hs H ps vs Q s r h
 match ps,r with
 | [],_=>exact h.elim
 | _::_::_,_=>exact h.elim
 | [p],r =>
  obtain⟨v,rfl,rp⟩:=r.one
  obtain⟨x,ex,h⟩:=ay.opt h
  obtain⟨xs,hp,rfl⟩:=Option.map_eq_some_iff.mp ex
  obtain⟨a,us,rfl,hq,hx⟩:=AY (K:=K) s rp hp
  exact⟨a,us,rfl,hq,dR.lst h s hx⟩
def dC:List PV->M PV
 | [p]=>eZ ((bR p).map .tup)
 | _=>none
theorem zH{K:PySem.W.Frag}:jZ E (λxs H Q=>∃ p ys,xs=[.ref p]/\((f9 K H p ys/\∀ l,H l=none->Q (.ref l) (upd H l (.tup ys)))\/(gu K H p ys/\Q (.ref p) H))) dC:=by
 intro σ Hs H ps vs Q s r h
 match ps,r with
 | [],_=>exact h.elim
 | _::_::_,_=>exact h.elim
 | [p],r =>
  obtain⟨v,rfl,rp⟩:=r.one
  obtain⟨x,ex,h⟩:=ay.opt h
  obtain⟨xs,hp,rfl⟩:=Option.map_eq_some_iff.mp ex
  cases rp with
  | tup ha hx=>cases hp;exact⟨_,_,rfl,.inr ⟨gu.of (s _ _ ha),dR.flat h s (.tup ha hx)⟩⟩
  | lst ha hx=>cases hp;exact⟨_,_,rfl,.inl ⟨f9.of (s _ _ ha),dR.tup h s hx⟩⟩
  | iU ha hx=>cases hp;exact⟨_,_,rfl,.inl ⟨.inl (.inr ⟨_,s _ _ ha⟩),dR.tup h s hx⟩⟩
  | _=>cases hp
def sk:List PV->Option (List Int)
 | []=>some []
 | .int i::r=>(sk r).map (i::·)
 | _=>none
def zt:List PV->Option (List Bool)
 | []=>some []
 | .bl i::r=>(zt r).map (i::·)
 | _=>none
theorem v7:∀ {ps:List PV} {ns:List Int},sk ps=some ns->ps=ns.map PV.int
 | [],_,e=>by cases e;rfl
 | .int i::r,_,e=>by
  obtain⟨ms,h1,rfl⟩:=Option.map_eq_some_iff.mp e
  rw[v7 h1];rfl
theorem zS:∀ {ps:List PV} {ns:List Bool},zt ps=some ns->ps=ns.map PV.bl
 | [],_,e=>by cases e;rfl
 | .bl i::r,_,e=>by
  obtain⟨ms,h1,rfl⟩:=Option.map_eq_some_iff.mp e
  rw[zS h1];rfl
theorem pN:∀ (ns:List Int),sk (ns.map PV.int)=some ns
 | []=>rfl
 | n::r=>by show (sk (r.map PV.int)).map (n::·)=_;rw[pN r];rfl
theorem tY:∀ (ns:List Bool),zt (ns.map PV.bl)=some ns
 | []=>rfl
 | n::r=>by show (zt (r.map PV.bl)).map (n::·)=_;rw[tY r];rfl
def Hl:PV->M PV
 | .lst xs=>eZ ((sk xs).map λns=>.int ns.sum)
 | _=>none
def ym:List PV->M PV
 | [p]=>Hl p
 | _=>none
theorem E_{K:PySem.W.Frag}:jZ E (λxs H Q=>∃ (a:Addr) (ns:List Int),xs=[.ref a]/\f9 K H a (ns.map V.int)/\Q (.int ns.sum) H) ym:=by
 intro σ Hs H ps vs Q s r h
 match ps,r with
 | [],_=>exact h.elim
 | _::_::_,_=>exact h.elim
 | [p],r =>
  obtain⟨v,rfl,rp⟩:=r.one
  cases rp with
  | lst ha hx =>
   obtain⟨x,ex,h⟩:=ay.opt h
   obtain⟨ns,hn,rfl⟩:=Option.map_eq_some_iff.mp ex
   rw[v7 hn] at hx
   exact⟨_,ns,rfl,hx.ints▸f9.of (s _ _ ha),dR.flat h s (.int _)⟩
  | _=>exact h.elim
def all1:PV->M PV
 | .lst xs=>eZ ((zt xs).map λns=>.bl (ns.all id))
 | _=>none
def rW:List PV->M PV
 | [p]=>all1 p
 | _=>none
theorem Ef{K:PySem.W.Frag}:jZ E (λxs H Q=>∃ (a:Addr) (bs:List Bool),xs=[.ref a]/\f9 K H a (bs.map V.bl)/\Q (.bl (bs.all id)) H) rW:=by
 intro σ Hs H ps vs Q s r h
 match ps,r with
 | [],_=>exact h.elim
 | _::_::_,_=>exact h.elim
 | [p],r =>
  obtain⟨v,rfl,rp⟩:=r.one
  cases rp with
  | lst ha hx =>
   obtain⟨x,ex,h⟩:=ay.opt h
   obtain⟨ns,hn,rfl⟩:=Option.map_eq_some_iff.mp ex
   rw[zS hn] at hx
   exact⟨_,ns,rfl,hx.JU▸f9.of (s _ _ ha),dR.flat h s (.bl _)⟩
  | _=>exact h.elim
def IC(o:Int->Int->Int):PV->PV->M PV
 | .int i,.int j=>M.ok (.int (o i j))
 | _,_=>none
def Dq(o:Int->Int->Int):List PV->M PV
 | [p,q]=>IC o p q
 | _=>none
theorem Df{o:Int->Int->Int}:jZ E (λxs H Q=>∃ i j,xs=[.int i,.int j]/\Q (.int (o i j)) H) (Dq o):=by
 intro σ Hs H ps vs Q s r h
 match ps,r with
 | [],_=>exact h.elim
 | [_],_=>exact h.elim
 | _::_::_::_,_=>exact h.elim
 | [p,q],r =>
  obtain⟨v,u,rfl,rp,rq⟩:=r.two
  cases rp with
  | int i=>cases rq with
   | int j=>exact⟨i,j,rfl,dR.flat h s (.int _)⟩
   | _=>exact h.elim
  | _=>exact h.elim
def dW(n:Nat)(sem:List PV->M PV):Sp:=λvs H Q E=>vs.length=n/\∃ Hs ps,bf Hs H/\aM Hs ps vs/\ay (sem ps) (dR Hs H Q) (XW E Hs H)
variable{Mh:List PV}
section
variable{sem:List PV->M PV}{p pos:Pos}{fs:af->M (List PV)}{g:af->M PV}
theorem Bz(F:aV X.prog X.w X.K X.mg X.base (bU X.prog X.w) k f fd ps (dW n sem))(hr:bZ k X.A)(hg:Gl X x)(hm:X.mg x=some (.ref f))(hk:PySem.W.keepIn X.K (.ref f)=true)(hb:Binds X.K fd ps ds)(hd:Vals Lo ds)(hdp:∀ H,aM H Mh Lo)(O:eS X E)
  (hl:∀ ps,sem (ps++Mh)≠none->ps.length+Mh.length=n)
  (ha:PA X (e::es) (tL E fs)) (Lz:autoParam ((x==("__debug__" : Str))=false) aD._auto_1) (he:autoParam (starEach (e::es) X.env=(false,eval e X.env)::starEach es X.env) aR._auto_1) (K7:autoParam ((backTo pos (starEach es X.env)).any (·.1)=false) aR._auto_1) :
  PE X (.Call (.Name x p) (e::es) [] pos) (tE E (ai (λps=>sem (ps++Mh)) fs)):=by
 refine(AB F hr hg hm hk hb hd O ha Lz he K7).imp fun σ H Q q=>dc (K:=jR Q) jR.g q λB H₀ Hs H1 env Mj v sr rp hp=>?_
 have r2:aM Hs (Mj++Mh) (v++Lo):=rp.append (hdp Hs)
 have hn:sem (Mj++Mh)≠none:=λz=>by rw[z] at hp;exact hp
 refine⟨?_,Hs,Mj++Mh,sr.gr.sub,r2,hp⟩
 rw[← r2.length,List.length_append]
 exact hl Mj hn
def dX(ok:Addr->Bool)(f:Str)(g:af->M PV):af->M PV:=λenv=>(g env).bind λp=>match p with
 | .obj C fs=>cC (ok C=true) (eZ (fs.lookup f))
 | _=>none
theorem Gn{ok:Addr->Bool}{fl:Str}(he:PE X e (tE E g))(bC:∀ C,ok C=true->kW X.K C/\bN X.K C fl)(hb:attributeBase e fl X.env (eval e X.env)=eval e X.env):PE X (.Attribute e fl pos) (tE E (dX ok fl g)):=by
 refine(FJ he hb).imp fun σ H Q q=>cj (K:=jR Q) jR.g q λB H₀ Hs H1 env p v sr rp hp=>?_
 cases rp with
 | obj ha hx =>
  obtain⟨hc,hp⟩:=ay.cC hp
  obtain⟨x,ex,hp⟩:=ay.opt hp
  obtain⟨u,h1,h2⟩:=hx.look ex
  exact⟨_,_,_,_,u,rfl,sr.gr.sub _ _ ha,(bC _ hc).1,(bC _ hc).2,h1,dR.flat hp sr.gr.sub h2⟩
 | _=>exact hp.elim
def bh(C:Addr)(m:Str)(sem:List PV->M PV)(g:af->M PV)(fs:af->M (List PV)):af->M PV:=λenv=>(g env).bind λp=>match p with
 | .obj C' fl=>cC (C'=C/\fl.lookup m=none) ((fs env).bind λps=>sem (.obj C' fl::ps))
 | _=>none
theorem B_(he:PE X o (tE E g))(c:kW X.K C)(hm:Meth X.K C m f)(F:aV X.prog X.w X.K X.mg X.base (bU X.prog X.w) k f fd ps (dW n sem))(hr:bZ k X.A)(hb:Binds X.K fd ps [])(O:eS X E)(hl:∀ ps,sem ps≠none->ps.length=n)(ha:PA X (e::es) (tL E fs))
  (K4:autoParam (starEach (e::es) X.env=(false,eval e X.env)::starEach es X.env) aR._auto_1) (K7:autoParam ((backTo pos (starEach es X.env)).any (·.1)=false) aR._auto_1)
  (ht:autoParam (eval (.Call (.Attribute o m apos) (e::es) [] pos) X.env=(do
   let ov ← eval o X.env
   standAt apos.atName
   let (f,first) ← holding [ov] (getMethod ov m pl)
   callWith pos f first (backTo pos (starEach (e::es) X.env)) (backToKw pos (keywordEach [] X.env)))) aR._auto_1) :
  PE X (.Call (.Attribute o m apos) (e::es) [] pos) (tE E (bh C m sem g fs)):=by
 refine(zo he c hm F hr hb .nil O ha K4 K7 ht).imp fun σ H Q q=>cj (K:=jR Q) jR.g q λB H₀ Hs H1 env p v sr rp hp=>?_
 cases rp with
 | @obj a C' dx fl fvs ho hx =>
  obtain⟨⟨e1,hn⟩,GC⟩:=ay.cC hp
  subst e1
  refine⟨a,dx,fvs,rfl,sr.gr.sub _ _ ho,hx.none hn,B,H₀,Hs,env,sr,(ay.bind GC).imp (λMj N5 vs Kw H' g' r=>?_) λe he=>he⟩
  have r2:aM Kw (.obj C' fl::Mj) (V.ref a::(vs++[])):=by rw[List.append_nil];exact .cons ((Rep.obj ho hx).mono g'.st) r
  have hn:sem (.obj C' fl::Mj)≠none:=λz=>by rw[z] at N5;exact N5
  refine⟨by rw[← r2.length];exact hl _ hn,Kw,_,g'.sub,r2,N5.imp (λz hz w KH H2 g2 r2=>hz w KH H2 (g'.trans g2) r2) λe he=>he.grow g'⟩
 | _=>exact hp.elim
theorem Ah(he:PE X o (tE E g))(c:kW X.K C)(hm:Meth X.K C m f)(F:aV X.prog X.w X.K X.mg X.base (bU X.prog X.w) k f fd ps (dW n sem))(hr:bZ k X.A)(hb:Binds X.K fd ps [])(O:eS X E)(hl:∀ ps,sem ps≠none->ps.length=n)
  (ht:autoParam (eval (.Call (.Attribute o m apos) [] [] pos) X.env=(do
   let ov ← eval o X.env
   standAt apos.atName
   let (f,first) ← holding [ov] (getMethod ov m pl)
   callWith pos f first (backTo pos (starEach [] X.env)) (backToKw pos (keywordEach [] X.env)))) aR._auto_1) :
  PE X (.Call (.Attribute o m apos) [] [] pos) (tE E (bh C m sem g ao)):=by
 refine(w9 he c hm F hr hb .nil O ht).imp fun σ H Q q=>cj (K:=jR Q) jR.g q λB H₀ Hs H1 env p v sr rp hp=>?_
 cases rp with
 | @obj a C' dx fl fvs ho hx =>
  obtain⟨⟨e1,hn⟩,GC⟩:=ay.cC hp
  subst e1
  have r2:aM Hs [.obj C' fl] [V.ref a]:=.cons (Rep.obj ho hx) .nil
  have hn':sem [.obj C' fl]≠none:=λz=>by
   have Nw:ay (sem [.obj C' fl]) (dR Hs H1 Q) (XW (E σ) Hs H1):=GC
   rw[z] at Nw;exact Nw
  exact⟨a,dx,fvs,rfl,sr.gr.sub _ _ ho,hx.none hn,by rw[show ([]:List V)++[]=[] from rfl];exact r2.length▸hl _ hn',Hs,_,sr.gr.sub,r2,GC⟩
 | _=>exact hp.elim
end
inductive Out where
 | nx (env:af) | rt (p:PV) | bk (env:af) | ct (env:af)
def KS(D:Ends)(B H₀:Hp):Out->Prop
 | .nx env=>∀ σ Hs H,SR B H₀ Hs H σ env->D.nx σ H
 | .rt p=>∀ v Hs H,bF B H₀ Hs H->Rep Hs p v->D.rt v H
 | .bk env=>∀ σ Hs H,SR B H₀ Hs H σ env->D.bk σ H
 | .ct env=>∀ σ Hs H,SR B H₀ Hs H σ env->D.ct σ H
def tS(E:XK)(f:af->M Out):TS:=λD σ H=>∃ B H₀ Hs env,SR B H₀ Hs H σ env/\ay (f env) (KS D B H₀) (XW E B H₀)
theorem PS.imp{st:Stmt}{t t':TS}(h:PS X st t)(i:∀ D σ H,t' D σ H->t D σ H):PS X st t':=λKt s σ H D I q=>h Kt s σ H D I (i D σ H q)
theorem kj.imp{st:List Stmt}{t t':TS}(h:kj X st t)(i:∀ D σ H,t' D σ H->t D σ H):kj X st t':=λKt s σ H D I q=>h Kt s σ H D I (i D σ H q)
def au:af->M Out:=λenv=>M.ok (.nx env)
def wC(g:af->M Out):Out->M Out
 | .nx env=>g env
 | o=>M.ok o
noncomputable def ar(f g:af->M Out):af->M Out:=λenv=>(f env).bind (wC g)
theorem jn{E:XK}{f:af->M PV}{g:af->PV->M Out}{D:Ends}{R:VK}(h:tS E (λenv=>(f env).bind (g env)) D σ H)
  (k:∀ B H₀ Hs H1 env p v,SR B H₀ Hs H1 σ env->Rep Hs p v->ay (g env p) (KS D B H₀) (XW E B H₀)->R v H1):tE (λ_=>E) f σ H R:=by
 obtain⟨B,H₀,Hs,env,sr,h⟩:=h
 refine⟨B,H₀,Hs,env,sr,(ay.bind h).imp (λp hp v Kw H' g r=>?_) λe he=>he.grow sr.gr⟩
 exact k B H₀ Kw H' env p v (sr.grow g) r hp
theorem z7{E:XK}{f:af->M Bool}{g:af->Bool->M Out}{D:Ends}{R:Bool->Hp->Prop}(h:tS E (λenv=>(f env).bind (g env)) D σ H)
  (k:∀ B H₀ Hs H1 env p,SR B H₀ Hs H1 σ env->ay (g env p) (KS D B H₀) (XW E B H₀)->R p H1):tT (λ_=>E) f σ H R:=by
 obtain⟨B,H₀,Hs,env,sr,h⟩:=h
 refine⟨B,H₀,Hs,env,sr,(ay.bind h).imp (λp hp Kw H' g=>?_) λe he=>he.grow sr.gr⟩
 exact k B H₀ Kw H' env p (sr.grow g) hp
theorem t9{E:XK}{f:af->M (List PV)}{g:af->List PV->M Out}{D:Ends}{R:List V->Hp->Prop}(h:tS E (λenv=>(f env).bind (g env)) D σ H)
  (k:∀ B H₀ Hs H1 env p v,SR B H₀ Hs H1 σ env->aM Hs p v->ay (g env p) (KS D B H₀) (XW E B H₀)->R v H1):tL (λ_=>E) f σ H R:=by
 obtain⟨B,H₀,Hs,env,sr,h⟩:=h
 refine⟨B,H₀,Hs,env,sr,(ay.bind h).imp (λp hp v Kw H' g r=>?_) λe he=>he.grow sr.gr⟩
 exact k B H₀ Kw H' env p v (sr.grow g) r hp
theorem SR.set{B H₀ Hs H:Hp}{σ:St}{env:af}{p:PV}{v:V}{i:Nat}(r:SR B H₀ Hs H σ env)(h:Rep Hs p v):SR B H₀ Hs H (σ.set i (some v)) (env.set i (some (.sh p))) where
 gr:=r.gr
 len:=by rw[List.length_set,List.length_set];exact r.len
 sh:=λj q e=>by
  rw[List.getElem?_set] at e ⊢
  by_cases z:i=j
  ·subst z
   rw[if_pos rfl] at e ⊢
   split at e
   ·cases e
    rw[if_pos (by rw[r.len];assumption)]
    exact⟨v,rfl,h⟩
   ·cases e
  ·rw[if_neg z] at e ⊢
   exact r.sh j q e
 ow:=λj xs e=>by
  rw[List.getElem?_set] at e ⊢
  by_cases z:i=j
  ·subst z
   rw[if_pos rfl] at e
   split at e <;> cases e
  ·rw[if_neg z] at e ⊢
   exact r.ow j xs e
 sep:=λj k xs ys a n e1 e2 e3 e4=>by
  rw[List.getElem?_set] at e1 e2 e3 e4
  by_cases z:i=j
  ·subst z
   rw[if_pos rfl] at e1
   split at e1 <;> cases e1
  ·by_cases z2:i=k
   ·subst z2
    rw[if_pos rfl] at e2
    split at e2 <;> cases e2
   ·rw[if_neg z] at e1 e3
    rw[if_neg z2] at e2 e4
    exact r.sep j k xs ys a n e1 e2 e3 e4
 bd:=λj a C fs e=>by
  rw[List.getElem?_set] at e ⊢
  by_cases z:i=j
  ·subst z
   rw[if_pos rfl] at e
   split at e <;> cases e
  ·rw[if_neg z] at e ⊢
   exact r.bd j a C fs e
 one:=λj k a b C D fs gs e1 e2=>by
  rw[List.getElem?_set] at e1 e2
  by_cases z:i=j
  ·subst z
   rw[if_pos rfl] at e1
   split at e1 <;> cases e1
  ·by_cases z2:i=k
   ·subst z2
    rw[if_pos rfl] at e2
    split at e2 <;> cases e2
   ·rw[if_neg z] at e1
    rw[if_neg z2] at e2
    exact r.one j k _ _ C D fs gs e1 e2
theorem SR.own{B:Hp}{env:af}{p:Addr}(r:SR B H₀ Hs H σ env)(h:aM Hs xs vs)(n:H p=none):SR B H₀ Hs (upd H p (.lst vs)) (σ.set i (some (.ref p))) (env.set i (some (.ow xs))):=by
 have ne:∀ c u,H c=some u->c≠p:=λc u e z=>by rw[z,n] at e;cases e
 have hs:Hs p=none:=by
  cases q:Hs p with
  | none=>rfl
  | some o=>have:=r.gr.sub _ _ q;rw[n] at this;cases this
 have h0:H₀ p=none:=by
  cases q:H₀ p with
  | none=>rfl
  | some o=>have:=r.gr.al _ _ q;rw[n] at this;cases this
 refine⟨⟨r.gr.st,λc u e=>by rw[ak (ne c u (r.gr.al c u e))];exact r.gr.al c u e,λc u e=>by rw[ak (ne c u (r.gr.sub c u e))];exact r.gr.sub c u e,r.gr.nw⟩,by rw[List.length_set,List.length_set];exact r.len,λj q e=>?_,λj ys e=>?_,λj k ys zs a nj e1 e2 e3 e4=>?_,λj ba C fs e=>?_,λj k _ _ C D fs gs e1 e2=>?_⟩
 ·rw[List.getElem?_set] at e ⊢
  by_cases z:i=j
  ·subst z
   rw[if_pos rfl] at e
   split at e <;> cases e
  ·rw[if_neg z] at e ⊢
   exact r.sh j q e
 ·rw[List.getElem?_set] at e ⊢
  by_cases z:i=j
  ·subst z
   rw[if_pos rfl] at e ⊢
   split at e
   ·cases e
    rw[if_pos (by rw[r.len];assumption)]
    exact⟨p,vs,rfl,aw,hs,h0,h⟩
   ·cases e
  ·rw[if_neg z] at e ⊢
   obtain⟨a,us,h1,h2,h3,h4,h5⟩:=r.ow j ys e
   exact⟨a,us,h1,by rw[ak (ne a _ h2)];exact h2,h3,h4,h5⟩
 ·rw[List.getElem?_set] at e1 e2 e3 e4
  by_cases z:i=j
  ·subst z
   rw[if_pos rfl] at e3
   split at e3
   ·cases e3
    rw[if_neg nj] at e2 e4
    obtain⟨a',us,h1,h2,_⟩:=r.ow k zs e2
    rw[e4] at h1;cases h1
    rw[n] at h2;cases h2
   ·cases e3
  ·rw[if_neg z] at e1 e3
   by_cases z2:i=k
   ·subst z2
    rw[if_pos rfl] at e4
    split at e4
    ·cases e4
     obtain⟨a',us,h1,h2,_⟩:=r.ow j ys e1
     rw[e3] at h1;cases h1
     rw[n] at h2;cases h2
    ·cases e4
   ·rw[if_neg z2] at e2 e4
    exact r.sep j k ys zs a nj e1 e2 e3 e4
 ·rw[List.getElem?_set] at e ⊢
  by_cases z:i=j
  ·subst z
   rw[if_pos rfl] at e
   split at e <;> cases e
  ·rw[if_neg z] at e ⊢
   obtain⟨dx,us,h1,h2,h3,h4,h5⟩:=r.bd j ba C fs e
   exact⟨dx,us,h1,by rw[ak (ne ba _ h2)];exact h2,h3,h4,h5⟩
 ·rw[List.getElem?_set] at e1 e2
  by_cases z:i=j
  ·subst z
   rw[if_pos rfl] at e1
   split at e1 <;> cases e1
  ·by_cases z2:i=k
   ·subst z2
    rw[if_pos rfl] at e2
    split at e2 <;> cases e2
   ·rw[if_neg z] at e1
    rw[if_neg z2] at e2
    exact r.one j k _ _ C D fs gs e1 e2
def rC(i:Nat)(env:af):af:=match env[i]? with
 | some (some (.ow xs))=>env.set i (some (.sh (.lst xs)))
 | _=>env
theorem SR.o8{B:Hp}{env:af}(i:Nat)(r:SR B H₀ Hs H σ env):∃ Kw,SR B H₀ Kw H σ (rC i env)/\bf Hs Kw:=by
 unfold rC
 split
 ·rename_i xs e
  obtain⟨a,vs,h1,h2,h3,h4,h5⟩:=r.ow i xs e
  have ne:∀ c u,Hs c=some u->c≠a:=λc u q z=>by rw[z,h3] at q;cases q
  have K4:bf Hs (upd Hs a (.lst vs)):=λc u q=>by rw[ak (ne c u q)];exact q
  refine⟨upd Hs a (.lst vs),⟨⟨λc u q=>K4 c u (r.gr.st c u q),r.gr.al,λc u q=>?_,λc u q1 q2=>?_⟩,by rw[List.length_set];exact r.len,λj q ej=>?_,λj ys ej=>?_,λj k ys zs b nj e1 e2 e3 e4=>?_,λj ba C fs ej=>?_,λj k _ _ C D fs gs e1 e2=>?_⟩,K4⟩
  ·by_cases z:c=a
   ·subst z;rw[aw] at q;cases q;exact h2
   ·rw[ak z] at q;exact r.gr.sub c u q
  ·have z:c≠a:=λz=>by rw[z,h4] at q2;cases q2
   rw[ak z];exact r.gr.nw c u q1 q2
  ·rw[List.getElem?_set] at ej
   by_cases z:i=j
   ·subst z
    rw[if_pos rfl] at ej
    split at ej
    ·cases ej
     exact⟨.ref a,h1,.lst aw (h5.mono K4)⟩
    ·cases ej
   ·rw[if_neg z] at ej
    obtain⟨v,q1,q2⟩:=r.sh j q ej
    exact⟨v,q1,q2.mono K4⟩
  ·rw[List.getElem?_set] at ej
   by_cases z:i=j
   ·subst z
    rw[if_pos rfl] at ej
    split at ej <;> cases ej
   ·rw[if_neg z] at ej
    obtain⟨b,us,q1,q2,q3,q4,q5⟩:=r.ow j ys ej
    have nb:b≠a:=λw=>by subst w;exact r.sep i j xs ys b z e ej h1 q1
    exact⟨b,us,q1,q2,by rw[ak nb];exact q3,q4,q5.mono K4⟩
  ·rw[List.getElem?_set] at e1 e2
   by_cases z:i=j
   ·subst z
    rw[if_pos rfl] at e1
    split at e1 <;> cases e1
   ·by_cases z2:i=k
    ·subst z2
     rw[if_pos rfl] at e2
     split at e2 <;> cases e2
    ·rw[if_neg z] at e1
     rw[if_neg z2] at e2
     exact r.sep j k ys zs b nj e1 e2 e3 e4
  ·rw[List.getElem?_set] at ej
   by_cases z:i=j
   ·subst z
    rw[if_pos rfl] at ej
    split at ej <;> cases ej
   ·rw[if_neg z] at ej
    obtain⟨dx,us,q1,q2,q3,q4,q5⟩:=r.bd j ba C fs ej
    have nb:ba≠a:=λw=>by subst w;rw[h2] at q2;cases q2
    exact⟨dx,us,q1,q2,by rw[ak nb];exact q3,q4,q5.mono K4⟩
  ·rw[List.getElem?_set] at e1 e2
   by_cases z:i=j
   ·subst z
    rw[if_pos rfl] at e1
    split at e1 <;> cases e1
   ·by_cases z2:i=k
    ·subst z2
     rw[if_pos rfl] at e2
     split at e2 <;> cases e2
    ·rw[if_neg z] at e1
     rw[if_neg z2] at e2
     exact r.one j k _ _ C D fs gs e1 e2
 ·exact⟨Hs,r,λ_ _ q=>q⟩
def sL(is:List Nat)(f:af->M Out):af->M Out:=λenv=>f (is.foldl (λe i=>rC i e) env)
theorem SR.lH{B H₀ H:Hp}{σ:St}:∀ {is:List Nat} {Hs:Hp} {env:af},SR B H₀ Hs H σ env->∃ Kw,SR B H₀ Kw H σ (is.foldl (λe i=>rC i e) env)/\bf Hs Kw
 | [],Hs,_,r=>⟨Hs,r,λ_ _ q=>q⟩
 | i::is,_,_,r=>by
  obtain⟨KN,r1,s1⟩:=r.o8 i
  obtain⟨KH,r2,s2⟩:=SR.lH (is:=is) r1
  exact⟨KH,r2,λc u q=>s2 c u (s1 c u q)⟩
section
variable{E:XK}{pos:Pos}{f:af->M PV}{st:Stmt}{sts rest:List Stmt}{u:af->M Bool}{g h:af->M Out}
theorem Ga(is:List Nat)(hs:PS X st (tS E g)):PS X st (tS E (sL is g)):=hs.imp λD σ H q=>by
 obtain⟨B,H₀,Hs,env,sr,q⟩:=q
 obtain⟨Kw,r,_⟩:=sr.lH (is:=is)
 exact⟨B,H₀,Kw,_,r,q⟩
theorem BV:kj X [] (tS E au):=mR.imp λD σ H q=>by
 obtain⟨B,H₀,Hs,env,sr,q⟩:=q
 exact q σ Hs H sr
theorem Az(h1:PS X st (tS E g))(h2:kj X rest (tS E h)):kj X (st::rest) (tS E (ar g h)):=by
 refine(ij h1 h2).imp λD σ H q=>?_
 obtain⟨B,H₀,Hs,env,sr,q⟩:=q
 refine⟨B,H₀,Hs,env,sr,(ay.bind q).imp (λo ho=>?_) λe he=>he⟩
 cases o with
 | nx Ky=>exact fun σ' Kw H' Mp=>⟨B,H₀,Kw,Ky,Mp,ho⟩
 | rt p=>exact ho
 | bk Ky=>exact ho
 | ct Ky=>exact ho
def bo(i:Nat)(f:af->M PV):af->M Out:=λenv=>(f env).bind λp=>M.ok (.nx (env.set i (some (.sh p))))
theorem EU(hN:X.N.Nodup)(hi:X.N[i]?=some x)(hx:Loc X.env.scope x)(he:PE X e (tE (λ_=>E) f))(hs:autoParam (swapsWith e (some (.Name x pos')) pos.line X.env=pure false) aR._auto_1)(hf:autoParam (X.fn x=true\/X.env.scope.names.lookup x=some .local) aF._auto_1) :
  PS X (.Assign [.Name x pos'] e pos) (tS E (bo i f)) :=
 (qt hN hi hx he hs hf).imp λD σ H q=>jn q λB H₀ Hs H1 env p v sr rp hp=>hp _ Hs H1 (sr.set rp)
def retS(f:af->M PV):af->M Out:=λenv=>(f env).bind λp=>M.ok (.rt p)
theorem Ex(he:PE X e (tE (λ_=>E) f)):PS X (.Return (some e) pos) (tS E (retS f)) :=
 (E2 he).imp λD σ H q=>jn q λB H₀ Hs H1 env p v sr rp hp=>hp v Hs H1 sr.gr rp
def kK(f:af->M PV):af->M Out:=λenv=>(f env).bind λ_=>M.ok (.nx env)
theorem By(he:PE X e (tE (λ_=>E) f))(hs:autoParam (swapsWith e none pos.line X.env=pure false) aR._auto_1):PS X (.Expr e pos) (tS E (kK f)) :=
 (qM he hs).imp λD σ H q=>jn q λB H₀ Hs H1 env p v sr rp hp=>hp σ Hs H1 sr
def lh(u:af->M Bool)(g h:af->M Out):af->M Out:=λenv=>(u env).bind λb=>if b=true then g env else h env
theorem GR{a b:List Stmt}(hc:PT X c (tT (λ_=>E) u))(ha:kj X a (tS E g))(hb:kj X b (tS E h)):PS X (.If c a b pos) (tS E (lh u g h)):=by
 refine(DJ hc ha hb).imp λD σ H q=>z7 q λB H₀ Hs H1 env p sr hp=>?_
 cases p with
 | true=>exact⟨B,H₀,Hs,env,sr,hp⟩
 | false=>exact⟨B,H₀,Hs,env,sr,hp⟩
end
def ov(Hs H₀:Hp):Hp:=λa=>match Hs a with
 | some o=>some o
 | none=>H₀ a
theorem mM{o:HO}(h:Hs a=some o):ov Hs H₀ a=some o:=by unfold ov;rw[h]
theorem iR(h:Hs a=none):ov Hs H₀ a=H₀ a:=by unfold ov;rw[h]
theorem BF(s:bf Hs H)(t:bf H₀ H):bf (ov Hs H₀) H:=λa o e=>by
 cases q:Hs a with
 | some o'=>rw[mM q] at e;cases e;exact s _ _ q
 | none=>rw[iR q] at e;exact t _ _ e
theorem SR.rebase{B:Hp}{env:af}(r:SR B H₀ Hs H σ env):SR Hs (ov Hs H₀) Hs H σ env where
 gr:=⟨λ_ _ e=>e,BF r.gr.sub r.gr.al,r.gr.sub,λ_ _ e _=>e⟩
 len:=r.len
 sh:=r.sh
 ow:=λi xs e=>let ⟨a,vs,h1,h2,h3,h4,h5⟩:=r.ow i xs e;⟨a,vs,h1,h2,h3,by rw[iR h3];exact h4,h5⟩
 sep:=r.sep
 bd:=λi a C fs e=>let ⟨dx,vs,h1,h2,h3,h4,h5⟩:=r.bd i a C fs e;⟨dx,vs,h1,h2,h3,by rw[iR h3];exact h4,h5⟩
 one:=r.one
theorem bF.kh{B KH H2:Hp}(g:bF B H₀ Hs H)(g2:bF Hs (ov Hs H₀) KH H2):bF B H₀ KH H2 where
 st:=λa o e=>g2.st a o (g.st a o e)
 al:=λa o e=>by
  cases q:Hs a with
  | some o' =>
   have h1:=g.sub a o' q
   have h2:=g.al a o e
   rw[h1] at h2;cases h2
   exact g2.al a _ (mM q)
  | none=>exact g2.al a o (by rw[iR q];exact e)
 sub:=g2.sub
 nw:=λa o e q=>by
  have h1:=g.nw a o e q
  exact g2.nw a o h1 (by rw[iR h1];exact q)
theorem SR.kh{B H₀ Hs H KH H2:Hp}{σ:St}{env:af}(g:bF B H₀ Hs H)(r:SR Hs (ov Hs H₀) KH H2 σ env):SR B H₀ KH H2 σ env where
 gr:=g.kh r.gr
 len:=r.len
 sh:=r.sh
 ow:=λi xs e=>by
  obtain⟨a,vs,h1,h2,h3,h4,h5⟩:=r.ow i xs e
  refine⟨a,vs,h1,h2,h3,?_,h5⟩
  cases q:Hs a with
  | some o=>rw[mM q] at h4;cases h4
  | none=>rw[iR q] at h4;exact h4
 sep:=r.sep
 bd:=λi a C fs e=>by
  obtain⟨dx,vs,h1,h2,h3,h4,h5⟩:=r.bd i a C fs e
  refine⟨dx,vs,h1,h2,h3,?_,h5⟩
  cases q:Hs a with
  | some o=>rw[mM q] at h4;cases h4
  | none=>rw[iR q] at h4;exact h4
 one:=r.one
theorem XW.rebase{E:XK}{B:Hp}(g:bF B H₀ Hs H){x:EX}(h:XW E B H₀ x):XW E Hs (ov Hs H₀) x:=λea KH H2 r q=>h ea KH H2 (g.kh r) q
def G7(k:af->M Out):Out->M Out
 | .nx env=>k env
 | .ct env=>k env
 | .bk env=>M.ok (.nx env)
 | .rt p=>M.ok (.rt p)
def jc(set:PV->af->M af)(body:af->M Out):List PV->af->M Out
 | [],env=>M.ok (.nx env)
 | x::xs,env=>(set x env).bind λKy=>(body Ky).bind (G7 (jc set body xs))
def Bm(E:XK)(g:TG)(set:PV->af->M af):Prop:=∀ (B H₀ Hs H:Hp) (σ:St) (env:af) (p:PV) (v:V) (Q:St->Hp->Prop) (Z:EX->Prop),SR B H₀ Hs H σ env->Rep Hs p v->ay (set p env) (λKy=>∀ σ',SR B H₀ Hs H σ' Ky->Q σ' H) Z->g v σ H Q
def bW(i:Nat)(p:PV)(env:af):M af:=M.ok (env.set i (some (.sh p)))
theorem bA{E:XK}:Bm E (aO i) (bW i):=λB H₀ Hs H σ env p v Q Z sr r h=>h _ (sr.set r)
def cP(i j:Nat):PV->af->M af
 | .tup [p,q],env=>M.ok ((env.set i (some (.sh p))).set j (some (.sh q)))
 | _,_=>none
theorem dI{E:XK}{K:PySem.W.Frag}:Bm E (jN K 2 (bM (aO i) (bM (aO j) jM))) (cP i j):=by
 intro B H₀ Hs H σ env p v Q Z sr r h
 cases r with
 | @tup a xs vs ha hx =>
  match xs,hx with
  | [p,q],hx =>
   obtain⟨v,u,rfl,rp,rq⟩:=hx.two
   exact⟨a,[v,u],rfl,gu.of (sr.gr.sub _ _ ha),rfl,v,[u],rfl,u,[],rfl,rfl,h _ ((sr.set rp).set rq)⟩
  | [],_=>exact h.elim
  | [_],_=>exact h.elim
  | _::_::_::_,_=>exact h.elim
 | _=>exact h.elim
section
variable{E:XK}{g:TG}{set:PV->af->M af}{body:af->M Out}{D:Ends}{B:Hp}
def Jv(E:XK)(set:PV->af->M af)(body:af->M Out)(D:Ends)(B H₀ KN:Hp)(xs:List PV)(i:Nat)(σ:St)(H:Hp):Prop:=∃ Hs env,SR B H₀ Hs H σ env/\bf KN Hs/\ay (jc set body (xs.drop i) env) (KS D B H₀) (XW E B H₀)
theorem Jv.done(j:Jv E set body D B H₀ KN xs n σ H)(hn:xs.length<=n):D.nx σ H:=by
 obtain⟨Hs,env,sr,_,h⟩:=j
 rw[List.drop_eq_nil_of_le hn] at h
 exact h σ Hs H sr
theorem Jv.turn{H1 Hx:Hp}{x:PV}(tg:Bm E g set)(hx:xs[i]?=some x){env:af}(sr:SR B H₀ Hs H σ env)(s1:bf KN Hs)(h:ay (jc set body (xs.drop i) env) (KS D B H₀) (XW E B H₀)){KH H2:Hp}(gr:bF Hs H KH H2)(rv:Rep KH x v) :
  g v σ H2 fun σ2 H3=>tS E body { D with nx:=Jv E set body D B H₀ KN xs (i+1),ct:=Jv E set body D B H₀ KN xs (i+1),bk:=D.nx } σ2 H3:=by
 have Lr:i<xs.length:=(List.getElem?_eq_some_iff.mp hx).1
 have hd:xs.drop i=x::xs.drop (i+1):=by
  rw[List.drop_eq_getElem_cons Lr]
  rw[List.getElem?_eq_getElem Lr] at hx
  rw[Option.some.inj hx]
 rw[hd] at h
 have Li:=sr.grow gr
 refine tg B H₀ KH H2 σ env x v _ _ Li rv ((ay.bind h).imp (λKy h' σ' Mp=>?_) λ_ z=>z)
 refine⟨KH,ov KH H₀,KH,Ky,Mp.rebase,(ay.bind h').imp (λo ho=>?_) λe he=>he.rebase Mp.gr⟩
 cases o with
 | nx e2=>exact fun σ3 L9 H3 r=>⟨L9,e2,r.kh Mp.gr,λa o z=>r.gr.st a o (gr.st a o (s1 a o z)),ho⟩
 | ct e2=>exact fun σ3 L9 H3 r=>⟨L9,e2,r.kh Mp.gr,λa o z=>r.gr.st a o (gr.st a o (s1 a o z)),ho⟩
 | bk e2=>exact fun σ3 L9 H3 r=>ho σ3 L9 H3 (r.kh Mp.gr)
 | rt p=>exact λv3 L9 H3 r q=>ho v3 L9 H3 (Mp.gr.kh r) q
end
def iQ(it:af->M (List PV))(set:PV->af->M af)(body:af->M Out):af->M Out:=λenv=>(it env).bind λxs=>jc set body xs env
def itemsOf(f:af->M PV):af->M (List PV):=λenv=>(f env).bind λp=>match bR p with | some xs=>M.ok xs | none=>none
theorem jK{K:PySem.W.Frag}(s:bf Hs H)(r:Rep Hs p v)(e:bR p=some xs):∃ b a vs,v=.ref a/\(∀ Kw H',bf Hs Kw->bf Kw H'->jT K H' b a vs)/\aM Hs xs vs:=by
 cases r with
 | tup h r=>cases e;exact⟨false,_,_,rfl,λKw H' s1 s2=>gu.of (s2 _ _ (s1 _ _ h)),r⟩
 | lst h r=>cases e;exact⟨true,_,_,rfl,λKw H' s1 s2=>f9.of (s2 _ _ (s1 _ _ h)),r⟩
 | iU h r=>cases e;exact⟨true,_,_,rfl,λKw H' s1 s2=>.inl (.inr ⟨_,s2 _ _ (s1 _ _ h)⟩),r⟩
 | _=>cases e
section
variable{E:XK}{pos p:Pos}{f f2:af->M PV}{g:TG}{set:PV->af->M af}{body:af->M Out}{bd:List Stmt}
end
def Ji:PV->M (List PV)
 | .int n=>cC (-(2^62)<=n/\n<2^62) (M.ok ((List.range n.toNat).map λ(i:Nat)=>.int (0+(i:Int))))
 | _=>none
def JF:PV->PV->M (List PV)
 | .int a,.int b=>cC (-(2^62)<=a/\a<2^62/\-(2^62)<=b/\b<2^62) (M.ok ((List.range (b-a).toNat).map λ(i:Nat)=>.int (a+(i:Int))))
 | _,_=>none
def m_:List PV->M (List PV)
 | [p]=>Ji p
 | _=>none
def xI:List PV->M (List PV)
 | [p,q]=>JF p q
 | _=>none
variable{Z:EX->Prop}
theorem xG{ps:List PV}{k:List PV->M α}{Q:α->Prop}(h:ay ((m_ ps).bind k) Q Z):∃ n:Int,ps=[.int n]/\-(2^62)<=n/\n<2^62/\ay (k ((List.range n.toNat).map λ(i:Nat)=>.int (0+(i:Int)))) Q Z:=by
 match ps with
 | []=>exact h.elim
 | _::_::_=>exact h.elim
 | [p] =>
  cases p with
  | int n =>
   obtain⟨hc,h⟩:=ay.cC (ay.bind h)
   exact⟨n,rfl,hc.1,hc.2,h⟩
  | _=>exact h.elim
theorem yk{ps:List PV}{k:List PV->M α}{Q:α->Prop}(h:ay ((xI ps).bind k) Q Z):∃ a b:Int,ps=[.int a,.int b]/\(-(2^62)<=a/\a<2^62/\-(2^62)<=b/\b<2^62)/\ay (k ((List.range (b-a).toNat).map λ(i:Nat)=>.int (a+(i:Int)))) Q Z:=by
 match ps with
 | []=>exact h.elim
 | [_]=>exact h.elim
 | _::_::_::_=>exact h.elim
 | [p,q] =>
  cases p with
  | int a=>cases q with
   | int b =>
    obtain⟨hc,h⟩:=ay.cC (ay.bind h)
    exact⟨a,b,rfl,hc,h⟩
   | _=>exact h.elim
  | _=>exact h.elim
def zip2:List PV->M (List PV)
 | [p,q]=>match bR p,bR q with
  | some xs,some ys=>M.ok (List.zipWith (λa b=>.tup [a,b]) xs ys)
  | _,_=>none
 | _=>none
theorem x9{ps:List PV}{k:List PV->M α}{Q:α->Prop}(h:ay ((zip2 ps).bind k) Q Z):∃ p q xs ys,ps=[p,q]/\bR p=some xs/\bR q=some ys/\ay (k (List.zipWith (λa b=>.tup [a,b]) xs ys)) Q Z:=by
 match ps with
 | []=>exact h.elim
 | [_]=>exact h.elim
 | _::_::_::_=>exact h.elim
 | [p,q] =>
  unfold zip2 at h
  dsimp only at h
  cases e1:bR p with
  | none=>rw[e1] at h;exact h.elim
  | some xs =>
   cases e2:bR q with
   | none=>rw[e1,e2] at h;exact h.elim
   | some ys=>rw[e1,e2] at h;exact⟨p,q,xs,ys,rfl,e1,e2,h⟩
theorem xa{f:Nat->PV}(h:i<n):((List.range n).map f)[i]?=some (f i):=by
 rw[List.getElem?_map,List.getElem?_range h];rfl
section
variable{E:XK}{a b l l1 l2:Expr}{pos p tp:Pos}{fs:af->M (List PV)}{g:TG}{set:PV->af->M af}{body:af->M Out}{bd:List Stmt}
end
def KO(Q:VK):Hp->Hp->List PV->Prop:=λHs H ps=>∀ vs p Kw H',bF Hs H Kw H'->aM Kw ps vs->H' p=none->Q (.ref p) (upd H' p (.lst vs))
def tO(E:St->XK)(f:af->M (List PV)):TE:=fun σ H Q=>tG E f (KO Q) σ H
section
variable{E:XK}{pos:Pos}{fs:af->M (List PV)}{f:af->M PV}
def tq(i:Nat)(f:af->M (List PV)):af->M Out:=λenv=>(f env).bind λps=>M.ok (.nx (env.set i (some (.ow ps))))
theorem C8(hN:X.N.Nodup)(hi:X.N[i]?=some x)(hx:Loc X.env.scope x)(he:PE X e (tO (λ_=>E) fs))(hs:autoParam (swapsWith e (some (.Name x pos')) pos.line X.env=pure false) aR._auto_1)(hf:autoParam (X.fn x=true\/X.env.scope.names.lookup x=some .local) aF._auto_1) :
  PS X (.Assign [.Name x pos'] e pos) (tS E (tq i fs)):=by
 refine(qt hN hi hx he hs hf).imp λD σ H q=>?_
 obtain⟨B,H₀,Hs,env,sr,q⟩:=q
 refine⟨B,H₀,Hs,env,sr,(ay.bind q).imp (λps hp vs p Kw H' g r n=>?_) λe he=>he.grow sr.gr⟩
 exact hp _ Kw _ ((sr.grow g).own r n)
def l5(fs:af->M (List PV)):af->M (List PV):=λenv=>(fs env).bind λps=>if ps.length<=sizeLine then M.ok ps else none
theorem E1{E:St->XK}(hr:PA X es (tL E fs)):PE X (.List es pos) (tO E (l5 fs)):=by
 refine(nX hr).imp fun σ H Q q=>?_
 obtain⟨B,H₀,Hs,env,sr,q⟩:=q
 refine⟨B,H₀,Hs,env,sr,(ay.bind q).imp (λps hp vs Kw H' g r=>?_) λe he=>he⟩
 by_cases hz:ps.length<=sizeLine
 ·rw[if_pos hz] at hp
  exact⟨by rw[← r.length];exact hz,λp n=>hp vs p Kw H' g r n⟩
 ·rw[if_neg hz] at hp;exact hp.elim
def nI(i:Nat)(f:af->M PV):af->M Out:=λenv=>match env[i]? with
 | some (some (.ow xs))=>(f env).bind λp=>if xs.length<sizeLine then M.ok (.nx (env.set i (some (.ow (xs++[p]))))) else none
 | _=>none
theorem SR.put{B:Hp}{env:af}{ys:List PV}{us:List V}(r:SR B H₀ Hs H σ env)(e:env[i]?=some (some (.ow xs)))(hi:σ[i]?=some (some (.ref a)))(h:aM Hs ys us):SR B H₀ Hs (upd H a (.lst us)) σ (env.set i (some (.ow ys))):=by
 obtain⟨a',vs,h1,h2,h3,h4,h5⟩:=r.ow i xs e
 rw[hi] at h1;cases h1
 have nS:∀ c u,Hs c=some u->c≠a:=λc u q z=>by rw[z,h3] at q;cases q
 have n0:∀ c u,H₀ c=some u->c≠a:=λc u q z=>by rw[z,h4] at q;cases q
 refine⟨⟨r.gr.st,λc u q=>by rw[ak (n0 c u q)];exact r.gr.al c u q,λc u q=>by rw[ak (nS c u q)];exact r.gr.sub c u q,r.gr.nw⟩,by rw[List.length_set];exact r.len,λj q ej=>?_,λj zs ej=>?_,λj k y1 y2 b nj e1 e2 e3 e4=>?_,λj ba C fs ej=>?_,λj k _ _ C D fs gs e1 e2=>?_⟩
 ·rw[List.getElem?_set] at ej
  by_cases z:i=j
  ·subst z
   rw[if_pos rfl] at ej
   split at ej <;> cases ej
  ·rw[if_neg z] at ej;exact r.sh j q ej
 ·rw[List.getElem?_set] at ej
  by_cases z:i=j
  ·subst z
   rw[if_pos rfl] at ej
   split at ej
   ·cases ej;exact⟨a,us,hi,aw,h3,h4,h⟩
   ·cases ej
  ·rw[if_neg z] at ej
   obtain⟨b,ws,q1,q2,q3,q4,q5⟩:=r.ow j zs ej
   have nb:b≠a:=λw=>by subst w;exact r.sep i j xs zs b z e ej hi q1
   exact⟨b,ws,q1,by rw[ak nb];exact q2,q3,q4,q5⟩
 ·have o1:∃ w,env[j]?=some (some (.ow w)):=by
   rw[List.getElem?_set] at e1
   by_cases z:i=j
   ·subst z;exact⟨xs,e⟩
   ·rw[if_neg z] at e1;exact⟨_,e1⟩
  have o2:∃ w,env[k]?=some (some (.ow w)):=by
   rw[List.getElem?_set] at e2
   by_cases z:i=k
   ·subst z;exact⟨xs,e⟩
   ·rw[if_neg z] at e2;exact⟨_,e2⟩
  obtain⟨w1,o1⟩:=o1
  obtain⟨w2,o2⟩:=o2
  exact r.sep j k w1 w2 b nj o1 o2 e3 e4
 ·rw[List.getElem?_set] at ej
  by_cases z:i=j
  ·subst z
   rw[if_pos rfl] at ej
   split at ej <;> cases ej
  ·rw[if_neg z] at ej
   obtain⟨dx,ws,q1,q2,q3,q4,q5⟩:=r.bd j ba C fs ej
   have nb:ba≠a:=λw=>by subst w;rw[h2] at q2;cases q2
   exact⟨dx,ws,q1,by rw[ak nb];exact q2,q3,q4,q5⟩
 ·rw[List.getElem?_set] at e1 e2
  by_cases z:i=j
  ·subst z
   rw[if_pos rfl] at e1
   split at e1 <;> cases e1
  ·by_cases z2:i=k
   ·subst z2
    rw[if_pos rfl] at e2
    split at e2 <;> cases e2
   ·rw[if_neg z] at e1
    rw[if_neg z2] at e2
    exact r.one j k _ _ C D fs gs e1 e2
theorem wF{px:Pos}(hi:X.N[i]?=some x)(hv:Bn X.env.scope x)(he:PE X e (tE (λ_=>E) f))(hd:autoParam ((x==("__debug__" : Str))=false) aD._auto_1)(LP:autoParam ((x==("__classdict__" : Str))=false) aD._auto_1)
  (MQ:autoParam (attributeBase (.Name x px) "append" X.env (eval (.Name x px) X.env)=eval (.Name x px) X.env) aR._auto_1)
  (Nx:autoParam (((backTo K2 (starEach [e] X.env)).all (λx=>!x.1)&&(backToKw K2 (keywordEach [] X.env)).all (λx=>x.1.isSome)
   && decide (([e]:List Expr).length+([]:List Keyword).length+(if ([]:List Keyword).isEmpty then 0 else 1)<30))=true) aR._auto_1)
  (MX:autoParam ((apos.endLine==K2.line)=true) aR._auto_1) (K4:autoParam (starEach [e] X.env=(false,eval e X.env)::starEach [] X.env) aR._auto_1) (Mu:autoParam ((backTo K2 (starEach [] X.env)).any (·.1)=false) aR._auto_1)
  (hs:autoParam (swapsWith (.Call (.Attribute (.Name x px) "append" apos) [e] [] K2) none pos.line X.env=pure false) aR._auto_1) :
  PS X (.Expr (.Call (.Attribute (.Name x px) "append" apos) [e] [] K2) pos) (tS E (nI i f)):=by
 refine(qM (DF PySem.F.plainAttrs_list PySem.F.slot_list_append PySem.F.type_list_append k4 (iy hi hv hd LP) (dJ he g9 K4) MQ Nx MX K4 Mu) hs).imp λD σ H q=>?_
 obtain⟨B,H₀,Hs,env,sr,q⟩:=q
 unfold nI at q
 split at q
 ·rename_i xs ex
  obtain⟨a,vs,h1,h2,h3,h4,h5⟩:=sr.ow i xs ex
  refine⟨.ref a,h1,.inl ⟨rfl,vs,f9.of h2⟩,B,H₀,Hs,env,sr,(ay.bind q).imp (λp hp v Kw H' g r=>?_) λe he=>he.grow sr.gr⟩
  by_cases hz:xs.length<sizeLine
  ·rw[if_pos hz] at hp
   have Mp:=sr.grow g
   have r5:aM Kw (xs++[p]) (vs++[v]):=(h5.mono g.st).snoc r
   exact⟨a,vs,v,rfl,rfl,g.al _ _ h2,by rw[← h5.length];exact hz,hp σ Kw _ (Mp.put ex h1 r5)⟩
  ·rw[if_neg hz] at hp;exact hp.elim
 ·exact q.elim
end
def E8:Out->M PV
 | .rt p=>M.ok p
 | .nx _=>M.ok .cy
 | _=>none
def j9(m:Nat)(ps:List PV):af:=ps.map (λp=>some (.sh p))++List.replicate (m-ps.length) none
def aC(m:Nat)(g:af->M Out)(ps:List PV):M PV:=(g (j9 m ps)).bind E8
theorem SR.start{Hs H:Hp}{N:List Str}{ps:List PV}{vs:List V}(s:bf Hs H)(r:aM Hs ps vs):SR Hs H Hs H (start N vs) (j9 N.length ps) where
 gr:=.refl s
 len:=by unfold L2.start j9;simp[r.length]
 sh:=λi p e=>by
  unfold j9 at e
  unfold L2.start
  by_cases hi:i<ps.length
  ·rw[List.getElem?_append_left (by simpa using hi),List.getElem?_map,List.getElem?_eq_getElem hi] at e
   cases e
   obtain⟨v,h1,h2⟩:=r.get (List.getElem?_eq_getElem hi)
   exact⟨v,by rw[List.getElem?_append_left (by simpa using (r.length▸hi)),List.getElem?_map,h1];rfl,h2⟩
  ·rw[List.getElem?_append_right (by simpa using hi),List.getElem?_replicate] at e
   split at e <;> cases e
 ow:=λi xs e=>by
  unfold j9 at e
  by_cases hi:i<ps.length
  ·rw[List.getElem?_append_left (by simpa using hi),List.getElem?_map,List.getElem?_eq_getElem hi] at e
   cases e
  ·rw[List.getElem?_append_right (by simpa using hi),List.getElem?_replicate] at e
   split at e <;> cases e
 sep:=λi j xs ys a _ e=>by
  unfold j9 at e
  by_cases hi:i<ps.length
  ·rw[List.getElem?_append_left (by simpa using hi),List.getElem?_map,List.getElem?_eq_getElem hi] at e
   cases e
  ·rw[List.getElem?_append_right (by simpa using hi),List.getElem?_replicate] at e
   split at e <;> cases e
 bd:=λi a C fs e=>by
  unfold j9 at e
  by_cases hi:i<ps.length
  ·rw[List.getElem?_append_left (by simpa using hi),List.getElem?_map,List.getElem?_eq_getElem hi] at e
   cases e
  ·rw[List.getElem?_append_right (by simpa using hi),List.getElem?_replicate] at e
   split at e <;> cases e
 one:=λi j a b C D fs gs e=>by
  unfold j9 at e
  by_cases hi:i<ps.length
  ·rw[List.getElem?_append_left (by simpa using hi),List.getElem?_map,List.getElem?_eq_getElem hi] at e
   cases e
  ·rw[List.getElem?_append_right (by simpa using hi),List.getElem?_replicate] at e
   split at e <;> cases e
theorem Ed{K:PySem.W.Frag}{dV kV doc pm KY ct oc:Value}{an:Option Addr}{g:af->M Out}(lk:K.lookup f=some ⟨oc,od,.func (PySem.W.fnOf name qual params body scope dV kV doc pm an KY ct),M9⟩)(LP:PySem.W.codeIn K KY qual=true)(S:cB N ps scope)
  (hb:∀ (A:Around) (outer:List Env) (s:Shared) (H:Hp) (E:XK),bZ k (A.deeper (envOfC qual scope s.heap.objs.size f KY))->kj ((kQ (bU P w) P w K mg base N qual scope f KY A outer s H E).out λ_=>E) body (tS E g)) :
  aV P w K mg base (bU P w) (k+1) f (PySem.W.fnOf name qual params body scope dV kV doc pm an KY ct) ps (dW ps.length (aC N.length g)):=by
 refine uT lk LP S (λvs H Q E h=>h.1) λA outer s H vs Q E hr hs=>⟨_,hb A outer s H E hr,?_⟩
 obtain⟨_,Hs,Mj,sm,r,h⟩:=hs
 refine⟨Hs,H,Hs,_,SR.start sm r,(ay.bind h).imp (λo ho=>?_) λe he=>he⟩
 cases o with
 | rt p=>exact λv Kw H' gr rv=>ho v Kw H' gr rv
 | nx env=>exact fun σ Kw H' sr=>ho .cy Kw H' sr.gr .cy
 | bk env=>exact ho.elim
 | ct env=>exact ho.elim
section
variable{E:XK}{pos p:Pos}{fs:af->M (List PV)}
def j6(C:Addr)(fs:af->M (List PV)):af->M Out:=λenv=>(fs env).bind λps=>cC (ps.length<=sizeLine) (some (.error (C,none)))
theorem xu(O:eS X λ_=>E)(KC:X.calm=true)(hc:PySem.W.excIn X.K C eO "ValueError.__new__" = true)(c:h9 X.K C)(ht:PySem.W.typeIn X.K (.ref C)=some (.type "type"))(kp:PySem.W.keepIn X.K (.ref C)=true)(hg:Gl X x)(hm:X.mg x=some (.ref C))(ha:PA X (e::es) (tL (λ_=>E) fs))
  (Lz:autoParam ((x==("__debug__" : Str))=false) aD._auto_1) (he:autoParam (starEach (e::es) X.env=(false,eval e X.env)::starEach es X.env) aR._auto_1) (K7:autoParam ((backTo K2 (starEach es X.env)).any (·.1)=false) aR._auto_1) :
  PS X (.Raise (some (.Call (.Name x p) (e::es) [] K2)) none pos) (tS E (j6 C fs)):=by
 refine(t_ O KC (BS hc kp hg hm ha Lz he K7)).imp λD σ H q=>t9 q λB H₀ Hs H1 env Mj v sr rp hp=>?_
 obtain⟨hz,hp⟩:=ay.cC hp
 refine⟨by rw[← rp.length];exact hz,λa n=>⟨a,C,none,rfl,aw,c,ht,?_⟩⟩
 rw[vL]
 exact hp a (upd Hs a (iM C none a)) _ (sr.gr.trans (bF.new sr.gr.sub n)) (.xj aw)
def xV(K:PySem.W.Frag)(C:Addr)(fl:Str):Sp:=λvs H Q _=>∃ a y,vs=[.ref a,y]/\H a=some (jS C none a)/\∀ d,H d=none->d≠a->Q .cy (upd (upd H d (.xd [(fl,y)])) a (jS C (some d) a))
def iN(C:Addr)(fl:Str)(fs:af->M (List PV)):af->M Out:=λenv=>(fs env).bind λps=>match ps with
 | [p]=>some (.error (C,some [(fl,p)]))
 | _=>none
theorem xZ{fl:Str}(O:eS X λ_=>E)(KC:X.calm=true)(hc:og X.K C "ValueError.__new__" f=true)(hf:PySem.W.isFn X.K (.ref f)=true)(c:h9 X.K C)(ht:PySem.W.typeIn X.K (.ref C)=some (.type "type"))(kp:PySem.W.keepIn X.K (.ref C)=true)(F:aV X.prog X.w X.K X.mg X.base (bU X.prog X.w) k f fd ps (xV X.K C fl))(hr:bZ (k+1) X.A)(hb:Binds X.K fd ps [])
  (hg:Gl X x) (hm:X.mg x=some (.ref C)) (ha:PA X [e] (tL (λ_=>E) fs))
  (Lz:autoParam ((x==("__debug__" : Str))=false) aD._auto_1) (he:autoParam (starEach [e] X.env=(false,eval e X.env)::starEach [] X.env) aR._auto_1) (K7:autoParam ((backTo K2 (starEach [] X.env)).any (·.1)=false) aR._auto_1) :
  PS X (.Raise (some (.Call (.Name x p) [e] [] K2)) none pos) (tS E (iN C fl fs)):=by
 refine(t_ O KC (Bf hc hf kp F hr hb hg hm ha Lz he K7)).imp λD σ H q=>t9 q λB H₀ Hs H1 env Mj v sr rp hp=>?_
 match Mj,rp,hp with
 | [],_,hp=>exact hp.elim
 | _::_::_,_,hp=>exact hp.elim
 | [y],rp,hp =>
  obtain⟨v,rfl,ry⟩:=rp.one
  refine⟨by show 1<=sizeLine;decide,λa n=>⟨a,v,rfl,aw,λd hd hda=>⟨rfl,a,C,some d,rfl,aw,c,ht,?_⟩⟩⟩
  rw[vL]
  have hd1:H1 d=none:=by rw[ak hda] at hd;exact hd
  have g1:=bF.new (o:=.xd [(fl,v)]) sr.gr.sub hd1
  have Nl:upd H1 d (.xd [(fl,v)]) a=none:=by rw[ak (Ne.symm hda)];exact n
  have g2:=bF.new (o:=iM C (some d) a) g1.sub Nl
  have hH:upd (upd (upd H1 a (jS C none a)) d (.xd [(fl,v)])) a (iM C (some d) a)=upd (upd H1 d (.xd [(fl,v)])) a (iM C (some d) a):=by
   funext b
   by_cases z:b=a
   ·subst z;rw[aw,aw]
   ·rw[ak z,ak z]
    by_cases z2:b=d
    ·subst z2;rw[aw,aw]
    ·rw[ak z2,ak z2,ak z]
  rw[hH]
  refine hp a (upd (upd Hs d (.xd [(fl,v)])) a (iM C (some d) a)) _ ((sr.gr.trans g1).trans g2) ?_
  exact .xi aw (by rw[ak hda];exact aw) (.cons ((ry.mono g1.st).mono g2.st) .nil)
theorem mY{K:PySem.W.Frag}{dV kV doc pm KY ct oc:Value}{an:Option Addr}{n0 n1 fl:Str}{p0 p1 p2 p3:Pos}(lk:K.lookup f=some ⟨oc,od,.func (PySem.W.fnOf name qual params [.Assign [.Attribute (.Name n0 p0) fl p1] (.Name n1 p2) p3] scope dV kV doc pm an KY ct),M9⟩)(LP:PySem.W.codeIn K KY qual=true)(S:cB [n0,n1] [n0,n1] scope)
  (c:h9 K C) (ho:((PySem.W.clsIn K C).any λcd=>fK cd.mro)=true) (na:bN K C fl) (v0:Bn scope n0) (v1:Bn scope n1) (d0:(n0==("__debug__" : Str))=false) (d1:(n1==("__debug__" : Str))=false) (c0:(n0==("__classdict__" : Str))=false) (c1:(n1==("__classdict__" : Str))=false)
  (hs:∀ env,swapsWith (.Name n1 p2) (some (.Attribute (.Name n0 p0) fl p1)) p3.line env=pure false) :
  aV P w K mg base (bU P w) 1 f (PySem.W.fnOf name qual params [.Assign [.Attribute (.Name n0 p0) fl p1] (.Name n1 p2) p3] scope dV kV doc pm an KY ct) [n0,n1] (xV K C fl):=by
 refine uT (k:=0) lk LP S (λvs H Q E h=>by obtain⟨a,y,rfl,_⟩:=h;rfl) λA outer s H vs Q E hr h=>?_
 obtain⟨a,y,rfl,ha,hq⟩:=h
 refine⟨_,BB (zZ (iy (i:=0) rfl v0 d0 c0) (iy (i:=1) rfl v1 d1 c1) (hs _)),?_⟩
 exact⟨y,rfl,.ref a,rfl,a,C,rfl,ha,c,ho,na,hq⟩
end
structure jd (J:It) (KN:Hp) (xs:List PV):Prop where
 stop:∀ (i:Nat) (Hs H:Hp),bf KN Hs->bf Hs H->xs.length<=i->J.stop i H
 go:∀ (i:Nat) (Hs H:Hp),bf KN Hs->bf Hs H->i<xs.length->J.go i H
 rL:∀ (i:Nat) (Hs H:Hp) (x:V) (H2:Hp),bf KN Hs->bf Hs H->i<xs.length->J.rL i H x H2->∃ p KH,xs[i]?=some p/\bF Hs H KH H2/\Rep KH p x
def KI(R:It->Hp->Prop):Hp->Hp->List PV->Prop:=λHs H xs=>∀ J Kw H',bF Hs H Kw H'->jd J Kw xs->R J H'
def wc(E:St->XK)(wi:TI)(it:af->M (List PV)):Prop:=∀ (σ:St) (H:Hp) (R:It->Hp->Prop),tG E it (KI R) σ H->wi σ H R
theorem KI.g{R:It->Hp->Prop}:KG (KI R):=λHs H Kw H' b k g J KH H2 g2 o=>k J KH H2 (g.trans g2) o
section
variable{K:PySem.W.Frag}{f:af->M PV}{fs:af->M (List PV)}
theorem yJ(hq:∀ Kw H',bf KN Kw->bf Kw H'->jT K H' b a vs)(hr:aM KN xs vs):jd (JM K b a) KN xs where
 stop:=λi Hs H s1 s2 hi=>by
  have q:=hq Hs H s1 s2
  cases b with
  | true=>exact⟨vs,q,by rw[← hr.length];exact hi⟩
  | false=>exact⟨vs,q,by rw[← hr.length];exact hi⟩
 go:=λi Hs H s1 s2 hi=>by
  have q:=hq Hs H s1 s2
  obtain⟨v,e,_⟩:=hr.get (List.getElem?_eq_getElem hi)
  cases b with
  | true=>exact⟨vs,v,q,e⟩
  | false=>exact⟨vs,v,q,e⟩
 rL:=λi Hs H x H2 s1 s2 hi y=>by
  have q:=hq Hs H s1 s2
  obtain⟨v,e,r⟩:=hr.get (List.getElem?_eq_getElem hi)
  have z:H2=H/\vs[i]?=some x:=by
   cases b with
   | true=>exact⟨y.1,y.2 vs q⟩
   | false=>exact⟨y.1,y.2 vs q⟩
  obtain⟨rfl,z⟩:=z
  rw[e] at z;cases z
  exact⟨xs[i],Hs,List.getElem?_eq_getElem hi,.refl s2,r.mono s1⟩
theorem cU:wc E (G2 K (tE E f)) (itemsOf f):=by
 intro σ H R q
 refine cj (K:=KI R) KI.g q λB H₀ Hs H1 env p v sr rp hp=>?_
 cases e:bR p with
 | none=>rw[e] at hp;exact hp.elim
 | some xs =>
  rw[e] at hp
  obtain⟨b,a,vs,rfl,hq,hr⟩:=jK (K:=K) sr.gr.sub rp e
  exact⟨b,a,rfl,⟨vs,hq Hs H1 (λ_ _ z=>z) sr.gr.sub⟩,hp (JM K b a) Hs H1 (.refl sr.gr.sub) (yJ hq hr)⟩
def kn(o:List PV->M (List PV))(fs:af->M (List PV)):af->M (List PV):=λenv=>(fs env).bind o
theorem rY{lo:Int}:jd (Hh lo n) KN ((List.range n).map λ(i:Nat)=>PV.int (lo+(i:Int))) where
 stop:=λi Hs H s1 s2 hi=>show n<=i by simpa using hi
 go:=λi Hs H s1 s2 hi=>show i<n by simpa using hi
 rL:=λi Hs H x H2 s1 s2 hi y=>by
  obtain⟨rfl,rfl⟩:=y
  exact⟨_,Hs,xa (by simpa using hi),.refl s2,.int _⟩
theorem aE(x:M α):x.bind M.ok=x:=by
 cases x with
 | none=>rfl
 | some x=>cases x <;> rfl
theorem gq:wc E (Dw (tL E fs)) (kn m_ fs):=by
 intro σ H R q
 refine dc (K:=KI R) KI.g q λB H₀ Hs H1 env ps v sr rp hp=>?_
 rw[← aE (m_ ps)] at hp
 obtain⟨n,rfl,h1,h2,hp⟩:=xG hp
 obtain⟨w,rfl,Ml⟩:=rp.one
 cases Ml
 exact⟨n,rfl,h1,h2,hp _ Hs H1 (.refl sr.gr.sub) rY⟩
theorem yT:wc E (Du (tL E fs)) (kn xI fs):=by
 intro σ H R q
 refine dc (K:=KI R) KI.g q λB H₀ Hs H1 env ps v sr rp hp=>?_
 rw[← aE (xI ps)] at hp
 obtain⟨n,m,rfl,h1,hp⟩:=yk hp
 obtain⟨w,u,rfl,Ml,ru⟩:=rp.two
 cases Ml
 cases ru
 exact⟨n,m,rfl,h1,hp _ Hs H1 (.refl sr.gr.sub) rY⟩
theorem yL{ys:List PV}(h1:i<xs.length)(h2:i<ys.length):(List.zipWith (λa b=>PV.tup [a,b]) xs ys)[i]?=some (.tup [xs[i],ys[i]]):=by
 rw[List.getElem?_zipWith,List.getElem?_eq_getElem h1,List.getElem?_eq_getElem h2]
theorem zw{b1 b2:Bool}{a1 a2:Addr}{ys:List PV}{us:List V}(Lk:∀ Kw H',bf KN Kw->bf Kw H'->jT K H' b1 a1 vs)(MY:aM KN xs vs)(Ld:∀ Kw H',bf KN Kw->bf Kw H'->jT K H' b2 a2 us)(MZ:aM KN ys us) :
  jd (IP K b1 b2 a1 a2) KN (List.zipWith (λa b=>PV.tup [a,b]) xs ys) where
 stop:=λi Hs H s1 s2 hi=>by
  rw[List.length_zipWith,MY.length,MZ.length] at hi
  exact⟨vs,us,Lk Hs H s1 s2,Ld Hs H s1 s2,by omega⟩
 go:=λi Hs H s1 s2 hi=>by
  rw[List.length_zipWith] at hi
  obtain⟨v,e,_⟩:=MY.get (List.getElem?_eq_getElem (show i<xs.length by omega))
  obtain⟨u,e',_⟩:=MZ.get (List.getElem?_eq_getElem (show i<ys.length by omega))
  exact⟨vs,us,v,u,Lk Hs H s1 s2,Ld Hs H s1 s2,e,e'⟩
 rL:=λi Hs H x H2 s1 s2 hi y=>by
  rw[List.length_zipWith] at hi
  have l1:i<xs.length:=by omega
  have l2:i<ys.length:=by omega
  obtain⟨v,e,r⟩:=MY.get (List.getElem?_eq_getElem l1)
  obtain⟨u,e',r'⟩:=MZ.get (List.getElem?_eq_getElem l2)
  obtain⟨pa,v',u',hn,rfl,rfl,y1,y2⟩:=y
  have z1:=y1 vs (Lk Hs H s1 s2)
  have z2:=y2 us (Ld Hs H s1 s2)
  rw[e] at z1;cases z1
  rw[e'] at z2;cases z2
  have gr:=bF.new (o:=.tup [v,u]) s2 hn
  exact⟨_,_,yL l1 l2,gr,.tup aw (.cons ((r.mono s1).mono gr.st) (.cons ((r'.mono s1).mono gr.st) .nil))⟩
theorem jx:wc E (Hn K (tL E fs)) (kn zip2 fs):=by
 intro σ H R q
 refine dc (K:=KI R) KI.g q λB H₀ Hs H1 env ps v sr rp hp=>?_
 rw[← aE (zip2 ps)] at hp
 obtain⟨p,q,xs,ys,rfl,e1,e2,hp⟩:=x9 hp
 obtain⟨w,u,rfl,Ml,ru⟩:=rp.two
 obtain⟨b1,a1,vs,rfl,Lk,MY⟩:=jK (K:=K) sr.gr.sub Ml e1
 obtain⟨b2,a2,us,rfl,Ld,MZ⟩:=jK (K:=K) sr.gr.sub ru e2
 exact⟨b1,b2,a1,a2,rfl,⟨vs,Lk Hs H1 (λ_ _ z=>z) sr.gr.sub⟩,⟨us,Ld Hs H1 (λ_ _ z=>z) sr.gr.sub⟩,hp _ Hs H1 (.refl sr.gr.sub) (zw Lk MY Ld MZ)⟩
end
theorem cp{E:XK}{pos:Pos}{g:TG}{set:PV->af->M af}{body:af->M Out}{bd:List Stmt}{wi:TI}{it:af->M (List PV)}(O:eS X λ_=>E)(hc:X.calm=true)(hi:PI X tg iter wi)(hv:wc (λ_=>E) wi it)(hg:PG X tg g)(Nb:Bm E g set)(hb:kj X bd (tS E body))(hs:autoParam (∀ x,foldedSetIterable iter X.env x=pure x) aI._auto_1) :
  PS X (.For tg iter bd [] pos) (tS E (iQ it set body)):=by
 refine(A_ O.own hc hi hg hb hs).imp λD σ H q=>hv σ H _ ?_
 obtain⟨B,H₀,Hs,env,sr,q⟩:=q
 refine⟨B,H₀,Hs,env,sr,(ay.bind q).imp (λxs hp J Kw H' gr ok=>?_) λe he=>he.grow sr.gr⟩
 have Mp:=sr.grow gr
 refine⟨λi m σ H=>m=xs.length-i/\i<=xs.length/\Jv E set body D B H₀ Kw xs i σ H,⟨xs.length,by simp,Nat.zero_le _,Kw,env,Mp,λ_ _ z=>z,hp⟩,?_⟩
 rintro i m σ' H2 ⟨rfl,hi,KH,env2,Li,s2,h2⟩
 by_cases Lr:i<xs.length
 ·refine .inr ⟨ok.go i KH H2 s2 Li.gr.sub Lr,Jv E set body D B H₀ Kw xs (i+1),fun σ3 H3 j=>⟨xs.length-(i+1),by omega,rfl,Lr,j⟩,λx H3 y=>?_⟩
  obtain⟨p,L9,ep,g3,r3⟩:=ok.rL i KH H2 x H3 s2 Li.gr.sub Lr y
  exact Jv.turn (Hx:=H2) (H1:=H2) Nb ep Li s2 h2 g3 r3
 ·have e:i=xs.length:=by omega
  refine .inl ⟨ok.stop i KH H2 s2 Li.gr.sub (by omega),?_⟩
  exact Jv.done (E:=E) (set:=set) (body:=body) (xs:=xs) (B:=B) (H₀:=H₀) (KN:=Kw) (n:=i) ⟨KH,env2,Li,s2,h2⟩ (by omega)
abbrev EF:St->XK:=λ_ _ _ _=>False
def i_(env:af):Prop:=∀ (i:Nat) (x:SV),env[i]?=some (some x)->∃ p,x=.sh p
theorem i_.ow{env:af}(n:i_ env){i:Nat}{xs:List PV}(e:env[i]?=some (some (.ow xs))):False:=by obtain⟨p,z⟩:=n i _ e;cases z
theorem i_.bd{env:af}(n:i_ env){i:Nat}{a C:Addr}{fs:List (Str×PV)}(e:env[i]?=some (some (.bd a C fs))):False:=by obtain⟨p,z⟩:=n i _ e;cases z
def Gy:M α->M α
 | some (.ok a)=>some (.ok a)
 | _=>none
theorem ay.Gy{α:Type}{x:M α}{Q:α->Prop}{E:EX->Prop}(h:ay (L2.Gy x) Q E):ay x Q (λ_=>False):=by
 cases x with
 | none=>exact h
 | some x=>cases x with
  | ok a=>exact h
  | error e=>exact h
def kb(n:Nat)(js:List Nat)(env:af):af:=List.replicate n none++js.map λj=>match env[j]? with
 | some (some (.sh p))=>some (.sh p)
 | _=>none
theorem pJ{env:af}{x:SV}(h:(kb n js env)[i]?=some (some x)):∃ j p,n<=i/\js[i-n]?=some j/\env[j]?=some (some (.sh p))/\x=.sh p:=by
 unfold kb at h
 by_cases hi:i<n
 ·rw[List.getElem?_append_left (by simpa using hi),List.getElem?_replicate] at h
  split at h <;> cases h
 ·rw[List.getElem?_append_right (by simpa using hi),List.getElem?_map,List.length_replicate] at h
  cases hj:js[i-n]? with
  | none=>rw[hj] at h;cases h
  | some j =>
   rw[hj] at h
   have h':(match env[j]? with | some (some (.sh p))=>some (SV.sh p) | _=>none)=some x:=Option.some.inj h
   split at h'
   ·rename_i p e
    cases h'
    exact⟨j,p,by omega,rfl,e,rfl⟩
   ·cases h'
theorem eW{env:af}:i_ (kb n js env):=λi xs e=>by
 obtain⟨_,p,_,_,_,z⟩:=pJ e
 exact⟨p,z⟩
variable{D:Addr}
theorem SR.block{B:Hp}{env:af}(r:SR B H₀ Hs H σ env)(hD:H D=none):SR Hs H Hs (upd H D (.lst [])) (fe ts js σ) (kb ts.length js env) where
 gr:=by
  have ne:∀ c u,H c=some u->c≠D:=λc u q z=>by rw[z,hD] at q;cases q
  exact⟨λ_ _ e=>e,λc u e=>by rw[ak (ne c u e)];exact e,λc u e=>by rw[ak (ne c u (r.gr.sub c u e))];exact r.gr.sub c u e,λ_ _ e _=>e⟩
 len:=by unfold fe kb;simp
 sh:=λi p e=>by
  obtain⟨j,q,hn,hj,he,z⟩:=pJ e
  cases z
  obtain⟨v,h1,h2⟩:=r.sh j p he
  refine⟨v,?_,h2⟩
  unfold fe
  rw[List.getElem?_append_right (by simpa using hn),List.getElem?_map,List.length_map,hj]
  show some (σ[j]?).join=_
  rw[h1];rfl
 ow:=λi xs e=>(eW.ow e).elim
 sep:=λi j xs ys a _ e=>(eW.ow e).elim
 bd:=λi a C fs e=>(eW.bd e).elim
 one:=λi j a b C D fs gs e=>(eW.bd e).elim
theorem SR.lN{B:Hp}{env:af}{o:HO}(r:SR B H₀ Hs H σ env)(n:i_ env)(h1:Hs D=none)(h2:H₀ D=none):SR B H₀ Hs (upd H D o) σ env where
 gr:=⟨r.gr.st,λc u q=>by rw[ak (λz=>by rw[z,h2] at q;cases q)];exact r.gr.al c u q,λc u q=>by rw[ak (λz=>by rw[z,h1] at q;cases q)];exact r.gr.sub c u q,r.gr.nw⟩
 len:=r.len
 sh:=r.sh
 ow:=λi xs e=>(n.ow e).elim
 sep:=λi j xs ys a _ e=>(n.ow e).elim
 bd:=λi a C fs e=>(n.bd e).elim
 one:=λi j a b C D fs gs e=>(n.bd e).elim
def bP(set:PV->af->M af)(t:Option (af->M Bool))(f:af->M PV):List PV->af->M (List PV)
 | [],_=>M.ok []
 | x::xs,env=>(set x env).bind λe=>match t with
  | none=>(f e).bind λy=>(bP set t f xs e).bind λys=>M.ok (y::ys)
  | some t'=>(t' e).bind λb=>if b=true then (f e).bind λy=>(bP set t f xs e).bind λys=>M.ok (y::ys) else bP set t f xs e
def cO(it:af->M (List PV))(set:PV->af->M af)(t:Option (af->M Bool))(f:af->M PV)(n:Nat)(js:List Nat):af->M (List PV):=λenv=>(it env).bind λxs=>cC (xs.length<=sizeLine) (Gy (bP set t f xs (kb n js env)))
def lP(set:PV->af->M af):Prop:=∀ p env e,set p env=some (.ok e)->i_ env->i_ e
theorem iO{env:af}(n:i_ env):i_ (env.set i (some (.sh p))):=λj xs e=>by
 rw[List.getElem?_set] at e
 by_cases z:i=j
 ·rw[if_pos z] at e
  split at e
  ·cases e;exact⟨p,rfl⟩
  ·cases e
 ·rw[if_neg z] at e;exact n j xs e
theorem bT:lP (bW i):=λp env e h n=>by
 cases h
 exact iO n
theorem dO:lP (cP i j):=λp env e h n=>by
 unfold cP at h
 split at h
 ·cases h;exact iO (iO n)
 ·cases h
section
variable{set:PV->af->M af}{t:Option (af->M Bool)}{f:af->M PV}{Q:VK}{H1:Hp}
def Jc(set:PV->af->M af)(t:Option (af->M Bool))(f:af->M PV)(Q:VK)(KN H1:Hp)(D:Addr)(xs:List PV)(i:Nat)(σ:St)(H:Hp):Prop:=∃ Hs env ys vs,SR KN H1 Hs H σ env/\i_ env/\H D=some (.lst vs)/\Hs D=none/\aM Hs ys vs/\ys.length<=i ∧
 ay (bP set t f (xs.drop i) env) (λzs=>KO Q KN H1 (ys++zs)) (λ_=>False)
def rem(H:Hp)(D:Addr):Hp:=λa=>if a=D then none else H a
theorem zy:rem H D D=none:=by unfold rem;rw[if_pos rfl]
theorem u5(n:a≠D):rem H D a=H a:=by unfold rem;rw[if_neg n]
theorem B7{o:HO}(h:H D=some o):upd (rem H D) D o=H:=by
 funext a
 by_cases z:a=D
 ·subst z;rw[aw,h]
 ·rw[ak z,u5 z]
theorem Jc.done(hD:H1 D=none)(j:Jc set t f Q KN H1 D xs i σ H)(hi:xs.length<=i):Q (.ref D) H:=by
 obtain⟨Hs,env,ys,vs,sr,n,h1,h2,r,_,h⟩:=j
 rw[List.drop_eq_nil_of_le hi] at h
 have h':KO Q KN H1 (ys++[]):=h
 rw[List.append_nil] at h'
 have gr:bF KN H1 Hs (rem H D):=by
  refine⟨sr.gr.st,λc u q=>?_,λc u q=>?_,sr.gr.nw⟩
  ·rw[u5 (λz=>by rw[z,hD] at q;cases q)];exact sr.gr.al c u q
  ·rw[u5 (λz=>by rw[z,h2] at q;cases q)];exact sr.gr.sub c u q
 have:=h' vs D Hs (rem H D) gr r zy
 rw[B7 h1] at this
 exact this
theorem Jc.put{env:af}{ys:List PV}{y:PV}(hD:H1 D=none)(sr:SR KN H1 Hs H σ env)(n:i_ env)(h1:H D=some (.lst vs))(h2:Hs D=none)(r:aM Hs ys vs)(hy:ys.length<=i)(hi:i<sizeLine)(rv:Rep Hs y v)
  (h:ay ((bP set t f (xs.drop (i+1)) env).bind λzs=>M.ok (y::zs)) (λzs=>KO Q KN H1 (ys++zs)) (λ_=>False)) :
  ∃ us,H D=some (.lst us)/\us.length<sizeLine/\Jc set t f Q KN H1 D xs (i+1) σ (upd H D (.lst (us++[v]))):=by
 refine⟨vs,h1,by rw[← r.length];omega,Hs,env,ys++[y],vs++[v],sr.lN n h2 hD,n,aw,h2,r.snoc rv,by rw[List.length_append];show ys.length+1<=i+1;omega,(ay.bind h).imp (λzs hz=>?_) λ_ z=>z⟩
 have MM:KO Q KN H1 (ys++(y::zs)):=hz
 rw[List.append_assoc]
 exact MM
end
section
variable{cl:List (Str×Addr)}{pos:Pos}{wi:TI}{it:af->M (List PV)}{g:TG}{set:PV->af->M af}{f:af->M PV}{u:af->M Bool}{fs:List Str}
theorem v9{s₀:Shared}{ex:List Addr}:eS (oP X scope cl N C s₀ H₀ ex Kt) EF where
 pass:=λ_ _ _ _ _ _ _ h=>by
  obtain⟨_,_,_,_,_,_,_,_,_,_,_,_,_,z⟩:=h
  exact z.elim
 new:=λ_ _ _ _ _ _ _ _ _ z=>z.elim
 own:=PassesOwn.never
theorem sS{Q:VK}(hv:wc E wi it)(Nb:∀ E,Bm E g set)(so:lP set)(q:tO E (cO it set none f ts.length js) σ H Q):uI wi g (tE EF f) ts js σ H Q:=by
 refine hv σ H _ ?_
 obtain⟨B,H₀,Hs,env,sr,q⟩:=q
 refine⟨B,H₀,Hs,env,sr,(ay.bind q).imp (λxs hp J KN H1 gr ok D hD=>?_) λe he=>he⟩
 obtain⟨hz,hp⟩:=ay.cC hp
 have hp:=ay.Gy hp
 have NH:=sr.grow gr
 refine⟨λi m σ H=>m=xs.length-i/\i<=xs.length/\Jc set none f Q KN H1 D xs i σ H,⟨xs.length,by simp,Nat.zero_le _,KN,_,[],[],NH.block hD,eW,aw,?_,.nil,Nat.le_refl _,hp.imp (λzs hz vs p KH H2 g2 r n=>hz vs p KH H2 (gr.trans g2) r n) λ_ z=>z⟩,?_⟩
 ·cases z:KN D with
  | none=>rfl
  | some o=>have:=gr.sub _ _ z;rw[hD] at this;cases this
 rintro i m σ' H2 ⟨rfl,hi,KH,env2,ys,vs,Li,n2,d1,d2,r2,l2,h2⟩
 by_cases Lr:i<xs.length
 ·refine .inr ⟨ok.go i KH H2 Li.gr.st Li.gr.sub Lr,Jc set none f Q KN H1 D xs (i+1),fun σ3 H3 j=>⟨xs.length-(i+1),by omega,rfl,Lr,j⟩,λx H3 y=>?_⟩
  obtain⟨p,L9,ep,g3,r3⟩:=ok.rL i KH H2 x H3 Li.gr.st Li.gr.sub Lr y
  have hd:xs.drop i=p::xs.drop (i+1):=by
   rw[List.drop_eq_getElem_cons Lr]
   rw[List.getElem?_eq_getElem Lr] at ep
   rw[Option.some.inj ep]
  rw[hd] at h2
  have h3:=ay.bind h2
  have My:=Li.grow g3
  refine Nb (λ_ _ _=>False) KN H1 L9 H3 σ' env2 p x _ (λ_=>False) My r3 ?_
  cases hset:set p env2 with
  | none=>rw[hset] at h3;exact h3
  | some z=>cases z with
   | error e=>rw[hset] at h3;exact h3
   | ok e3 =>
    rw[hset] at h3
    intro σ4 sr4
    have n4:=so p env2 e3 hset n2
    refine⟨KN,H1,L9,e3,sr4,(ay.bind h3).imp (λy hy v MN H5 g5 r5=>?_) λ_ z=>z.elim⟩
    exact Jc.put (set:=set) (t:=none) (f:=f) hD (sr4.grow g5) n4 (g5.al _ _ (g3.al _ _ d1)) (g5.nw _ _ (g3.nw _ _ d2 d1) (g3.al _ _ d1)) ((r2.mono g3.st).mono g5.st) l2 (by omega) r5 hy
 ·refine .inl ⟨ok.stop i KH H2 Li.gr.st Li.gr.sub (by omega),?_⟩
  exact Jc.done (set:=set) (t:=none) (f:=f) (xs:=xs) (KN:=KN) (H1:=H1) (i:=i) hD ⟨KH,env2,ys,vs,Li,n2,d1,d2,r2,l2,h2⟩ (by omega)
theorem Ad{Q:VK}(hv:wc E wi it)(Nb:∀ E,Bm E g set)(so:lP set)(q:tO E (cO it set (some u) f ts.length js) σ H Q):zh wi g (tT EF u) (tE EF f) ts js σ H Q:=by
 refine hv σ H _ ?_
 obtain⟨B,H₀,Hs,env,sr,q⟩:=q
 refine⟨B,H₀,Hs,env,sr,(ay.bind q).imp (λxs hp J KN H1 gr ok D hD=>?_) λe he=>he⟩
 obtain⟨hz,hp⟩:=ay.cC hp
 have hp:=ay.Gy hp
 have NH:=sr.grow gr
 refine⟨λi m σ H=>m=xs.length-i/\i<=xs.length/\Jc set (some u) f Q KN H1 D xs i σ H,⟨xs.length,by simp,Nat.zero_le _,KN,_,[],[],NH.block hD,eW,aw,?_,.nil,Nat.le_refl _,hp.imp (λzs hz vs p KH H2 g2 r n=>hz vs p KH H2 (gr.trans g2) r n) λ_ z=>z⟩,?_⟩
 ·cases z:KN D with
  | none=>rfl
  | some o=>have:=gr.sub _ _ z;rw[hD] at this;cases this
 rintro i m σ' H2 ⟨rfl,hi,KH,env2,ys,vs,Li,n2,d1,d2,r2,l2,h2⟩
 by_cases Lr:i<xs.length
 ·refine .inr ⟨ok.go i KH H2 Li.gr.st Li.gr.sub Lr,Jc set (some u) f Q KN H1 D xs (i+1),fun σ3 H3 j=>⟨xs.length-(i+1),by omega,rfl,Lr,j⟩,λx H3 y=>?_⟩
  obtain⟨p,L9,ep,g3,r3⟩:=ok.rL i KH H2 x H3 Li.gr.st Li.gr.sub Lr y
  have hd:xs.drop i=p::xs.drop (i+1):=by
   rw[List.drop_eq_getElem_cons Lr]
   rw[List.getElem?_eq_getElem Lr] at ep
   rw[Option.some.inj ep]
  rw[hd] at h2
  have h3:=ay.bind h2
  have My:=Li.grow g3
  refine Nb (λ_ _ _=>False) KN H1 L9 H3 σ' env2 p x _ (λ_=>False) My r3 ?_
  cases hset:set p env2 with
  | none=>rw[hset] at h3;exact h3
  | some z=>cases z with
   | error e=>rw[hset] at h3;exact h3
   | ok e3 =>
    rw[hset] at h3
    intro σ4 sr4
    have n4:=so p env2 e3 hset n2
    refine⟨KN,H1,L9,e3,sr4,(ay.bind h3).imp (λb hb MN H5 g5=>?_) λ_ z=>z.elim⟩
    have d5:=g5.al _ _ (g3.al _ _ d1)
    have e5:=g5.nw _ _ (g3.nw _ _ d2 d1) (g3.al _ _ d1)
    cases b with
    | true =>
     refine⟨KN,H1,MN,e3,sr4.grow g5,(ay.bind hb).imp (λy hy v Hs6 H6 g6 r6=>?_) λ_ z=>z.elim⟩
     exact Jc.put (set:=set) (t:=some u) (f:=f) hD ((sr4.grow g5).grow g6) n4 (g6.al _ _ d5) (g6.nw _ _ e5 d5) (((r2.mono g3.st).mono g5.st).mono g6.st) l2 (by omega) r6 hy
    | false=>exact⟨MN,e3,ys,vs,sr4.grow g5,n4,d5,e5,(r2.mono g3.st).mono g5.st,by omega,hb⟩
 ·refine .inl ⟨ok.stop i KH H2 Li.gr.st Li.gr.sub (by omega),?_⟩
  exact Jc.done (set:=set) (t:=some u) (f:=f) (xs:=xs) (KN:=KN) (H1:=H1) (i:=i) hD ⟨KH,env2,ys,vs,Li,n2,d1,d2,r2,l2,h2⟩ (by omega)
theorem bS(KC:X.calm=true)
  (K5:closureFor scope X.env=pure cl) (hk:scope.kind=.function) (nc:fF scope.names=true) (lo:gQ scope.names=true) (fh:gT cl scope.names=true) (ag:eD X cl) (fr:hZ X scope cl fs js)
  (hi:PI X tg iter wi) (hv:wc E wi it) (hg:∀ C s₀ H₀ ex Kt,PG (oP X scope cl (ts++fs) C s₀ H₀ ex Kt) tg g) (Nb:∀ E,Bm E g set) (so:lP set) (he:∀ C s₀ H₀ ex Kt,PE (oP X scope cl (ts++fs) C s₀ H₀ ex Kt) elt (tE EF f))
  (hs:autoParam (∀ x,foldedSetIterable iter X.env x=pure x) aI._auto_1):PE X (.ListComp elt [⟨tg,iter,[],0⟩] scope pos) (tO E (cO it set none f ts.length js)):=by
 exact(Ay KC K5 hk nc lo fh ag fr hi hg he hs).imp fun σ H Q q=>sS hv Nb so q
theorem AX(KC:X.calm=true)
  (K5:closureFor scope X.env=pure cl) (hk:scope.kind=.function) (nc:fF scope.names=true) (lo:gQ scope.names=true) (fh:gT cl scope.names=true) (ag:eD X cl) (fr:hZ X scope cl fs js)
  (hi:PI X tg iter wi) (hv:wc E wi it) (hg:∀ C s₀ H₀ ex Kt,PG (oP X scope cl (ts++fs) C s₀ H₀ ex Kt) tg g) (Nb:∀ E,Bm E g set) (so:lP set) (ht:∀ C s₀ H₀ ex Kt,PT (oP X scope cl (ts++fs) C s₀ H₀ ex Kt) c (tT EF u)) (he:∀ C s₀ H₀ ex Kt,PE (oP X scope cl (ts++fs) C s₀ H₀ ex Kt) elt (tE EF f))
  (hs:autoParam (∀ x,foldedSetIterable iter X.env x=pure x) aI._auto_1):PE X (.ListComp elt [⟨tg,iter,[c],0⟩] scope pos) (tO E (cO it set (some u) f ts.length js)):=by
 exact(Ax KC K5 hk nc lo fh ag fr hi hg ht he hs).imp fun σ H Q q=>Ad hv Nb so q
def dw(fo:af->M (List PV)):af->M PV:=λenv=>(fo env).bind λps=>M.ok (.lst ps)
theorem dD{fo:af->M (List PV)}(he:PE X e (tO E fo)):PE X e (tE E (dw fo)):=he.imp fun σ H Q q=>by
 obtain⟨B,H₀,Hs,env,sr,q⟩:=q
 refine⟨B,H₀,Hs,env,sr,(ay.bind q).imp (λps hp vs p Kw H' g r n=>?_) λe he=>he⟩
 have gn:=bF.new (o:=.lst vs) g.sub n
 exact hp _ _ _ (g.trans gn) (.lst aw (r.mono gn.st))
end
def rg(f:Str)(v:PV):List (Str×PV)->List (Str×PV)
 | []=>[(f,v)]
 | (g,x)::r=>if g=f then (g,v)::r else (g,x)::rg f v r
theorem iq.put{H:Hp}{f:Str}{p:PV}{v:V}(h:Rep H p v):∀ {fs:List (Str×PV)} {vs:List (Str×V)},iq H fs vs->iq H (rg f p fs) (i7 f v vs)
 | _,_,.nil=>.cons h .nil
 | (g,x)::r,_,.cons hx hr=>by
  unfold rg i7
  by_cases z:g=f
  ·rw[if_pos z,if_pos z];exact .cons h hr
  ·rw[if_neg z,if_neg z];exact .cons hx (hr.put h)
theorem iq.length{H:Hp}:∀ {fs:List (Str×PV)} {vs:List (Str×V)},iq H fs vs->fs.length=vs.length
 | _,_,.nil=>rfl
 | _,_,.cons _ r=>by simp[r.length]
theorem SR.IZ{B:Hp}{env:af}{dx:Addr}{fs gs:List (Str×PV)}{us:List (Str×V)}(r:SR B H₀ Hs H σ env)(e:env[i]?=some (some (.bd a C fs)))(h:iq Hs gs us):SR B H₀ Hs (upd H a (.ins C dx us)) σ (env.set i (some (.bd a C gs))):=by
 obtain⟨dx0,vs,h1,h2,h3,h4,h5⟩:=r.bd i a C fs e
 have nS:∀ c u,Hs c=some u->c≠a:=λc u q z=>by rw[z,h3] at q;cases q
 have n0:∀ c u,H₀ c=some u->c≠a:=λc u q z=>by rw[z,h4] at q;cases q
 refine⟨⟨r.gr.st,λc u q=>by rw[ak (n0 c u q)];exact r.gr.al c u q,λc u q=>by rw[ak (nS c u q)];exact r.gr.sub c u q,r.gr.nw⟩,by rw[List.length_set];exact r.len,λj q ej=>?_,λj zs ej=>?_,λj k y1 y2 b nj e1 e2 e3 e4=>?_,λj ba D Nr ej=>?_,λj k _ _ C' D Nr gs' e1 e2=>?_⟩
 ·rw[List.getElem?_set] at ej
  by_cases z:i=j
  ·subst z
   rw[if_pos rfl] at ej
   split at ej <;> cases ej
  ·rw[if_neg z] at ej;exact r.sh j q ej
 ·rw[List.getElem?_set] at ej
  by_cases z:i=j
  ·subst z
   rw[if_pos rfl] at ej
   split at ej <;> cases ej
  ·rw[if_neg z] at ej
   obtain⟨b,ws,q1,q2,q3,q4,q5⟩:=r.ow j zs ej
   have nb:b≠a:=λw=>by subst w;rw[h2] at q2;cases q2
   exact⟨b,ws,q1,by rw[ak nb];exact q2,q3,q4,q5⟩
 ·rw[List.getElem?_set] at e1 e2
  by_cases z:i=j
  ·subst z
   rw[if_pos rfl] at e1
   split at e1 <;> cases e1
  ·by_cases z2:i=k
   ·subst z2
    rw[if_pos rfl] at e2
    split at e2 <;> cases e2
   ·rw[if_neg z] at e1
    rw[if_neg z2] at e2
    exact r.sep j k y1 y2 b nj e1 e2 e3 e4
 ·rw[List.getElem?_set] at ej
  by_cases z:i=j
  ·subst z
   rw[if_pos rfl] at ej
   split at ej
   ·cases ej;exact⟨dx,us,h1,aw,h3,h4,h⟩
   ·cases ej
  ·rw[if_neg z] at ej
   exact absurd (r.one i j _ _ _ _ _ _ e ej) z
 ·have o1:∃ b D w,env[j]?=some (some (.bd b D w)):=by
   rw[List.getElem?_set] at e1
   by_cases z:i=j
   ·subst z;exact⟨_,_,_,e⟩
   ·rw[if_neg z] at e1;exact⟨_,_,_,e1⟩
  have o2:∃ b D w,env[k]?=some (some (.bd b D w)):=by
   rw[List.getElem?_set] at e2
   by_cases z:i=k
   ·subst z;exact⟨_,_,_,e⟩
   ·rw[if_neg z] at e2;exact⟨_,_,_,e2⟩
  obtain⟨_,_,w1,o1⟩:=o1
  obtain⟨_,_,w2,o2⟩:=o2
  exact r.one j k _ _ _ _ _ _ o1 o2
def z6(i:Nat)(C:Addr)(f:Str)(p:PV)(env:af):M Out:=match env[i]? with
 | some (some (.bd a C' fs))=>cC (C'=C/\fs.length<1000) (M.ok (.nx (env.set i (some (.bd a C (rg f p fs))))))
 | _=>none
def ki(i:Nat)(C:Addr)(fl:Str)(f:af->M PV):af->M Out:=λenv=>(f env).bind λp=>z6 i C fl p env
section
variable{E:XK}{pos px:Pos}{f:af->M PV}{fl:Str}
theorem kc(hi:X.N[i]?=some x)(hv:Bn X.env.scope x)(c:kW X.K C)(na:bN X.K C fl)(he:PE X e (tE (λ_=>E) f))(hd:autoParam ((x==("__debug__" : Str))=false) aD._auto_1)(LP:autoParam ((x==("__classdict__" : Str))=false) aD._auto_1)
  (hs:autoParam (swapsWith e (some (.Attribute (.Name x px) fl pos')) pos.line X.env=pure false) aR._auto_1):PS X (.Assign [.Attribute (.Name x px) fl pos'] e pos) (tS E (ki i C fl f)):=by
 refine(Gu (iy hi hv hd LP) he hs).imp λD σ H q=>jn q λB H₀ Hs H1 env p v sr rp hp=>?_
 unfold z6 at hp
 split at hp
 ·rename_i a C' fs ex
  obtain⟨⟨rfl,hz⟩,hp⟩:=ay.cC hp
  obtain⟨dx,vs,h1,h2,h3,h4,h5⟩:=sr.bd i a _ fs ex
  exact⟨.ref a,h1,a,_,dx,vs,rfl,h2,c,na,by rw[← h5.length];exact hz,hp σ Hs _ (sr.IZ ex (h5.put rp))⟩
 ·exact hp.elim
end
def xM(m:Nat)(a C:Addr)(ps:List PV):af:=some (.bd a C [])::j9 (m-1) ps
def AU(a C:Addr)(env:af):M (List (Str×PV)):=match (env[0]?:Option (Option SV)) with
 | some (some (.bd b D fs))=>cC (b=a/\D=C) (M.ok fs)
 | _=>none
def outI(a C:Addr):Out->M (List (Str×PV))
 | .nx env=>AU a C env
 | _=>none
def xF(m:Nat)(g:af->M Out)(C a:Addr)(ps:List PV):M (List (Str×PV)):=(g (xM m a C ps)).bind (outI a C)
def Fi(s:Addr->M α):M α:=open Classical in if h:∃ r,∀ a,s a=r then h.choose else none
theorem zk{s:Addr->M α}{r:M α}(h:∀ a,s a=r):Fi s=r:=by
 have hx:∃ r,∀ a,s a=r:=⟨r,h⟩
 unfold Fi
 rw[dif_pos hx,← hx.choose_spec 0,h 0]
theorem ay.Fi{α:Type}{s:Addr->M α}{Q:α->Prop}{E:EX->Prop}(h:ay (L2.Fi s) Q E)(a:Addr):ay (s a) Q E:=by
 unfold L2.Fi at h
 split at h
 ·rename_i hx
  rw[hx.choose_spec a];exact h
 ·exact h.elim
def Dx(n:Nat)(C:Addr)(sem:Addr->List PV->M (List (Str×PV))):Sp:=λvs H Q E=>vs.length=n/\∃ a dx us Hs H1 ps,vs=.ref a::us/\H1 a=none/\H1 dx=none/\dx≠a/\H=upd (upd H1 dx (.own a)) a (.ins C dx [])/\bf Hs H1/\aM Hs ps us ∧
 ay (sem a ps) (λfs=>∀ NK ws Kw H',bF Hs H1 Kw H'->H' a=some (.ins C NK ws)->Kw a=none->iq Kw fs ws->Q .cy H') (XW E Hs H1)
theorem SR.Et{dx:Addr}{ps:List PV}(s:bf Hs H₀)(hN:0<N.length)(ha:H₀ a=none)(r:aM Hs ps vs)(hH:H=upd H₀ a (.ins C dx [])):SR Hs H₀ Hs H (L2.start N (.ref a::vs)) (xM N.length a C ps):=by
 have hs:Hs a=none:=by
  cases q:Hs a with
  | none=>rfl
  | some o=>have:=s _ _ q;rw[ha] at this;cases this
 have ne:∀ c u,H₀ c=some u->c≠a:=λc u e z=>by rw[z,ha] at e;cases e
 have s0:=SR.start (N:=N.tail) s r
 have e1:L2.start N (.ref a::vs)=some (.ref a)::L2.start N.tail vs:=by
  unfold L2.start
  simp only[List.map_cons,List.cons_append,List.length_cons,List.length_tail]
  rw[Nat.sub_sub,Nat.add_comm]
 have e2:xM N.length a C ps=some (.bd a C [])::j9 N.tail.length ps:=by unfold xM;rw[List.length_tail]
 have al:bf H₀ H:=λc u q=>by rw[hH,ak (ne c u q)];exact q
 rw[e1,e2]
 refine⟨⟨λ_ _ e=>e,al,λc u q=>al c u (s c u q),λc u q _=>q⟩,by simp[s0.len],λj q ej=>?_,λj zs ej=>?_,λj k y1 y2 b nj e1 e2 e3 e4=>?_,λj ba D Nr ej=>?_,λj k a1 a2 C' D Nr gs' e1 e2=>?_⟩
 ·cases j with
  | zero=>cases ej
  | succ j=>exact s0.sh j q (by simpa using ej)
 ·cases j with
  | zero=>cases ej
  | succ j=>exact absurd (s0.ow j zs (by simpa using ej)) (λ⟨b,ws,q1,q2,q3,q4,q5⟩=>by rw[q4] at q2;cases q2)
 ·cases j with
  | zero=>cases e1
  | succ j=>exact absurd (s0.ow j y1 (by simpa using e1)) (λ⟨b,ws,q1,q2,q3,q4,q5⟩=>by rw[q4] at q2;cases q2)
 ·cases j with
  | zero=>cases ej;exact⟨dx,[],rfl,by rw[hH];exact aw,hs,ha,.nil⟩
  | succ j=>exact absurd (s0.bd j ba D Nr (by simpa using ej)) (λ⟨b,ws,q1,q2,q3,q4,q5⟩=>by rw[q4] at q2;cases q2)
 ·cases j with
  | zero=>cases k with
   | zero=>rfl
   | succ k=>exact absurd (s0.bd k a2 D gs' (by simpa using e2)) (λ⟨b,ws,q1,q2,q3,q4,q5⟩=>by rw[q4] at q2;cases q2)
  | succ j=>exact absurd (s0.bd j a1 C' Nr (by simpa using e1)) (λ⟨b,ws,q1,q2,q3,q4,q5⟩=>by rw[q4] at q2;cases q2)
theorem Cr{K:PySem.W.Frag}{dV kV doc pm KY ct oc:Value}{an:Option Addr}{g:af->M Out}(lk:K.lookup f=some ⟨oc,od,.func (PySem.W.fnOf name qual params body scope dV kV doc pm an KY ct),M9⟩)(LP:PySem.W.codeIn K KY qual=true)(S:cB N ps scope)(hN:0<N.length)
  (hb:∀ (A:Around) (outer:List Env) (s:Shared) (H:Hp) (E:XK),bZ k (A.deeper (envOfC qual scope s.heap.objs.size f KY))->kj ((kQ (bU P w) P w K mg base N qual scope f KY A outer s H E).out λ_=>E) body (tS E g)) :
  aV P w K mg base (bU P w) (k+1) f (PySem.W.fnOf name qual params body scope dV kV doc pm an KY ct) ps (Dx ps.length C (xF N.length g C)):=by
 refine uT lk LP S (λvs H Q E h=>h.1) λA outer s H vs Q E hr hs=>⟨_,hb A outer s H E hr,?_⟩
 obtain⟨_,a,dx,us,Hs,H1,Mj,rfl,ha,hdx,ME,hH,sm,r,h⟩:=hs
 have ne:∀ c u,H1 c=some u->c≠dx:=λc u e z=>by rw[z,hdx] at e;cases e
 have s0:bf H1 (upd H1 dx (.own a)):=λc u q=>by rw[ak (ne c u q)];exact q
 have g0:bF Hs H1 Hs (upd H1 dx (.own a)):=⟨λ_ _ e=>e,s0,λc u q=>s0 c u (sm c u q),λ_ _ e _=>e⟩
 refine⟨Hs,_,Hs,_,SR.Et (dx:=dx) g0.sub hN (by rw[ak (Ne.symm ME)];exact ha) r hH,(ay.bind h).imp (λo ho=>?_) λe he=>he.grow g0⟩
 cases o with
 | rt p=>exact ho.elim
 | bk env=>exact ho.elim
 | ct env=>exact ho.elim
 | nx env =>
  intro σ Kw H' sr
  have Mr:ay (AU a C env) _ _:=ho
  unfold AU at Mr
  split at Mr
  ·rename_i b D fs ex
   obtain⟨⟨rfl,rfl⟩,hp⟩:=ay.cC Mr
   obtain⟨NK,ws,h1,h2,h3,h4,h5⟩:=sr.bd 0 _ _ fs ex
   exact hp NK ws Kw H' (g0.trans sr.gr) h2 h3 h5
  ·exact Mr.elim
def dy(C:Addr)(sem:Addr->List PV->M (List (Str×PV)))(Mh:List PV)(ps:List PV):M PV:=(Fi λa=>sem a (ps++Mh)).bind λfs=>M.ok (.obj C fs)
section
variable{ns:List Str}{sem:Addr->List PV->M (List (Str×PV))}{p pos:Pos}{fs:af->M (List PV)}
theorem Cj(Mk:Mk X.K C f)(F:aV X.prog X.w X.K X.mg X.base (bU X.prog X.w) k f fd ns (Dx n C sem))(hr:bZ (k+1) X.A)(hg:Gl X x)(hm:X.mg x=some (.ref C))(hb:Binds X.K fd ns ds)(hd:Vals Lo ds)(hdp:∀ H,aM H Mh Lo)(O:eS X E)
  (hl:∀ a ps,sem a (ps++Mh)≠none->ps.length+Mh.length+1=n)
  (ha:PA X (e::es) (tL E fs)) (Lz:autoParam ((x==("__debug__" : Str))=false) aD._auto_1) (he:autoParam (starEach (e::es) X.env=(false,eval e X.env)::starEach es X.env) aR._auto_1) (K7:autoParam ((backTo pos (starEach es X.env)).any (·.1)=false) aR._auto_1) :
  PE X (.Call (.Name x p) (e::es) [] pos) (tE E (ai (dy C sem Mh) fs)):=by
 refine(zI Mk F hr hg hm hb hd O ha Lz he K7).imp fun σ H Q q=>dc (K:=jR Q) jR.g q λB H₀ Hs H1 env Mj v sr rp hp=>?_
 intro a dx ha hdx ME
 have r2:aM Hs (Mj++Mh) (v++Lo):=rp.append (hdp Hs)
 have Nw:=(ay.bind hp).Fi a
 have hn:sem a (Mj++Mh)≠none:=λz=>by
  rw[z] at Nw;exact Nw
 refine⟨?_,a,dx,v++Lo,Hs,H1,Mj++Mh,rfl,ha,hdx,ME,rfl,sr.gr.sub,r2,Nw.imp (λfl hfl NK ws Kw H' g hw N8 Ml=>⟨rfl,?_⟩) λe he=>he⟩
 ·show (v++Lo).length+1=n
  rw[← r2.length,List.length_append]
  exact hl a Mj hn
 ·have ne:∀ c u,Kw c=some u->c≠a:=λc u q z=>by rw[z,N8] at q;cases q
  have K4:bf Kw (upd Kw a (.ins C NK ws)):=λc u q=>by rw[ak (ne c u q)];exact q
  refine hfl (.ref a) (upd Kw a (.ins C NK ws)) H' ⟨λc u q=>K4 c u (g.st c u q),g.al,λc u q=>?_,λc u q1 q2=>?_⟩ (.obj aw (Ml.mono K4))
  ·by_cases z:c=a
   ·subst z;rw[aw] at q;cases q;exact hw
   ·rw[ak z] at q;exact g.sub c u q
  ·have z:c≠a:=λz=>by rw[z,ha] at q2;cases q2
   rw[ak z];exact g.nw c u q1 q2
end
section
variable{a b:Expr}{pos:Pos}{f g h:af->M PV}
theorem lV{m:Nat}(h:n.log2<m):n<2^m:=by
 by_cases z:n=0
 ·subst z;exact Nat.two_pow_pos m
 ·exact(Nat.log2_lt z).mp h
theorem aM.rep{H:Hp}{xs:List PV}{vs:List V}(r:aM H xs vs):∀ k:Nat,aM H (List.replicate k xs).flatten (List.replicate k vs).flatten
 | 0=>.nil
 | k+1=>by rw[List.replicate_succ,List.replicate_succ,List.flatten_cons,List.flatten_cons];exact r.append (r.rep k)
def ck:PV->PV->M PV
 | .int i,.int j=>cC (i.natAbs.log2<67108864/\j.natAbs.log2<67108864) (M.ok (.int (i*j)))
 | .tup xs,.int k=>cC (xs.isEmpty=false/\-(2^63)<=k/\k<2^63/\xs.length*k.toNat<=sizeLine) (M.ok (.tup (List.replicate k.toNat xs).flatten))
 | .lst xs,.int k=>cC (-(2^63)<=k/\k<2^63/\xs.length*k.toNat<=sizeLine) (M.ok (.lst (List.replicate k.toNat xs).flatten))
 | _,_=>none
def DL(K:PySem.W.Frag):R2:=λx y H Q=>(rI (λi j=>IntMulOk i j) λi j=>.int (i*j)) x y H Q\/DO K x y H Q\/Hv x y H Q
theorem BU:gU X (binaryOp .Mult) (DL X.K):=gU.or BD (gU.or C_ y0)
theorem Gr{K:PySem.W.Frag}:l9 E (DL K) ck:=by
 intro σ Hs H p q v u Q s rp rq h
 cases rp with
 | int i=>cases rq with
  | int j =>
   obtain⟨hz,h⟩:=ay.cC h
   exact .inl ⟨i,j,rfl,rfl,zR (lV hz.1) (lV hz.2) (Nat.le_refl _),dR.flat h s (.int _)⟩
  | _=>exact h.elim
 | @tup a xs vs ha hx=>cases rq with
  | int k =>
   obtain⟨⟨h0,h1,h2,h3⟩,h⟩:=ay.cC h
   have n1:vs≠[]:=λz=>by
    have:=hx.length
    rw[z] at this
    cases xs with
    | nil=>cases h0
    | cons _ _=>cases this
   refine .inr (.inl ⟨a,k,vs,rfl,rfl,gu.of (s _ _ ha),n1,h1,h2,by rw[← hx.length];exact h3,λz=>?_,λz=>dR.tup h s (hx.rep _)⟩)
   subst z
   rw[show (1:Int).toNat=1 from rfl,List.replicate_succ,List.replicate_zero,List.flatten_cons,List.flatten_nil,List.append_nil] at h
   exact dR.flat h s (.tup ha hx)
  | _=>exact h.elim
 | @lst a xs vs ha hx=>cases rq with
  | int k =>
   obtain⟨⟨h1,h2,h3⟩,h⟩:=ay.cC h
   exact .inr (.inr ⟨a,k,vs,rfl,rfl,s _ _ ha,h1,h2,by rw[← hx.length];exact h3,dR.lst h s (hx.rep _)⟩)
  | _=>exact h.elim
 | _=>exact h.elim
theorem B6:l9 E (rI Av λi j=>.int (i.fdiv j)) (zi (λ_ j=>decide (j≠0/\j.natAbs.log2<9000)) λi j=>i.fdiv j):=yB λi j z=>(of_decide_eq_true z:j≠0/\j.natAbs.log2<9000)
theorem F6:l9 E (rI (λ_ j=>j≠0) λi j=>.int (i.fmod j)) (zi (λ_ j=>decide (j≠0)) λi j=>i.fmod j):=yB λi j z=>of_decide_eq_true z
def HR:PV->M PV
 | .int i=>M.ok (.int (-i))
 | _=>none
def jP(f:af->M PV):af->M PV:=λenv=>(f env).bind HR
theorem FN(ha:PE X a (tE E f)):PE X (.UnaryOp .USub a pos) (tE E (jP f)) :=
 (Hj FT ha).imp fun σ H Q q=>HY q λHs H1 p v s rp h=>by
  cases rp with
  | int i=>exact⟨i,rfl,dR.flat h s (.int _)⟩
  | _=>exact h.elim
def pZ:PV->Bool
 | .cy=>true
 | _=>false
theorem rO(r:Rep H p v):decide (v=.cy)=pZ p:=by
 cases r <;> rfl
def zr:PV->PV->M PV
 | p,.cy=>M.ok (.bl (pZ p))
 | _,_=>none
def jF:PV->PV->M PV
 | p,.cy=>M.ok (.bl (!pZ p))
 | _,_=>none
theorem Ae:l9 E (λx y H Q=>y=.cy/\Q (.bl (decide (x=.cy))) H) zr:=by
 intro σ Hs H p q v u Q s rp rq h
 cases rq with
 | cy =>
  have h':ay (M.ok (PV.bl (pZ p))) (dR Hs H Q) (XW (E σ) Hs H):=by cases p <;> exact h
  exact⟨rfl,by rw[rO rp];exact dR.flat h' s (.bl _)⟩
 | _=>cases p <;> exact h.elim
theorem vV:l9 E (λx y H Q=>y=.cy/\Q (.bl (!decide (x=.cy))) H) jF:=by
 intro σ Hs H p q v u Q s rp rq h
 cases rq with
 | cy =>
  have h':ay (M.ok (PV.bl (!pZ p))) (dR Hs H Q) (XW (E σ) Hs H):=by cases p <;> exact h
  exact⟨rfl,by rw[rO rp];exact dR.flat h' s (.bl _)⟩
 | _=>cases p <;> exact h.elim
def kd(o o':PV->PV->M PV)(f g h:af->M PV):af->M PV:=λenv=>(f env).bind λp=>(g env).bind λq=>(o p q).bind λz=>(vo z).bind λk=>if k=true then (h env).bind λr=>o' q r else M.ok (.bl false)
theorem zP{r r':R2}{o o':PV->PV->M PV}(hv:l9 E r o)(N9:l9 E r' o'){Q:VK}(q:tE E (kd o o' f g h) σ H Q):yw r r' (tE E f) (tE E g) (tE E h) σ H Q:=by
 refine cj (K:=jR Q) jR.g q λB H₀ Hs H1 env p v sr rp hp=>?_
 refine⟨B,H₀,Hs,env,sr,(ay.bind hp).imp (λq hq u KH H2 g2 ru=>?_) λe he=>he⟩
 have Li:=sr.grow g2
 refine hv σ KH H2 p q v u _ Li.gr.sub (rp.mono g2.st) ru ((ay.bind hq).imp (λz hz w L9 H3 g3 Ml=>?_) λe he=>he.grow g2)
 obtain⟨k,ek,hk⟩:=ay.Ik (ay.bind hz)
 subst ek
 cases Ml
 refine⟨k,rfl,?_⟩
 have My:=Li.grow g3
 cases k with
 | false=>exact hk _ _ _ (g2.trans g3) (.bl _)
 | true =>
  have Nv:ay ((h env).bind λr=>o' q r) (jR Q Hs H1) (XW (E σ) Hs H1):=hk
  refine⟨B,H₀,L9,env,My,(ay.bind Nv).imp (λr hr w Nd H4 g4 rw4=>?_) λe he=>he.grow (g2.trans g3)⟩
  exact N9 σ Nd H4 q r u w Q (My.grow g4).gr.sub ((ru.mono g3.st).mono g4.st) rw4 (hr.imp (λz hz w' MN H5 g5 r5=>hz w' MN H5 ((g2.trans g3).trans (g4.trans g5)) r5) λe he=>he.grow ((g2.trans g3).trans g4))
theorem sy{NF:CmpOp}{r r':R2}{o o':PV->PV->M PV}(ho:gU X (compareOp op) r)(hv:l9 E r o)(Mr:gU X (compareOp NF) r')(N9:l9 E r' o')(ha:PE X a (tE E f))(hb:PE X b (tE E g))(hc:PE X c (tE E h))
  (hm:autoParam (lastMarks [op,NF] [b,c]=false) aU._auto_1):PE X (.Compare a [op,NF] [b,c] pos) (tE E (kd o o' f g h)) :=
 (Aw ho Mr ha hb hc hm).imp fun σ H Q q=>zP hv N9 q
def cD(u:af->M Bool)(b:af->M Out):Nat->af->M Out
 | 0,_=>none
 | n+1,env=>(u env).bind λt=>if t=true then (b env).bind λo=>match o with
   | .nx Ky=>cD u b n Ky
   | .ct Ky=>cD u b n Ky
   | .bk Ky=>M.ok (.nx Ky)
   | .rt p=>M.ok (.rt p)
  else M.ok (.nx env)
theorem xY{E:XK}{u:af->M Bool}{g:af->M Out}(n:af->Nat)(O:eS X λ_=>E)(hc:PT X c (tT (λ_=>E) u))(hb:kj X body (tS E g)):PS X (.While c body [] pos) (tS E λenv=>cD u g (n env) env):=by
 refine(AZ O.own hc hb).imp λD σ H q=>?_
 obtain⟨B,H₀,Hs,env,sr,q⟩:=q
 refine⟨λm σ H=>∃ Hs env,SR B H₀ Hs H σ env/\ay (cD u g m env) (KS D B H₀) (XW E B H₀),⟨n env,Hs,env,sr,q⟩,?_⟩
 rintro m σ1 H1 ⟨KN,env1,NH,q1⟩
 cases m with
 | zero=>exact q1.elim
 | succ m =>
  refine⟨B,H₀,KN,env1,NH,(ay.bind q1).imp (λt ht KH H2 g2=>?_) λe he=>he.grow NH.gr⟩
  have Li:=NH.grow g2
  cases t with
  | false=>exact ht σ1 KH H2 Li
  | true =>
   refine⟨fun σ' H'=>∃ Kw Ky,SR B H₀ Kw H' σ' Ky/\ay (cD u g m Ky) (KS D B H₀) (XW E B H₀),fun σ' H' z=>⟨m,Nat.lt_succ_self m,z⟩,B,H₀,KH,env1,Li,(ay.bind ht).imp (λo ho=>?_) λe he=>he⟩
   cases o with
   | nx Ky=>exact fun σ' Kw H' Mp=>⟨Kw,Ky,Mp,ho⟩
   | ct Ky=>exact fun σ' Kw H' Mp=>⟨Kw,Ky,Mp,ho⟩
   | bk Ky=>exact ho
   | rt p=>exact ho
theorem iI{u:af->M Bool}{g:af->M Out}:∀ (n k:Nat) (env:af),cD u g n env≠none->cD u g (n+k) env=cD u g n env
 | 0,_,_,h=>(h rfl).elim
 | n+1,k,env,h=>by
  rw[show n+1+k=(n+k)+1 by omega]
  unfold cD at h ⊢
  cases hu:u env with
  | none=>rfl
  | some z =>
   cases z with
   | error e=>rfl
   | ok t =>
    rw[hu] at h
    cases t with
    | false=>rfl
    | true =>
     show M.bind (g env) _=M.bind (g env) _
     have h':M.bind (g env) (λo=>match o with
      | .nx Ky=>cD u g n Ky
      | .ct Ky=>cD u g n Ky
      | .bk Ky=>M.ok (.nx Ky)
      | .rt p=>M.ok (.rt p))≠none:=h
     cases hg:g env with
     | none=>rfl
     | some z =>
      cases z with
      | error e=>rfl
      | ok o =>
       rw[hg] at h'
       cases o with
       | nx Ky=>exact iI n k Ky h'
       | ct Ky=>exact iI n k Ky h'
       | bk Ky=>rfl
       | rt p=>rfl
def n8(u:af->M Bool)(b:af->M Out)(env:af):M Out:=open Classical in cD u b (if h:∃ n,cD u b n env≠none then h.choose else 0) env
theorem xc{u:af->M Bool}{b:af->M Out}{env:af}(h:cD u b n env≠none):n8 u b env=cD u b n env:=by
 have hx:∃ n,cD u b n env≠none:=⟨n,h⟩
 unfold n8
 rw[dif_pos hx]
 have h1:=hx.choose_spec
 rw[← iI _ n env h1,← iI n hx.choose env h,Nat.add_comm]
theorem yR{E:XK}{u:af->M Bool}{g:af->M Out}(O:eS X λ_=>E)(hc:PT X c (tT (λ_=>E) u))(hb:kj X body (tS E g)):PS X (.While c body [] pos) (tS E (n8 u g)) :=
 xY (λenv=>open Classical in if h:∃ n,cD u g n env≠none then h.choose else 0) O hc hb
end
def G_:PV->Option String
 | .cy=>some "NoneType"
 | .bl _=>some "bool"
 | .int _=>some "int"
 | .str _=>some "str"
 | .lst _=>some "list"
 | .iU _=>some "list"
 | .tup _=>some "tuple"
 | .emp=>some "dict"
 | _=>none
def o_(a t:String):Bool:=a==t||(a == "bool" && t == "int")
theorem ml(K:PySem.W.Frag):PySem.W.kitOne K (.type "NoneType") (.type "int")=some false:=by with_unfolding_all kernel_rfl
theorem r9(K:PySem.W.Frag):PySem.W.kitOne K (.type "bool") (.type "int")=some true:=by with_unfolding_all kernel_rfl
def tys:List String:=["int", "bool", "str", "list", "tuple"]
theorem GN(K:PySem.W.Frag){a t:String}(ha:G_ p=some a)(ht:t∈tys):PySem.W.kitOne K (.type a) (.type t)=some (o_ a t):=by
 have ht2:t = "int" \/ t = "bool" \/ t = "str" \/ t = "list" \/ t = "tuple" := by simpa [tys] using ht
 cases p <;> cases ha <;> rcases ht2 with rfl | rfl | rfl | rfl | rfl <;> first
  | exact ml K
  | exact kt_NoneType_bool K
  | exact kt_NoneType_str K
  | exact kt_NoneType_list K
  | exact kt_NoneType_tuple K
  | exact r9 K
  | exact kt_bool_bool K
  | exact kt_bool_str K
  | exact kt_bool_list K
  | exact kt_bool_tuple K
  | exact kt_int_int K
  | exact kt_int_bool K
  | exact kt_int_str K
  | exact kt_int_list K
  | exact kt_int_tuple K
  | exact kt_str_int K
  | exact kt_str_bool K
  | exact kt_str_str K
  | exact kt_str_list K
  | exact kt_str_tuple K
  | exact kt_list_int K
  | exact kt_list_bool K
  | exact kt_list_str K
  | exact kt_list_list K
  | exact kt_list_tuple K
  | exact kt_tuple_int K
  | exact kt_tuple_bool K
  | exact kt_tuple_str K
  | exact kt_tuple_list K
  | exact kt_tuple_tuple K
  | exact kt_dict_int K
  | exact kt_dict_bool K
  | exact kt_dict_str K
  | exact kt_dict_list K
  | exact kt_dict_tuple K
theorem z9{K:PySem.W.Frag}{a:String}(s:bf Hs H)(r:Rep Hs p v)(ha:G_ p=some a):jg K H v (.type a):=by
 cases r with
 | cy=>cases ha;exact .cy
 | bl b=>cases ha;exact .bl b
 | int i=>cases ha;exact .int i
 | str x=>cases ha;exact .str x
 | tup h _=>cases ha;exact .tup (s _ _ h)
 | lst h _=>cases ha;exact .lst (s _ _ h)
 | iU h _=>cases ha;exact .o8 (s _ _ h)
 | emp h=>cases ha;exact .dK (s _ _ h)
 | _=>cases ha
theorem vF(K:PySem.W.Frag){p:PV}{a:String}(ha:G_ p=some a):∀ {Ts:List String},(∀ t∈Ts,t∈tys)->PySem.W.kitAny K (.type a) (Ts.map Value.type)=some (Ts.any λt=>o_ a t)
 | [],_=>rfl
 | t::r,h=>by
  have h1:=GN K ha (h t List.mem_cons_self)
  have h2:=vF K ha (Ts:=r) λt q=>h t (List.mem_cons_of_mem _ q)
  simp only[List.map_cons,PySem.W.kitAny,h1,List.any_cons]
  cases o_ a t with
  | true=>rfl
  | false=>exact h2
structure F7 (K:PySem.W.Frag) (C:Addr):Prop where
 cls:kW K C
 ha:PySem.W.findIn K (.ref C) "__class__" = some (some (.builtin "object.__class__"))
 hn:PySem.W.specialIn K (.builtin "object.__class__") "__get__" = some (some (.builtin "getset_descriptor.__get__"))
 GD:PySem.W.takesIn K (.builtin "object.__class__")=some true
 hm:PySem.W.mroIn K C (.type "object")=some true
def Ak(b:String->Bool)(ob oe:Addr->Option Bool):PV->M PV
 | .obj C _=>eZ ((ob C).map .bl)
 | .exc C _=>eZ ((oe C).map .bl)
 | p=>eZ ((G_ p).map λa=>.bl (b a))
section
variable{pos p px pt:Pos}{f:af->M PV}{T:String}{ob oe:Addr->Option Bool}
theorem FD{fo:Option (List (Str×PV))}(s:bf Hs H)(r:Rep Hs (.exc C fo) v):∃ a fo',v=.ref a/\ExcAt H a C fo':=by
 cases r with
 | @xj a _ h=>exact⟨a,none,rfl,s _ _ h⟩
 | @xi a _ d _ vs h h2 _=>exact⟨a,some vs,rfl,d,s _ _ h,s _ _ h2⟩
def DM(b:String->Bool)(ob oe:Addr->Option Bool)(f:af->M PV):af->M PV:=λenv=>(f env).bind (Ak b ob oe)
theorem ua{b:String->Bool}{p:PV}{Q:PV->Prop}{F:EX->Prop}(h:ay (Ak b ob oe p) Q F):(∃ a,G_ p=some a/\Q (.bl (b a)))\/(∃ C fs k,p=.obj C fs/\ob C=some k/\Q (.bl k))\/∃ C fo k,p=.exc C fo/\oe C=some k/\Q (.bl k):=by
 cases p with
 | obj C fs =>
  obtain⟨z,e,q⟩:=ay.opt h
  obtain⟨k,e2,rfl⟩:=Option.map_eq_some_iff.mp e
  exact .inr (.inl ⟨C,fs,k,rfl,e2,q⟩)
 | exc C fo =>
  obtain⟨z,e,q⟩:=ay.opt h
  obtain⟨k,e2,rfl⟩:=Option.map_eq_some_iff.mp e
  exact .inr (.inr ⟨C,fo,k,rfl,e2,q⟩)
 | cy=>exact .inl ⟨_,rfl,h⟩
 | bl _=>exact .inl ⟨_,rfl,h⟩
 | int _=>exact .inl ⟨_,rfl,h⟩
 | str _=>exact .inl ⟨_,rfl,h⟩
 | tup _=>exact .inl ⟨_,rfl,h⟩
 | lst _=>exact .inl ⟨_,rfl,h⟩
 | iU _=>exact .inl ⟨_,rfl,h⟩
 | emp=>exact .inl ⟨_,rfl,h⟩
theorem zD{K:PySem.W.Frag}{fs:List (Str×PV)}(s:bf Hs H)(r:Rep Hs (.obj C fs) v)(c:F7 K C):jg K H v (.ref C):=by
 cases r with
 | obj h _=>exact .ins (s _ _ h) c.cls c.ha c.hn c.GD c.hm
theorem uB(hg:Gl X "isinstance")(hm:X.mg "isinstance" = none)(hT:PE X (.Name x pt) (tC (.ty T)))(ht:T∈tys)(N4:∀ C b,ob C=some b->F7 X.K C/\PySem.W.kitOne X.K (.ref C) (.type T)=some b)(Mg:∀ C b,oe C=some b->h9 X.K C/\PySem.W.kitOne X.K (.ref C) (.type T)=some b)(he:PE X e (tE E f))
  (h1:autoParam (starEach [e,.Name x pt] X.env=(false,eval e X.env)::starEach [.Name x pt] X.env) aR._auto_1) (h2:autoParam (starEach [.Name x pt] X.env=(false,eval (.Name x pt) X.env)::starEach [] X.env) aR._auto_1) (K7:autoParam ((backTo pos (starEach [.Name x pt] X.env)).any (·.1)=false) aR._auto_1) :
  PE X (.Call (.Name "isinstance" p) [e,.Name x pt] [] pos) (tE E (DM (λa=>o_ a T) ob oe f)):=by
 refine(kT (dz.or AH Ag) hg hm yE (dJ he (dJ hT g9 h2) h1) (by decide) (by decide) h1 K7).imp fun σ H Q q=>cj (K:=jR Q) jR.g q λB H₀ Hs H1 env p v sr rp hp=>?_
 rcases ua hp with ⟨a,ha,q⟩ | ⟨C,fs,k,rfl,e,q⟩ | ⟨C,fo,k,rfl,e,q⟩
 ·exact .inl ⟨v,T,_,_,rfl,z9 sr.gr.sub rp ha,GN X.K ha ht,dR.flat q sr.gr.sub (.bl _)⟩
 ·exact .inl ⟨v,T,_,_,rfl,zD sr.gr.sub rp (N4 C k e).1,(N4 C k e).2,dR.flat q sr.gr.sub (.bl _)⟩
 ·obtain⟨a,fo',rfl,hx⟩:=FD sr.gr.sub rp
  exact .inr ⟨a,C,fo',k,(Mg C k e).1,hx,.inl ⟨T,rfl,(Mg C k e).2⟩,dR.flat q sr.gr.sub (.bl _)⟩
theorem C5{e2:Expr}{t2:TE}{Ts:List String}(hg:Gl X "isinstance")(hm:X.mg "isinstance" = none)(hT:PE X e2 t2)(ht2:∀ σ H R,(∀ p,H p=none->R (.ref p) (upd H p (.tup (Ts.map V.ty))))->t2 σ H R)(ht:∀ t∈Ts,t∈tys)(N4:∀ C b,ob C=some b->F7 X.K C/\PySem.W.kitAny X.K (.ref C) (Ts.map Value.type)=some b)(he:PE X e (tE E f))
  (h1:autoParam (starEach [e,e2] X.env=(false,eval e X.env)::starEach [e2] X.env) aR._auto_1) (h2:autoParam (starEach [e2] X.env=(false,eval e2 X.env)::starEach [] X.env) aR._auto_1) (K7:autoParam ((backTo pos (starEach [e2] X.env)).any (·.1)=false) aR._auto_1) :
  PE X (.Call (.Name "isinstance" p) [e,e2] [] pos) (tE E (DM (λa=>Ts.any λt=>o_ a t) ob (λ_=>none) f)):=by
 refine(kT yl hg hm yE (dJ he (dJ hT g9 h2) h1) (by decide) (by decide) h1 K7).imp fun σ H Q q=>cj (K:=jR Q) jR.g q λB H₀ Hs H1 env p v sr rp hp=>?_
 refine ht2 σ H1 _ λtp hn=>?_
 have g:=bF.new (o:=.tup (Ts.map V.ty)) sr.gr.sub hn
 rcases ua hp with ⟨a,ha,q⟩ | ⟨C,fs,k,rfl,e,q⟩ | ⟨C,fo,k,rfl,e,q⟩
 ·exact⟨v,tp,Ts,_,_,rfl,aw,z9 g.sub (rp.mono g.st) ha,vF X.K ha ht,q _ _ _ g (.bl _)⟩
 ·exact⟨v,tp,Ts,_,_,rfl,aw,zD g.sub (rp.mono g.st) (N4 C k e).1,(N4 C k e).2,q _ _ _ g (.bl _)⟩
 ·cases e
end
section
open PySem.SeqAt (shaped noMix noMixAll)
mutual
def dat:PV->Option PyData
 | .cy=>some .none
 | .bl b=>some (.bool b)
 | .int i=>some (.int i)
 | .str x=>some (.str x)
 | .tup xs=>(lr xs).map .tuple
 | .lst xs=>(lr xs).map .list
 | .iU xs=>(lr xs).map .list
 | .obj _ _=>none
 | .exc _ _=>none
 | .emp=>none
def lr:List PV->Option (List PyData)
 | []=>some []
 | p::r=>(dat p).bind λd=>(lr r).map (d::·)
end
mutual
theorem Rep.reads{Hs:Hp}(I:Inv X Kt σ H s)(sm:bf Hs H):∀ {p:PV} {v:V} {u:Value} {d:PyData},Rep Hs p v->RelV v u->dat p=some d->∃ as,Reads s.heap u d as
 | _,_,u,d,.cy,r,e=>by
  cases e;cases (show u=Value.none from r);exact⟨_,.none⟩
 | _,_,u,d,.bl b,r,e=>by
  cases e;cases (show u=Value.bool b from r);exact⟨_,.bool b⟩
 | _,_,u,d,.int i,r,e=>by
  cases e;obtain⟨t,rfl⟩:=(show ∃ t,u=Value.int i t from r);exact⟨_,.int i t⟩
 | _,_,u,d,.str i,r,e=>by
  cases e;obtain⟨t,rfl⟩:=(show ∃ t,u=Value.str i t from r);exact⟨_,.str i t⟩
 | _,_,u,d,.tup (a:=a) ha hx,r,e=>by
  obtain⟨ds,e2,rfl⟩:=Option.map_eq_some_iff.mp (show (lr _).map PyData.tuple=some d from e)
  cases (show u=Value.ref a from r)
  obtain⟨Kv,r1,⟨o,ho,hc,n,hd⟩,_⟩:=I.tuple (gu.of (sm _ _ ha))
  obtain⟨as,ra⟩:=aM.reads I sm hx r1 e2
  exact⟨_,.tuple ho hc hd (by simpa using ra)⟩
 | _,_,u,d,.lst (a:=a) ha hx,r,e=>by
  obtain⟨ds,e2,rfl⟩:=Option.map_eq_some_iff.mp (show (lr _).map PyData.list=some d from e)
  cases (show u=Value.ref a from r)
  obtain⟨Kv,r1,⟨o,n,ho,hc,_,hd⟩,_⟩:=I.list (f9.of (sm _ _ ha))
  obtain⟨as,ra⟩:=aM.reads I sm hx r1 e2
  exact⟨_,.list ho hc hd (by simpa using ra)⟩
 | _,_,u,d,.iU (a:=a) (o:=ob) ha hx,r,e=>by
  obtain⟨ds,e2,rfl⟩:=Option.map_eq_some_iff.mp (show (lr _).map PyData.list=some d from e)
  cases (show u=Value.ref a from r)
  obtain⟨Kv,r1,⟨o,n,ho,hc,_,hd⟩,_⟩:=I.list (.inl (.inr ⟨ob,sm _ _ ha⟩))
  obtain⟨as,ra⟩:=aM.reads I sm hx r1 e2
  exact⟨_,.list ho hc hd (by simpa using ra)⟩
 | _,_,u,d,.obj _ _,r,e=>by cases e
 | _,_,u,d,.xj _,r,e=>by cases e
 | _,_,u,d,.xi _ _ _,r,e=>by cases e
 | _,_,u,d,.emp _,r,e=>by cases e
theorem aM.reads{Hs:Hp}(I:Inv X Kt σ H s)(sm:bf Hs H):∀ {p:List PV} {v:List V} {u:List Value} {d:List PyData},aM Hs p v->Vals v u->lr p=some d->∃ as,ReadsAll s.heap u d as
 | _,_,_,_,.nil,.nil,e=>by cases e;exact⟨_,.nil⟩
 | _,_,_,d,.cons (p:=p) (ps:=ps) h hr,.cons r rr,e=>by
  obtain⟨d1,e1,e2⟩:=Option.bind_eq_some_iff.mp (show (dat p).bind (λd=>(lr ps).map (d::·))=some d from e)
  obtain⟨ds,e3,rfl⟩:=Option.map_eq_some_iff.mp e2
  obtain⟨as,ra⟩:=Rep.reads I sm h r e1
  obtain⟨bs,rb⟩:=aM.reads I sm hr rr e3
  exact⟨_,.cons ra rb⟩
end
def FX(d e:PyData):M Bool:=cC (shaped d=true/\shaped e=true/\noMix d e=true) (M.ok (same d e))
def pC(o:Bool->PV)(p q:PV):M PV:=match dat p,dat q with
 | some d,some e=>(FX d e).bind λb=>M.ok (o b)
 | _,_=>none
def rN:PV->PV->M PV:=pC λb=>.bl b
def qi:PV->PV->M PV:=pC λb=>.bl (!b)
def zY(o:Bool->Bool):R2:=λx y H Q=>∃ Hs p q d e,bf Hs H/\Rep Hs p x/\Rep Hs q y/\dat p=some d/\dat q=some e/\shaped d=true/\shaped e=true/\noMix d e=true/\Q (.bl (o (same d e))) H
theorem y9(hu:X.A.units+64<cLine):gU X (compareOp .Eq) (zY id):=by
 intro Kt s σ H x y v u Q I rx ry h
 obtain⟨Hs,p,q,d,e,sm,rp,rq,hd,he,h1,h2,h3,hq⟩:=h
 obtain⟨as,ra⟩:=Rep.reads I sm rp rx hd
 obtain⟨bs,rb⟩:=Rep.reads I sm rq ry he
 exact eq_dataH_same ra rb h1 h2 hu h3 (rE I hq rfl)
theorem zM(hu:X.A.units+64<cLine):gU X (compareOp .NotEq) (zY not):=by
 intro Kt s σ H x y v u Q I rx ry h
 obtain⟨Hs,p,q,d,e,sm,rp,rq,hd,he,h1,h2,h3,hq⟩:=h
 obtain⟨as,ra⟩:=Rep.reads I sm rp rx hd
 obtain⟨bs,rb⟩:=Rep.reads I sm rq ry he
 exact ne_dataH_same ra rb h1 h2 hu h3 (rE I hq rfl)
theorem AK{o:Bool->Bool}:l9 E (zY o) (pC λb=>.bl (o b)):=by
 intro σ Hs H p q v u Q s rp rq h
 unfold pC at h
 split at h
 ·rename_i d e hd he
  have h':=ay.bind h
  obtain⟨⟨h1,h2,h3⟩,h⟩:=ay.cC h'
  exact⟨Hs,p,q,d,e,s,rp,rq,hd,he,h1,h2,h3,dR.flat h s (.bl _)⟩
 ·exact h.elim
theorem DY:l9 E (zY id) rN:=AK
theorem DQ:l9 E (zY not) qi:=AK
def oU(xs:List PV)(lo hi:Option Int):List PV:=(xs.drop (HT.de xs.length 0 lo)).take (HT.de xs.length xs.length hi-HT.de xs.length 0 lo)
theorem aM.cut(r:aM H xs vs)(lo hi:Option Int):aM H (oU xs lo hi) (t7 vs lo hi):=by
 unfold oU t7
 rw[r.length]
 exact(r.drop _).take _
abbrev GY(Q:Option Int->Hp->Prop):Hp->Hp->Option Int->Prop:=λHs H k=>∀ Kw H',bF Hs H Kw H'->Q k H'
def Jn(E:St->XK)(g:af->M (Option Int)):TO:=fun σ H Q=>tG E g (GY Q) σ H
theorem PO.imp{e:Option Expr}{t t':TO}(h:PO X e t)(i:∀ σ H Q,t' σ H Q->t σ H Q):PO X e t':=λKt s σ H Q I q=>h Kt s σ H Q I (i σ H Q q)
def Fj:PV->M (Option Int)
 | .int i=>M.ok (some i)
 | _=>none
def j7(f:af->M PV):af->M (Option Int):=λenv=>(f env).bind Fj
section
variable{lo hi:Option Expr}{pos p2:Pos}{f:af->M PV}{gl gh:af->M (Option Int)}
theorem GY.g{Q:Option Int->Hp->Prop}:KG (GY Q):=λHs H Kw H' b k g KH H2 g2=>k KH H2 (g.trans g2)
theorem mP(he:PE X e (tE E f)):PO X (some e) (Jn E (j7 f)):=(CQ he).imp fun σ H Q q=>cj (K:=GY Q) GY.g q λB H₀ Hs H1 env p v sr rp hp=>by
 cases rp with
 | int i=>exact⟨i,rfl,hp Hs H1 (.refl sr.gr.sub)⟩
 | _=>exact hp.elim
end
def gH(xs:List PV):List PV:=xs.mapIdx λi x=>.tup [.int (i:Nat),x]
section
variable{K:PySem.W.Frag}{fs:af->M (List PV)}
theorem pS(hq:∀ Kw H',bf KN Kw->bf Kw H'->f9 K H' a vs)(hr:aM KN xs vs):jd (F1 K a) KN (gH xs) where
 stop:=λi Hs H s1 s2 hi=>by
  unfold gH at hi
  rw[List.length_mapIdx,hr.length] at hi
  exact⟨vs,hq Hs H s1 s2,hi⟩
 go:=λi Hs H s1 s2 hi=>by
  unfold gH at hi
  rw[List.length_mapIdx] at hi
  obtain⟨v,e,_⟩:=hr.get (List.getElem?_eq_getElem hi)
  exact⟨vs,v,hq Hs H s1 s2,e⟩
 rL:=λi Hs H x H2 s1 s2 hi y=>by
  unfold gH at hi
  rw[List.length_mapIdx] at hi
  obtain⟨v,e,r⟩:=hr.get (List.getElem?_eq_getElem hi)
  obtain⟨pa,v',hn,rfl,rfl,y1⟩:=y
  have z1:=y1 vs (hq Hs H s1 s2)
  rw[e] at z1;cases z1
  have gr:=bF.new (o:=.tup [.int (i:Nat),v]) s2 hn
  refine⟨.tup [.int (i:Nat),xs[i]],_,?_,gr,.tup aw (.cons (.int _) (.cons ((r.mono s1).mono gr.st) .nil))⟩
  unfold gH
  rw[List.getElem?_mapIdx,List.getElem?_eq_getElem hi]
  rfl
end
end
def BZ(lo st:Int)(n:Nat):It:=⟨λi _=>i<n,λi H x H'=>H'=H/\x=.int (lo+(i:Nat)*st),λi _=>n<=i⟩
theorem um{K:PySem.W.Frag}(it:Addr)(lo st:Int)(n:Nat):Turn P w K tg (BZ lo st n) [it] it (λi h=>IsRangeIter h it (lo+(i:Nat)*st) ((n:Int)-(i:Nat)) st) where
 mem:=by simp
 obj:=λi h st b hb=>by
  have e:b=it:=by simpa using hb
  subst e
  exact⟨_,st,λv z=>by
   have z':Data.fields _=Data.cell v:=z
   cases z'⟩
 keep:=λi h h' st k=>k it (by simp) _ st
 item:=by
  intro X hP hw hK hc i Kt s σ H E I hf LB hg
  subst hP hw hK
  obtain⟨f0,f1,f2,f3,f4,f5⟩:=hf it (by simp)
  have W:=Walks.range (prog:=X.prog) (w:=X.w) (I.ok.hd hc) it lo st n
  refine W.item i s _ _ hg LB λv h' tk hv Oj kk=>?_
  obtain⟨t,rfl⟩:=hv
  have I1:Inv X Kt σ H { s with heap:=h',toks:=tk }:=I.turned (λb o hb e=>kk b o (by simpa using hb) e) f0 f1 f3 f4 f5
  exact⟨_,rfl,vN (s:={ s with heap:=h',toks:=tk }) (n := "range_iterator") Oj rfl rfl (by decide) ⟨.int (lo+(i:Nat)*st),H,I1,⟨t,rfl⟩,⟨rfl,rfl⟩,Oj,λb hb=>(hf b hb).1⟩⟩
 done:=by
  intro X hP hw hK hc i Kt s σ H E I hf LB hg
  subst hP hw hK
  obtain⟨f0,f1,f2,f3,f4,f5⟩:=hf it (by simp)
  exact wpAny_pyNext_range_end (I.ok.hd hc) LB (by have:n<=i:=hg;omega) λh' eb=>⟨rfl,I.turned (t':=s.toks) (λb o hb e=>eb b o hb e) f0 f1 f3 f4 f5⟩
 self:=λ_ _ _ _ _ st h=>wpAny_pyIter_rangeiter st h
theorem qo(a b c:Int):0<=Builtin.Range.rangeSize a b c:=by
 unfold Builtin.Range.rangeSize
 split
 ·split
  ·have:=Int.ediv_nonneg (a:=b-a-1) (b:=c) (by omega) (by omega);omega
  ·omega
 ·split
  ·have:=Int.ediv_nonneg (a:=a-b-1) (b:=-c) (by omega) (by omega);omega
  ·omega
theorem xA{R:It->Hp->Prop}{E:Value->Shared->Prop}{lo hi st:Int}{t u v:Tok}{tk:Nat}(I:Inv X Kt σ H s)(hsm:Builtin.Range.small lo hi st=true)
  (q:R (BZ lo st (Builtin.Range.rangeSize lo hi st).toNat) H):wpAny (model X.prog X.w) X.A (pyIter (.ref s.heap.objs.size)) (I0 X Kt σ tg R) E { s with heap:=s.heap.push { cls:=.type "range", data:=.fields #[.int lo t,.int hi u,.int st v] },toks:=tk }:=by
 refine wpAny_pyIter_range (IsRange.new ..) hsm ?_
 have I1:Inv X Kt σ H { s with heap:=s.heap.push { cls:=.type "range", data:=.fields #[.int lo t,.int hi u,.int st v] },toks:=tk }:=I.kept λb o e=>Heap.get?_push_of_some _ e
 refine⟨(s.heap.push { cls:=.type "range", data:=.fields #[.int lo t,.int hi u,.int st v] }).objs.size,[(s.heap.push { cls:=.type "range", data:=.fields #[.int lo t,.int hi u,.int st v] }).objs.size],_,_,H,rfl,
  I1.kept (t':=tk) λb o e=>Heap.get?_push_of_some _ e,um _ lo st (Builtin.Range.rangeSize lo hi st).toNat,?_,λb hb=>?_,q⟩
 ·have e1:lo+((0:Nat):Int)*st=lo:=by simp
  have e2:(((Builtin.Range.rangeSize lo hi st).toNat:Nat):Int)-((0:Nat):Int)=Builtin.Range.rangeSize lo hi st:=by have:=qo lo hi st;omega
  show IsRangeIter _ _ (lo+((0:Nat):Int)*st) ((((Builtin.Range.rangeSize lo hi st).toNat:Nat):Int)-((0:Nat):Int)) st
  rw[e1,e2]
  exact Heap.get?_push_size _ rfl
 ·have e:b=(s.heap.push { cls:=.type "range", data:=.fields #[.int lo t,.int hi u,.int st v] }).objs.size:=by simpa using hb
  subst e
  exact I1.qY (Nat.le_refl _) (I1.bC.fresh (Nat.le_refl _))
def C3(i j k:Int):Bool:=decide (k≠0)&&decide (k.natAbs<1073741824)&&Builtin.Range.small i j k
def DP(ta:TA):TI:=fun σ H R=>ta σ H λvs H1=>∃ i j k:Int,vs=[.int i,.int j,.int k]/\C3 i j k=true/\R (BZ i k (Builtin.Range.rangeSize i j k).toNat) H1
theorem pY{a b:Expr}{ta:TA}{p pos:Pos}(hg:Gl X "range")(hm:X.mg "range" = none)(ha:PA X [a,b,c] ta)(hs:autoParam (starEach [a,b,c] X.env=[(false,eval a X.env),(false,eval b X.env),(false,eval c X.env)]) aR._auto_1)(LY:autoParam (starEach [b,c] X.env=[(false,eval b X.env),(false,eval c X.env)]) aR._auto_1) :
  PI X tg (.Call (.Name "range" p) [a,b,c] [] pos) (DP ta):=by
 intro Kt s σ H R I h
 refine Call_ (ix I hg hm boot_range (PyProof.Rows.callWith_type1 (cJ (ha pos Kt s σ H _ I h) λus s1 ⟨vs,H1,I1,r1,q1⟩=>?_) (by rw[hs,LY]) (by rw[LY];rfl)))
 obtain⟨i,j,k,e,hc,q⟩:=q1
 subst e
 cases r1 with
 | cons r rr =>
  cases rr with
  | cons r' rr =>
   cases rr with
   | cons Og rr =>
    cases rr
    obtain⟨t,rfl⟩:=r
    obtain⟨t',rfl⟩:=r'
    obtain⟨t'',rfl⟩:=Og
    unfold C3 at hc
    rw[Bool.and_eq_true,Bool.and_eq_true] at hc
    exact call_range_3 (of_decide_eq_true hc.1.1) (xA I1 hc.2 q) (.inl (PyProof.noPylong_small (of_decide_eq_true hc.1.2)))
def yh:List PV->M (List PV)
 | [.int i,.int j,.int k]=>cC (C3 i j k=true) (M.ok ((List.range (Builtin.Range.rangeSize i j k).toNat).map λ(n:Nat)=>.int (i+n*k)))
 | _=>none
section
variable{K:PySem.W.Frag}{fs:af->M (List PV)}
theorem xE{lo st:Int}:jd (BZ lo st n) KN ((List.range n).map λ(i:Nat)=>PV.int (lo+(i:Int)*st)) where
 stop:=λi Hs H s1 s2 hi=>show n<=i by simpa using hi
 go:=λi Hs H s1 s2 hi=>show i<n by simpa using hi
 rL:=λi Hs H x H2 s1 s2 hi y=>by
  obtain⟨rfl,rfl⟩:=y
  have NM:i<n:=by simpa using hi
  exact⟨.int (lo+(i:Int)*st),Hs,by simp[NM],.refl s2,.int _⟩
theorem xT{ps:List PV}{Q:List PV->Prop}{F:EX->Prop}(h:ay (yh ps) Q F):∃ i j k,ps=[.int i,.int j,.int k]/\C3 i j k=true/\Q ((List.range (Builtin.Range.rangeSize i j k).toNat).map λ(n:Nat)=>.int (i+n*k)):=by
 unfold yh at h
 split at h
 ·obtain⟨hc,h⟩:=ay.cC h
  exact⟨_,_,_,rfl,hc,h⟩
 ·exact h.elim
theorem aM.three{q r:PV}(h:aM H [p,q,r] vs):∃ v u w,vs=[v,u,w]/\Rep H p v/\Rep H q u/\Rep H r w:=by
 cases h with
 | cons h r=>obtain⟨u,w,rfl,h2,h3⟩:=r.two;exact⟨_,_,_,rfl,h,h2,h3⟩
theorem sP:wc E (DP (tL E fs)) (kn yh fs):=by
 intro σ H R q
 refine dc (K:=KI R) KI.g q λB H₀ Hs H1 env ps v sr rp hp=>?_
 obtain⟨i,j,k,rfl,hc,hp⟩:=xT hp
 obtain⟨w,u,z,rfl,Ml,ru,rz⟩:=rp.three
 cases Ml
 cases ru
 cases rz
 exact⟨i,j,k,rfl,hc,hp _ Hs H1 (.refl sr.gr.sub) xE⟩
end
def iW:List PV->List PV->List PV->List PV
 | x::xs,y::ys,z::zs=>.tup [x,y,z]::iW xs ys zs
 | _,_,_=>[]
theorem qg:∀ {xs ys zs:List PV} {i:Nat} (h1:i<xs.length) (h2:i<ys.length) (h3:i<zs.length),(iW xs ys zs)[i]?=some (.tup [xs[i],ys[i],zs[i]])
 | x::xs,y::ys,z::zs,0,_,_,_=>rfl
 | x::xs,y::ys,z::zs,i+1,h1,h2,h3=>by
  show (iW xs ys zs)[i]?=_
  exact qg (xs:=xs) (ys:=ys) (zs:=zs) (i:=i) (by simpa using h1) (by simpa using h2) (by simpa using h3)
 | [],_,_,_,h1,_,_=>by simp at h1
 | _::_,[],_,_,_,h2,_=>by simp at h2
 | _::_,_::_,[],_,_,_,h3=>by simp at h3
theorem jJ:∀ {xs ys zs:List PV},(iW xs ys zs).length=min xs.length (min ys.length zs.length)
 | x::xs,y::ys,z::zs=>by
  show (iW xs ys zs).length+1=_
  rw[jJ]
  simp only[List.length_cons]
  omega
 | [],_,_=>by simp[iW]
 | _::_,[],_=>by simp[iW]
 | _::_,_::_,[]=>by simp[iW]
def w_:List PV->M (List PV)
 | [p,q,r]=>match bR p,bR q,bR r with
  | some xs,some ys,some zs=>M.ok (iW xs ys zs)
  | _,_,_=>none
 | _=>none
section
variable{K:PySem.W.Frag}{fs:af->M (List PV)}
theorem xH{b1 b2 b3:Bool}{a1 a2 a3:Addr}{ys zs:List PV}{us ws:List V}(Lk:∀ Kw H',bf KN Kw->bf Kw H'->jT K H' b1 a1 vs)(MY:aM KN xs vs)(Ld:∀ Kw H',bf KN Kw->bf Kw H'->jT K H' b2 a2 us)(MZ:aM KN ys us)
  (Mw:∀ Kw H',bf KN Kw->bf Kw H'->jT K H' b3 a3 ws) (N6:aM KN zs ws):jd (Jd K b1 b2 b3 a1 a2 a3) KN (iW xs ys zs) where
 stop:=λi Hs H s1 s2 hi=>by
  rw[jJ,MY.length,MZ.length,N6.length] at hi
  exact⟨vs,us,ws,Lk Hs H s1 s2,Ld Hs H s1 s2,Mw Hs H s1 s2,by omega⟩
 go:=λi Hs H s1 s2 hi=>by
  rw[jJ] at hi
  obtain⟨v,e,_⟩:=MY.get (List.getElem?_eq_getElem (show i<xs.length by omega))
  obtain⟨u,e',_⟩:=MZ.get (List.getElem?_eq_getElem (show i<ys.length by omega))
  obtain⟨w,e'',_⟩:=N6.get (List.getElem?_eq_getElem (show i<zs.length by omega))
  exact⟨vs,us,ws,v,u,w,Lk Hs H s1 s2,Ld Hs H s1 s2,Mw Hs H s1 s2,e,e',e''⟩
 rL:=λi Hs H x H2 s1 s2 hi y=>by
  rw[jJ] at hi
  have l1:i<xs.length:=by omega
  have l2:i<ys.length:=by omega
  have l3:i<zs.length:=by omega
  obtain⟨v,e,r⟩:=MY.get (List.getElem?_eq_getElem l1)
  obtain⟨u,e',r'⟩:=MZ.get (List.getElem?_eq_getElem l2)
  obtain⟨w,e'',Og⟩:=N6.get (List.getElem?_eq_getElem l3)
  obtain⟨pa,v',u',w',hn,rfl,rfl,y1,y2,y3⟩:=y
  have z1:=y1 vs (Lk Hs H s1 s2)
  have z2:=y2 us (Ld Hs H s1 s2)
  have z3:=y3 ws (Mw Hs H s1 s2)
  rw[e] at z1;cases z1
  rw[e'] at z2;cases z2
  rw[e''] at z3;cases z3
  have gr:=bF.new (o:=.tup [v,u,w]) s2 hn
  exact⟨_,_,qg l1 l2 l3,gr,.tup aw (.cons ((r.mono s1).mono gr.st) (.cons ((r'.mono s1).mono gr.st) (.cons ((Og.mono s1).mono gr.st) .nil)))⟩
theorem wY{ps:List PV}{Q:List PV->Prop}{F:EX->Prop}(h:ay (w_ ps) Q F):∃ p q r xs ys zs,ps=[p,q,r]/\bR p=some xs/\bR q=some ys/\bR r=some zs/\Q (iW xs ys zs):=by
 unfold w_ at h
 split at h
 ·split at h
  ·exact⟨_,_,_,_,_,_,rfl,by assumption,by assumption,by assumption,h⟩
  ·exact h.elim
 ·exact h.elim
theorem zg:wc E (Dt K (tL E fs)) (kn w_ fs):=by
 intro σ H R q
 refine dc (K:=KI R) KI.g q λB H₀ Hs H1 env ps v sr rp hp=>?_
 obtain⟨p,q,r,xs,ys,zs,rfl,e1,e2,e3,hp⟩:=wY hp
 obtain⟨w,u,z,rfl,Ml,ru,rz⟩:=rp.three
 obtain⟨b1,a1,vs,rfl,Lk,MY⟩:=jK (K:=K) sr.gr.sub Ml e1
 obtain⟨b2,a2,us,rfl,Ld,MZ⟩:=jK (K:=K) sr.gr.sub ru e2
 obtain⟨b3,a3,ws,rfl,Mw,N6⟩:=jK (K:=K) sr.gr.sub rz e3
 exact⟨b1,b2,b3,a1,a2,a3,rfl,⟨vs,Lk Hs H1 (λ_ _ z=>z) sr.gr.sub⟩,⟨us,Ld Hs H1 (λ_ _ z=>z) sr.gr.sub⟩,⟨ws,Mw Hs H1 (λ_ _ z=>z) sr.gr.sub⟩,hp _ Hs H1 (.refl sr.gr.sub) (xH Lk MY Ld MZ Mw N6)⟩
end
def pK(i j k:Nat):PV->af->M af
 | .tup [p,q,r],env=>M.ok (((env.set i (some (.sh p))).set j (some (.sh q))).set k (some (.sh r)))
 | _,_=>none
theorem Dg{E:XK}{K:PySem.W.Frag}:Bm E (jN K 3 (bM (aO i) (bM (aO j) (bM (aO k) jM)))) (pK i j k):=by
 intro B H₀ Hs H σ env p v Q Z sr r h
 cases r with
 | @tup a xs vs ha hx =>
  match xs,hx with
  | [p,q,r],hx =>
   obtain⟨v,u,w,rfl,rp,rq,rr⟩:=hx.three
   exact⟨a,[v,u,w],rfl,gu.of (sr.gr.sub _ _ ha),rfl,v,[u,w],rfl,u,[w],rfl,w,[],rfl,rfl,h _ (((sr.set rp).set rq).set rr)⟩
  | [],_=>exact h.elim
  | [_],_=>exact h.elim
  | [_,_],_=>exact h.elim
  | _::_::_::_::_,_=>exact h.elim
 | _=>exact h.elim
theorem vj:lP (pK i j k):=λp env e h n=>by
 unfold pK at h
 split at h
 ·cases h;exact iO (iO (iO n))
 ·cases h
section
variable{E:XK}{pos px:Pos}{fs:af->M (List PV)}{f h:af->M PV}
def ownAt(i:Nat)(env:af):M (List PV):=match env[i]? with
 | some (some (.ow xs))=>M.ok xs
 | _=>none
theorem ay.own{env:af}{Q:List PV->Prop}{F:EX->Prop}(h:ay (ownAt i env) Q F):∃ xs,env[i]?=some (some (.ow xs))/\Q xs:=by
 unfold ownAt at h
 split at h
 ·exact⟨_,by assumption,h⟩
 ·exact h.elim
def DN(i:Nat)(xs:List PV)(p:PV)(env:af):PV->M Out
 | .int n=>match yp xs.length n with
  | some j=>M.ok (.nx (env.set i (some (.ow (xs.set j p)))))
  | none=>none
 | _=>none
def Hd(i:Nat)(g f:af->M PV):af->M Out:=λenv=>(f env).bind λp=>(ownAt i env).bind λxs=>(g env).bind (DN i xs p env)
theorem DV{ie:Expr}(hi:X.N[i]?=some x)(hv:Bn X.env.scope x)(hk:PE X ie (tE (λ_=>E) h))(he:PE X e (tE (λ_=>E) f))(hd:autoParam ((x==("__debug__" : Str))=false) aD._auto_1)(LP:autoParam ((x==("__classdict__" : Str))=false) aD._auto_1)
  (ha:autoParam (∀ v,assign (.Subscript (.Name x px) ie pos') X.env v=(do
   let ov ← holding [v] (eval (.Name x px) X.env)
   let iv ← holding [v,ov] (eval ie X.env)
   standAt pos'
   holding [v,ov,iv] (setItem ov iv v)
   release [v,ov,iv] [])) aI._auto_1)
  (hs:autoParam (swapsWithSole [.Subscript (.Name x px) ie pos'] e pos.line X.env=pure false) aR._auto_1) (hw:autoParam (swappedStores [.Subscript (.Name x px) ie pos'] e X.env=pure none) aR._auto_1)
  (h1:autoParam ((assignEach [.Subscript (.Name x px) ie pos'] X.env).map (·.2)=[assign (.Subscript (.Name x px) ie pos') X.env]) aR._auto_1):PS X (.Assign [.Subscript (.Name x px) ie pos'] e pos) (tS E (Hd i h f)):=by
 refine(EJ he (Fw (iy hi hv hd LP) hk set_list ha) hs hw h1).imp λD σ H q=>jn q λB H₀ Hs H1 env p v sr rp hp=>?_
 obtain⟨xs,ex,hp⟩:=ay.own (ay.bind hp)
 obtain⟨a,vs,h1,h2,h3,h4,h5⟩:=sr.ow i xs ex
 refine⟨.ref a,h1,B,H₀,Hs,env,sr,(ay.bind hp).imp (λk hk w KH H2 g2 rk=>?_) λe he=>he.grow sr.gr⟩
 have Li:=sr.grow g2
 cases rk with
 | int n =>
  have Nv:ay (match yp xs.length n with | some j=>M.ok (Out.nx (env.set i (some (.ow (xs.set j p))))) | none=>none) (KS D B H₀) (XW E B H₀):=hk
  split at Nv
  ·rename_i j ej
   exact⟨a,vs,n,j,rfl,rfl,g2.al _ _ h2,by rw[← h5.length];exact ej,Nv σ KH _ (Li.put ex h1 ((h5.mono g2.st).set (rp.mono g2.st) j))⟩
  ·exact Nv.elim
 | _=>exact hk.elim
end
theorem KO.gr{Q:VK}:KG (KO Q):=λHs H Kw H' b k g vs p KH H2 g2 r n=>k vs p KH H2 (g.trans g2) r n
section
variable{sem:List PV->M (List PV)}{p pos:Pos}{fs:af->M (List PV)}{g:af->M PV}
end
mutual
def oJ:PV->Bool
 | .cy=>true
 | .bl _=>true
 | .int _=>true
 | .str _=>true
 | .tup xs=>la xs
 | _=>false
def la:List PV->Bool
 | []=>true
 | p::r=>oJ p&&la r
end
mutual
theorem Rep.away{Hs:Hp}{a:Addr}{ws:List V}(ha:Hs a=some (.lst ws)):∀ {p:PV} {v:V},Rep Hs p v->oJ p=true->Rep (rem Hs a) p v
 | _,_,.cy,_=>.cy
 | _,_,.bl b,_=>.bl b
 | _,_,.int b,_=>.int b
 | _,_,.str b,_=>.str b
 | _,_,.tup (a:=c) h r,n=>by
  have nc:c≠a:=λz=>by subst z;rw[ha] at h;cases h
  exact .tup (by unfold rem;rw[if_neg nc];exact h) (r.away ha n)
 | _,_,.lst _ _,n=>by cases n
 | _,_,.iU _ _,n=>by cases n
 | _,_,.obj _ _,n=>by cases n
 | _,_,.xj _,n=>by cases n
 | _,_,.xi _ _ _,n=>by cases n
theorem aM.away{Hs:Hp}{a:Addr}{ws:List V}(ha:Hs a=some (.lst ws)):∀ {p:List PV} {v:List V},aM Hs p v->la p=true->aM (rem Hs a) p v
 | _,_,.nil,_=>.nil
 | _,_,.cons h r,n=>by
  have n':=Bool.and_eq_true_iff.mp (show (oJ _&&la _)=true from n)
  exact .cons (h.away ha n'.1) (r.away ha n'.2)
end
def A4:M PV->M PV
 | some (.ok p)=>cC (oJ p=true) (M.ok p)
 | _=>none
theorem ay.A4{r:M PV}{Q:PV->Prop}{E:EX->Prop}(h:ay (L2.A4 r) Q E):ay r (λp=>oJ p=true/\Q p) (λ_=>False):=by
 cases r with
 | none=>exact h
 | some r=>cases r with
  | error e=>exact h
  | ok p =>
   obtain⟨n,h⟩:=ay.cC h
   exact⟨n,h⟩
theorem bF.back{Kw H':Hp}{ws:List V}(h1:Hs a=none)(hH:H a=some (.lst ws))(s:bf Hs H)(g:bF (upd Hs a (.lst ws)) H Kw H'):bF Hs H (rem Kw a) H'/\Kw a=some (.lst ws):=by
 have e:Kw a=some (.lst ws):=g.st _ _ aw
 refine⟨⟨λc u q=>?_,g.al,λc u q=>?_,λc u q1 q2=>?_⟩,e⟩
 ·have nc:c≠a:=λz=>by subst z;rw[h1] at q;cases q
  unfold rem;rw[if_neg nc]
  exact g.st c u (by rw[ak nc];exact q)
 ·unfold rem at q
  split at q
  ·cases q
  ·exact g.sub c u q
 ·unfold rem
  by_cases nc:c=a
  ·rw[if_pos nc]
  ·rw[if_neg nc]
   exact g.nw c u (by rw[ak nc];exact q1) q2
theorem SR.lend{B:Hp}{env:af}(r:SR B H₀ Hs H σ env)(e:env[i]?=some (some (.ow xs))):∃ a vs,Hs a=none/\H a=some (.lst vs)/\SR B H₀ (upd Hs a (.lst vs)) H σ (rC i env):=by
 obtain⟨a,vs,h1,h2,h3,h4,h5⟩:=r.ow i xs e
 refine⟨a,vs,h3,h2,?_⟩
 have ne:∀ c u,Hs c=some u->c≠a:=λc u q z=>by rw[z,h3] at q;cases q
 have K4:bf Hs (upd Hs a (.lst vs)):=λc u q=>by rw[ak (ne c u q)];exact q
 unfold rC
 rw[e]
 refine⟨⟨λc u q=>K4 c u (r.gr.st c u q),r.gr.al,λc u q=>?_,λc u q1 q2=>?_⟩,by rw[List.length_set];exact r.len,λj q ej=>?_,λj ys ej=>?_,λj k ys zs b nj e1 e2 e3 e4=>?_,λj ba C fs ej=>?_,λj k _ _ C D fs gs e1 e2=>?_⟩
 ·by_cases z:c=a
  ·subst z;rw[aw] at q;cases q;exact h2
  ·rw[ak z] at q;exact r.gr.sub c u q
 ·have z:c≠a:=λz=>by rw[z,h4] at q2;cases q2
  rw[ak z];exact r.gr.nw c u q1 q2
 ·rw[List.getElem?_set] at ej
  by_cases z:i=j
  ·subst z
   rw[if_pos rfl] at ej
   split at ej
   ·cases ej
    exact⟨.ref a,h1,.lst aw (h5.mono K4)⟩
   ·cases ej
  ·rw[if_neg z] at ej
   obtain⟨v,q1,q2⟩:=r.sh j q ej
   exact⟨v,q1,q2.mono K4⟩
 ·rw[List.getElem?_set] at ej
  by_cases z:i=j
  ·subst z
   rw[if_pos rfl] at ej
   split at ej <;> cases ej
  ·rw[if_neg z] at ej
   obtain⟨b,us,q1,q2,q3,q4,q5⟩:=r.ow j ys ej
   have nb:b≠a:=λw=>by subst w;exact r.sep i j xs ys b z e ej h1 q1
   exact⟨b,us,q1,q2,by rw[ak nb];exact q3,q4,q5.mono K4⟩
 ·rw[List.getElem?_set] at e1 e2
  by_cases z:i=j
  ·subst z
   rw[if_pos rfl] at e1
   split at e1 <;> cases e1
  ·by_cases z2:i=k
   ·subst z2
    rw[if_pos rfl] at e2
    split at e2 <;> cases e2
   ·rw[if_neg z] at e1
    rw[if_neg z2] at e2
    exact r.sep j k ys zs b nj e1 e2 e3 e4
 ·rw[List.getElem?_set] at ej
  by_cases z:i=j
  ·subst z
   rw[if_pos rfl] at ej
   split at ej <;> cases ej
  ·rw[if_neg z] at ej
   obtain⟨dx,us,q1,q2,q3,q4,q5⟩:=r.bd j ba C fs ej
   have nb:ba≠a:=λw=>by subst w;rw[h2] at q2;cases q2
   exact⟨dx,us,q1,q2,by rw[ak nb];exact q3,q4,q5.mono K4⟩
 ·rw[List.getElem?_set] at e1 e2
  by_cases z:i=j
  ·subst z
   rw[if_pos rfl] at e1
   split at e1 <;> cases e1
  ·by_cases z2:i=k
   ·subst z2
    rw[if_pos rfl] at e2
    split at e2 <;> cases e2
   ·rw[if_neg z] at e1
    rw[if_neg z2] at e2
    exact r.one j k _ _ C D fs gs e1 e2
def uc(i:Nat)(f:af->M PV):af->M PV:=λenv=>(ownAt i env).bind λ_=>A4 (f (rC i env))
section
variable{f:af->M PV}{u:af->M Bool}
theorem wx(i:Nat)(he:PE X e (tE E f)):PE X e (tE E (uc i f)):=he.imp fun σ H Q q=>by
 obtain⟨B,H₀,Hs,env,sr,q⟩:=q
 obtain⟨xs,ex,q⟩:=ay.own (ay.bind q)
 obtain⟨a,vs,h3,h2,Li⟩:=sr.lend ex
 refine⟨B,H₀,_,_,Li,(ay.A4 q).imp (λp hp v Kw H' g r=>?_) λ_ z=>z.elim⟩
 obtain⟨g2,ea⟩:=bF.back h3 h2 sr.gr.sub g
 exact hp.2 v _ _ g2 (r.away ea hp.1)
end
def bB:PV->PV->M PV:=zi (λ_ j=>decide (j≠0/\j.natAbs.log2<9000)) λi j=>i.fdiv j
def cQ:PV->PV->M PV:=zi (λ_ j=>decide (j≠0)) λi j=>i.fmod j
def Cs:PV->PV->M PV:=yS λi j=>decide (i<j)
def BQ:PV->PV->M PV:=yS λi j=>decide (i<=j)
def DE:PV->PV->M PV:=yS λi j=>decide (j<i)
def Gw:PV->PV->M PV:=yS λi j=>decide (j<=i)
theorem Bc:l9 E (rI Av λi j=>.int (i.fdiv j)) bB:=B6
theorem Cf:l9 E (rI (λ_ j=>j≠0) λi j=>.int (i.fmod j)) cQ:=F6
theorem uV:l9 E (vh λi j=>.bl (decide (i<j))) Cs:=ql
theorem nN:l9 E (vh λi j=>.bl (decide (i<=j))) BQ:=ql
theorem Aj:l9 E (vh λi j=>.bl (decide (j<i))) DE:=ql
theorem A6:l9 E (vh λi j=>.bl (decide (j<=i))) Gw:=ql
def bu(n:Nat)(s:List PV->M PV):List PV->M PV:=λps=>cC (ps.length=n) (s ps)
theorem ni{s:List PV->M PV}{ps:List PV}(h:bu n s ps≠none):ps.length=n:=by
 unfold bu cC at h
 split at h
 ·assumption
 ·exact(h rfl).elim
variable{dv:Value}
section
variable{K:PySem.W.Frag}
theorem Ac{s:List PV->M PV}(F:aV P w K mg base (bU P w) k f fd ps (dW n s)):aV P w K mg base (bU P w) k f fd ps (dW n (bu n s)) where
 len:=λvs H Q E h=>by
  obtain⟨h0,Hs,qs,sm,r,h⟩:=h
  exact F.len vs H Q E ⟨h0,Hs,qs,sm,r,(ay.cC h).2⟩
 run:=λA outer s H args us vs Q E hr e hb rv h=>by
  obtain⟨h0,Hs,qs,sm,r,h⟩:=h
  exact F.run A outer s H args us vs Q E hr e hb rv ⟨h0,Hs,qs,sm,r,(ay.cC h).2⟩
structure dH (P:Program) (w:World) (K:PySem.W.Frag) (mg:Str->Option Value) (base:Heap) (n:Nat) (x:Str) (m:Nat) (sem:List PV->M PV):Prop where
 ex:∃ (f:Addr) (fd:FuncData) (ps:List Str),mg x=some (.ref f)/\PySem.W.keepIn K (.ref f)=true/\ps.length=m/\Binds K fd ps []/\aV P w K mg base (bU P w) n f fd ps (dW m (bu m sem))
theorem bq.Kf{st:Stmt}{g:af->M Out}(F:bq K x qual st dv f fd)(S:cB N ps (aY st))
  (hb:∀ (KY:Value) (A:Around) (outer:List Env) (s:Shared) (H:Hp) (E:XK),bZ k (A.deeper (envOfC qual (aY st) s.heap.objs.size f KY))->eS ((kQ (bU P w) P w K mg base N qual (aY st) f KY A outer s H E).out λ_=>E) (λ_=>E)->kj ((kQ (bU P w) P w K mg base N qual (aY st) f KY A outer s H E).out λ_=>E) (eH st) (tS E g)) :
  aV P w K mg base (bU P w) (k+1) f fd ps (dW ps.length (bu ps.length (aC N.length g))):=by
 obtain⟨oc,od,kV,doc,pm,an,KY,ct,M9,rfl,lk,LP⟩:=F.ex
 exact Ac (Ed lk LP S λA outer s H E hr=>hb KY A outer s H E hr (DZ rfl rfl))
end
section
variable{m:Nat}{sem:List PV->M PV}{fs:af->M (List PV)}{p pos:Pos}
theorem dH.call(F:dH X.prog X.w X.K X.mg X.base n x m sem)(hr:bZ k X.A)(hn:n<=k)(hg:Gl X x)(O:eS X E)(ha:PA X (e::es) (tL E fs))(Lz:autoParam ((x==("__debug__" : Str))=false) aD._auto_1)(he:autoParam (starEach (e::es) X.env=(false,eval e X.env)::starEach es X.env) aR._auto_1)(K7:autoParam ((backTo pos (starEach es X.env)).any (·.1)=false) aR._auto_1) :
  PE X (.Call (.Name x p) (e::es) [] pos) (tE E (ai (bu m sem) fs)):=by
 obtain⟨f,fd,ps,h1,h2,h3,h4,h5⟩:=F.ex
 have:=Bz (p:=p) (Mh:=[]) h5 (hr.mono hn) hg h1 h2 h4 .nil (λ_=>.nil) O (λMj hp=>by rw[List.append_nil] at hp;exact ni hp) ha Lz he K7
 refine this.imp fun σ H Q q=>?_
 have e:(λps=>bu m sem (ps++[]))=bu m sem:=by funext ps;rw[List.append_nil]
 rw[e];exact q
structure ke (P:Program) (w:World) (K:PySem.W.Frag) (mg:Str->Option Value) (base:Heap) (C:Addr) (n:Nat) (x:Str) (m:Nat) (sem:List PV->M PV):Prop where
 ex:∃ (f:Addr) (fd:FuncData) (ps:List Str),kW K C/\Meth K C x f/\Binds K fd ps []/\aV P w K mg base (bU P w) n f fd ps (dW m (bu m sem))
theorem ke.call{g:af->M PV}(F:ke X.prog X.w X.K X.mg X.base C n x m sem)(hr:bZ k X.A)(hn:n<=k)(O:eS X E)(ho:PE X o (tE E g))(ha:PA X (e::es) (tL E fs))
  (K4:autoParam (starEach (e::es) X.env=(false,eval e X.env)::starEach es X.env) aR._auto_1) (K7:autoParam ((backTo pos (starEach es X.env)).any (·.1)=false) aR._auto_1)
  (ht:autoParam (eval (.Call (.Attribute o x apos) (e::es) [] pos) X.env=(do
   let ov ← eval o X.env
   standAt apos.atName
   let (f,first) ← holding [ov] (getMethod ov x pl)
   callWith pos f first (backTo pos (starEach (e::es) X.env)) (backToKw pos (keywordEach [] X.env)))) aR._auto_1) :
  PE X (.Call (.Attribute o x apos) (e::es) [] pos) (tE E (bh C x (bu m sem) g fs)):=by
 obtain⟨f,fd,ps,h1,h2,h3,h4⟩:=F.ex
 exact B_ ho h1 h2 h4 (hr.mono hn) h3 O (λMj hp=>ni hp) ha K4 K7 ht
theorem ke.Ha{g:af->M PV}(F:ke X.prog X.w X.K X.mg X.base C n x m sem)(hr:bZ k X.A)(hn:n<=k)(O:eS X E)(ho:PE X o (tE E g))
  (ht:autoParam (eval (.Call (.Attribute o x apos) [] [] pos) X.env=(do
   let ov ← eval o X.env
   standAt apos.atName
   let (f,first) ← holding [ov] (getMethod ov x pl)
   callWith pos f first (backTo pos (starEach [] X.env)) (backToKw pos (keywordEach [] X.env)))) aR._auto_1) :
  PE X (.Call (.Attribute o x apos) [] [] pos) (tE E (bh C x (bu m sem) g ao)):=by
 obtain⟨f,fd,ps,h1,h2,h3,h4⟩:=F.ex
 exact Ah ho h1 h2 h4 (hr.mono hn) h3 O (λMj hp=>ni hp) ht
end
structure yq (P:Program) (w:World) (K:PySem.W.Frag) (mg:Str->Option Value) (base:Heap) (C:Addr) (n:Nat) (x:Str) (m:Nat) (Mh:List PV) (sem:Addr->List PV->M (List (Str×PV))):Prop where
 ex:∃ (f:Addr) (fd:FuncData) (ps:List Str) (ds:List Value) (Lo:List V),mg x=some (.ref C)/\Mk K C f/\Binds K fd ps ds/\Vals Lo ds/\(∀ H,aM H Mh Lo)/\aV P w K mg base (bU P w) n f fd ps (Dx m C sem)
def qh(m:Nat)(sem:Addr->List PV->M (List (Str×PV))):Addr->List PV->M (List (Str×PV)):=λa ps=>cC (ps.length+1=m) (sem a ps)
theorem w6{K:PySem.W.Frag}{s:Addr->List PV->M (List (Str×PV))}(F:aV P w K mg base (bU P w) k f fd ps (Dx n C s)):aV P w K mg base (bU P w) k f fd ps (Dx n C (qh n s)) where
 len:=λvs H Q E h=>by
  obtain⟨h0,a,dx,us,Hs,H1,qs,e1,e2,e3,e4,e5,sm,r,h⟩:=h
  exact F.len vs H Q E ⟨h0,a,dx,us,Hs,H1,qs,e1,e2,e3,e4,e5,sm,r,(ay.cC h).2⟩
 run:=λA outer s H args us vs Q E hr e hb rv h=>by
  obtain⟨h0,a,dx,us',Hs,H1,qs,e1,e2,e3,e4,e5,sm,r,h⟩:=h
  exact F.run A outer s H args us vs Q E hr e hb rv ⟨h0,a,dx,us',Hs,H1,qs,e1,e2,e3,e4,e5,sm,r,(ay.cC h).2⟩
theorem bq.JW{K:PySem.W.Frag}{st:Stmt}{g:af->M Out}(F:bq K x qual st dv f fd)(S:cB N ps (aY st))(hN:0<N.length)
  (hb:∀ (KY:Value) (A:Around) (outer:List Env) (s:Shared) (H:Hp) (E:XK),bZ k (A.deeper (envOfC qual (aY st) s.heap.objs.size f KY))->eS ((kQ (bU P w) P w K mg base N qual (aY st) f KY A outer s H E).out λ_=>E) (λ_=>E)->kj ((kQ (bU P w) P w K mg base N qual (aY st) f KY A outer s H E).out λ_=>E) (eH st) (tS E g)) :
  aV P w K mg base (bU P w) (k+1) f fd ps (Dx ps.length C (qh ps.length (xF N.length g C))):=by
 obtain⟨oc,od,kV,doc,pm,an,KY,ct,M9,rfl,lk,LP⟩:=F.ex
 exact w6 <| Cr lk LP S hN λA outer s H E hr=>hb KY A outer s H E hr (DZ rfl rfl)
section
variable{m:Nat}{fs:af->M (List PV)}{p pos:Pos}
theorem yq.make{sem:Addr->List PV->M (List (Str×PV))}(F:yq X.prog X.w X.K X.mg X.base C n x m Mh (qh m sem))(hr:bZ k X.A)(hn:n+1<=k)(hg:Gl X x)(O:eS X E)(ha:PA X (e::es) (tL E fs))(Lz:autoParam ((x==("__debug__" : Str))=false) aD._auto_1)(he:autoParam (starEach (e::es) X.env=(false,eval e X.env)::starEach es X.env) aR._auto_1)(K7:autoParam ((backTo pos (starEach es X.env)).any (·.1)=false) aR._auto_1) :
  PE X (.Call (.Name x p) (e::es) [] pos) (tE E (ai (dy C (qh m sem) Mh) fs)):=by
 obtain⟨f,fd,ps,ds,Lo,h1,h2,h4,h5,h6,h7⟩:=F.ex
 refine Cj (p:=p) h2 h7 (hr.mono hn) hg h1 h4 h5 h6 O (λa Mj hp=>?_) ha Lz he K7
 unfold qh cC at hp
 split at hp
 ·rename_i h;rwa [List.length_append] at h
 ·exact(hp rfl).elim
end
def uw:Addr->Option Bool:=λ_=>none
theorem u7{P:Addr->Bool->Prop}:∀ C b,uw C=some b->P C b:=λ_ _ h=>by cases h
theorem vr{pos:Pos}(i:Nat)(hN:autoParam (X.N[i]?=some x) aR._auto_1)(hv:Bn X.env.scope x:=by first | exact .inl rfl | exact .inr (.inl rfl) | exact .inr (.inr rfl))(hd:autoParam ((x==("__debug__" : Str))=false) aD._auto_1)(LP:autoParam ((x==("__classdict__" : Str))=false) aD._auto_1):PE X (.Name x pos) (tE E (ae i)):=Ew hN hv hd LP
theorem DW{env:Env}(h:(match e with | .Starred ..=>true | _=>false)=false):starEach (e::es) env=(false,eval e env)::starEach es env:=by
 cases e <;> first | rfl | cases h
def jt:List Expr->Option (List Int)
 | []=>some []
 | .Constant (.int i) _ _::r=>(jt r).map (i::·)
 | _=>none
section
variable{pos:Pos}
theorem vW:∀ {es:List Expr} {ns:List Int},jt es=some ns->PA X es (tL E λ_=>M.ok (ns.map PV.int))
 | [],_,h=>by cases h;exact yM
 | .Constant (.int i) j p::r,ns,h=>by
  obtain⟨ms,h1,rfl⟩:=Option.map_eq_some_iff.mp (show (jt r).map (i::·)=some ns from h)
  exact vz Al (vW h1) (DW rfl)
theorem mJ(ns:List Int)(h:autoParam (jt es=some ns) aR._auto_1)(hz:autoParam (ns.length<=1000) aD._auto_1):PE X (.List es pos) (tE E λ_=>M.ok (.lst (ns.map PV.int))):=by
 refine(yu (E:=E) (vW h)).imp fun σ H Q q=>?_
 have e:(oS λ_=>M.ok (ns.map PV.int))=λ_=>M.ok (.lst (ns.map PV.int)):=by
  funext env
  show cC _ _=_
  unfold cC
  rw[if_pos (by rw[List.length_map];exact Nat.le_trans hz (by decide))]
 rw[e];exact q
end
def ze:PV->PV->M (List PV)
 | .lst xs,.int k=>cC (-(2^63)<=k/\k<2^63/\xs.length*k.toNat<=sizeLine) (M.ok (List.replicate k.toNat xs).flatten)
 | _,_=>none
def FQ(f g:af->M PV):af->M (List PV):=λenv=>(f env).bind λp=>(g env).bind λq=>ze p q
section
variable{a b:Expr}{pos:Pos}{f g:af->M PV}
theorem Gg(ha:PE X a (tE E f))(hb:PE X b (tE E g)):PE X (.BinOp a .Mult b pos) (tO E (FQ f g)):=by
 refine(D5 y0 ha hb).imp fun σ H Q q=>cj (K:=KO Q) KO.gr q λB H₀ Hs H1 env p v sr rp hp=>?_
 refine⟨B,H₀,Hs,env,sr,(ay.bind hp).imp (λq hq u Kw H' g' ru=>?_) λe he=>he⟩
 have Mp:=sr.grow g'
 have rp':=rp.mono g'.st
 cases rp' with
 | @lst l xs vs ha hx=>cases ru with
  | int k =>
   obtain⟨⟨h1,h2,h3⟩,h⟩:=ay.cC hq
   exact⟨l,k,vs,rfl,rfl,Mp.gr.sub _ _ ha,h1,h2,by rw[← hx.length];exact h3,λp n=>h _ p Kw H' g' (hx.rep _) n⟩
  | _=>exact hq.elim
 | _=>exact hq.elim
end
structure wM (K:PySem.W.Frag) (mg:Str->Option Value) (C:Addr) (x:Str):Prop where
 hc:PySem.W.excIn K C eO "ValueError.__new__" = true
 c:h9 K C
 ht:PySem.W.typeIn K (.ref C)=some (.type "type")
 kp:PySem.W.keepIn K (.ref C)=true
 m:mg x=some (.ref C)
structure o6 (P:Program) (w:World) (K:PySem.W.Frag) (mg:Str->Option Value) (base:Heap) (C:Addr) (x fl:Str):Prop where
 ex:∃ (f:Addr) (fd:FuncData) (ps:List Str),og K C "ValueError.__new__" f=true/\PySem.W.isFn K (.ref f)=true/\aV P w K mg base (bU P w) 1 f fd ps (xV K C fl)/\Binds K fd ps []
 c:h9 K C
 ht:PySem.W.typeIn K (.ref C)=some (.type "type")
 kp:PySem.W.keepIn K (.ref C)=true
 m:mg x=some (.ref C)
section
variable{E:XK}{pos p:Pos}{fl:Str}{fs:af->M (List PV)}
theorem wM.raise(F:wM X.K X.mg C x)(O:eS X λ_=>E)(KC:X.calm=true)(hg:Gl X x)(ha:PA X (e::es) (tL (λ_=>E) fs))
  (Lz:autoParam ((x==("__debug__" : Str))=false) aD._auto_1) (he:autoParam (starEach (e::es) X.env=(false,eval e X.env)::starEach es X.env) aR._auto_1) (K7:autoParam ((backTo K2 (starEach es X.env)).any (·.1)=false) aR._auto_1) :
  PS X (.Raise (some (.Call (.Name x p) (e::es) [] K2)) none pos) (tS E (j6 C fs)):=xu O KC F.hc F.c F.ht F.kp hg F.m ha Lz he K7
theorem o6.raise(F:o6 X.prog X.w X.K X.mg X.base C x fl)(hr:bZ k X.A)(hn:2<=k)(O:eS X λ_=>E)(KC:X.calm=true)(hg:Gl X x)(ha:PA X [e] (tL (λ_=>E) fs))
  (Lz:autoParam ((x==("__debug__" : Str))=false) aD._auto_1) (he:autoParam (starEach [e] X.env=(false,eval e X.env)::starEach [] X.env) aR._auto_1) (K7:autoParam ((backTo K2 (starEach [] X.env)).any (·.1)=false) aR._auto_1) :
  PS X (.Raise (some (.Call (.Name x p) [e] [] K2)) none pos) (tS E (iN C fl fs)):=by
 obtain⟨f,fd,ps,h1,h2,h3,h4⟩:=F.ex
 exact xZ O KC h1 h2 F.c F.ht F.kp h3 (hr.mono hn) h4 hg F.m ha Lz he K7
end
section
variable{pos:Pos}
end
section
variable{cl:List (Str×Addr)}{pos:Pos}{wi:TI}{it:af->M (List PV)}{g:TG}{set:PV->af->M af}{f:af->M PV}{fs:List Str}
variable{E:XK}{py Mx:Pos}
theorem qW(KC:X.calm=true)
  (K5:closureFor scope X.env=pure cl) (hk:scope.kind=.function) (nc:fF scope.names=true) (lo:gQ scope.names=true) (fh:gT cl scope.names=true) (ag:eD X cl) (fr:hZ X scope cl fs js)
  (hi:PI X tg iter wi) (hv:wc (λ_=>E) wi it) (hg:∀ C s₀ H₀ ex Kt,PG (oP X scope cl (ts++fs) C s₀ H₀ ex Kt) tg g) (Nb:∀ E,Bm E g set) (so:lP set) (he:∀ C s₀ H₀ ex Kt,PE (oP X scope cl (ts++fs) C s₀ H₀ ex Kt) elt (tE EF f))
  (hN:X.N.Nodup) (hiy:X.N[i]?=some y) (hy:Loc X.env.scope y)
  (hs:autoParam (∀ x,foldedSetIterable iter X.env x=pure x) aI._auto_1) (N8:autoParam (swapsWith (.ListComp elt [⟨tg,iter,[],0⟩] scope pos) (some (.Name y py)) Mx.line X.env=pure true) aR._auto_1)
  (hf:autoParam (X.fn y=true\/X.env.scope.names.lookup y=some .local) aF._auto_1) :
  PS X (.Assign [.Name y py] (.ListComp elt [⟨tg,iter,[],0⟩] scope pos) Mx) (tS E (bo i (dw (cO it set none f ts.length js)))):=by
 refine(Bu hN hiy hy KC K5 hk nc lo fh ag fr hi hg he hs N8 hf).imp λD σ H q=>?_
 refine sS hv Nb so ?_
 obtain⟨B,H₀,Hs,env,sr,q⟩:=q
 refine⟨B,H₀,Hs,env,sr,(ay.bind (ay.bind q)).imp (λps hp vs p Kw H' g r n=>?_) λe he=>he.grow sr.gr⟩
 have gn:=bF.new (o:=.lst vs) g.sub n
 exact hp _ _ _ ((sr.grow (g.trans gn)).set (.lst aw (r.mono gn.st)))
end
section
variable{a:Expr}{ta:TA}{p pos:Pos}
end
section
variable{fs:af->M (List PV)}{a:Expr}{p p2 pos pos2:Pos}
end
section
open AutoSeq1 (wpAny_loadPart')
theorem wK(l:Addr)(items:Array Value)(n:Nat)(dct:Option Addr)(sl:Array (Option Value)) :
  Meets (Builtin.«enumerate.__new__» ⟨[.type "enumerate", .ref l],[]⟩) (λ_ R s=>s.heap.get? l=some { cls:=.type "tuple", dict:=dct,data:=.seq items n,slots:=sl } ∧
   R (.ok (.ret (.ref (s.heap.push { cls:=.type "tuple_iterator", data:=.fields #[.ref l,.int 0 0] }).objs.size)))
    { s with heap:=(s.heap.push { cls:=.type "tuple_iterator", data:=.fields #[.ref l,.int 0 0] }).push { cls:=.type "enumerate", data:=.fields #[.none,.bool false,.ref s.heap.objs.size,rawInt 0,.none,.none] } }) :=
 .of_wp λprog w A R s h=>by
  obtain⟨hp,g,d,tk,os⟩:=s;obtain⟨hl,h⟩:=h
  have N7:=sub_enumerate
  have hL:Heap.IsTuple (Shared.heap ⟨hp,g,d,tk,os⟩) l items:=⟨_,hl,rfl,n,rfl⟩
  wp_walk using wpAny_loadPart' hl
  refine wpAny_stack_any λst=>wpAny_pure ?_
  split
  ·rename_i c _ _ _ _ _
   cases (c==Value.type "enumerate")
   ·wp_walk using wpAny_loadPart' hl,wpAny_pyIter_tuple hL
    exact⟨_,rfl,h⟩
   ·wp_walk using wpAny_loadPart' hl,wpAny_pyIter_tuple hL
    exact⟨_,rfl,h⟩
  ·wp_walk using wpAny_loadPart' hl,wpAny_pyIter_tuple hL
   exact⟨_,rfl,h⟩
section
variable{E:Value->Shared->Prop}
theorem uO(hL:s.heap.IsTuple l items)
  (h:∀ h',IsEnum h' (s.heap.objs.size+1) s.heap.objs.size 0 .none->h'.IsTupleIter s.heap.objs.size l 0->h'.objs.size=s.heap.objs.size+2 ->
   (∀ b o,s.heap.get? b=some o->h'.get? b=some o)->Q (.ref (s.heap.objs.size+1)) { s with heap:=h' }) :
  wpAny (model prog w) A (call (.type "enumerate") [.ref l]) Q E s:=by
 obtain⟨⟨c,dct,dt,sl⟩,hl,hc,n,hd⟩:=hL
 replace hc:c=.type "tuple" := hc
 replace hd:dt=.seq items n:=hd
 subst hc hd
 refine callType_new F.called_enumerate (by decide) (F.typeCall_enumerate_1 _) (F.newCall_enumerate_1 _) (λobj=>F.args_object_init_2 obj _) F.entry_enumerate_new
  (wK l items n dct sl) ⟨hl,?_⟩
 have hz:(s.heap.push { cls:=.type "tuple_iterator", data:=.fields #[.ref l,.int 0 0] }).objs.size=s.heap.objs.size+1:=Heap.size_push ..
 show _/\_
 rw[hz]
 have he:IsEnum ((s.heap.push { cls:=.type "tuple_iterator", data:=.fields #[.ref l,.int 0 0] }).push
   { cls:=.type "enumerate", data:=.fields #[.none,.bool false,.ref s.heap.objs.size,rawInt 0,.none,.none] }) (s.heap.objs.size+1) s.heap.objs.size 0 .none:=by
  have:=Heap.get?_push_size (s.heap.push { cls:=.type "tuple_iterator", data:=.fields #[.ref l,.int 0 0] })
   (o:={ cls:=.type "enumerate", data:=.fields #[.none,.bool false,.ref s.heap.objs.size,rawInt 0,.none,.none] }) rfl
  rw[hz] at this;exact this
 refine⟨⟨_,he,rfl⟩,h _ he ⟨_,Heap.get?_push_of_some _ (Heap.get?_push_size _ rfl),rfl,rfl⟩ (by rw[Heap.size_push,hz]) λb o x=>Heap.get?_push_of_some _ (Heap.get?_push_of_some _ x)⟩
end
theorem FK(hh:A.handled=none)(it t:Addr)(items:Array Value) :
  Draws prog w A it [it,t] items.size (λi v=>items[i]?=some v) (λi h=>h.IsTupleIter it t i/\h.IsTuple t items) where
 live:=λ_ _ st=>let ⟨⟨o,ho,_⟩,_⟩:=st;⟨o,ho⟩
 frame:=λ_ _ _ st hk=>by
  obtain⟨⟨o,ho,r⟩,⟨o2,ML,r2⟩⟩:=st
  exact⟨⟨o,hk it (by simp) o ho,r⟩,⟨o2,hk t (by simp) o2 ML,r2⟩⟩
 item:=λi s Q E hi st hQ=>by
  obtain⟨st,tt⟩:=st
  refine gK st tt (x:=items[i]) (by simp[hi]) λh' Nz NN=>?_
  refine hQ _ h' s.toks (by simp[hi]) ⟨Nz,?_⟩ NN
  obtain⟨o,ho,c1,_⟩:=st
  obtain⟨o2,ML,c2,r2⟩:=tt
  refine⟨o2,(NN.2 t λz=>?_).trans ML,c2,r2⟩
  rw[z,ho] at ML;cases ML
  rw[c1] at c2;exact absurd c2 (by decide)
 done:=λs Q E st hE=>eU hh st.1 st.2 (by simp) hE
def ER (K : PySem.W.Frag) (a : Addr) : It :=
  ⟨λi H => ∃ xs x, gu K H a xs /\ xs[i]? = some x,
   λi H y H' => ∃ p x, H p = none /\ y = .ref p /\ H' = upd H p (.tup [.int i, x]) /\ ∀ xs, gu K H a xs -> xs[i]? = some x,
   λi H => ∃ xs, gu K H a xs /\ xs.length <= i⟩
theorem uS{K:PySem.W.Frag}{tp:Pos}(a e it:Addr)(ME:e≠it):Turn P w K (.Tuple elts x1 tp) (ER K a) [e,it] e (λi h=>(∃ old,IsEnum h e it i old)/\h.IsTupleIter it a i) where
 mem:=by simp
 obj:=λi h st b hb=>by
  obtain⟨⟨old,he⟩,⟨o,e1,c,d⟩⟩:=st
  rcases List.mem_cons.mp hb with z | z
  ·subst z
   exact⟨_,he,λv z=>by cases z⟩
  ·have z':b=it:=by simpa using z
   subst z'
   exact⟨o,e1,λv z=>by rw[d] at z;cases z⟩
 keep:=λi h h' st k=>by
  obtain⟨⟨old,he⟩,⟨o,ho,r⟩⟩:=st
  exact⟨⟨old,k e (by simp) _ he⟩,⟨o,k it (by simp) o ho,r⟩⟩
 item:=by
  intro X hP hw hK hc i Kt s σ H E I hf st hg
  subst hP hw hK
  obtain⟨xs,x,hq,hx⟩:=hg
  obtain⟨Kv,rv,p,hz⟩:=I.tuple hq
  obtain⟨u,hu,ru⟩:=rv.get hx
  obtain⟨⟨old,he⟩,hit⟩:=st
  have MU:e<s.heap.objs.size:=Heap.lt_size he
  have Ny:it<s.heap.objs.size:=by obtain⟨_,z,_⟩:=hit;exact Heap.lt_size z
  have hea:e ∉ [it,a]:=λz=>by
   rcases List.mem_cons.mp z with z | z
   ·exact ME z
   ·obtain⟨o,ho,c,_⟩:=p
    rw[← List.mem_singleton.mp z,he] at ho
    cases ho;exact absurd (show Value.type "enumerate" = Value.type "tuple" from c) (by decide)
  have NM:i<Kv.toArray.size:=by
   have:=(List.getElem?_eq_some_iff.mp hu).1
   simpa using this
  refine wpAny_pyNext_enum_itemD (FK (A:=X.A.in1) (I.ok.hd hc) it a Kv.toArray) he ⟨hit,p⟩ NM ME hea λu' h' tk hu' ho K4 hT Mb hk=>⟨_,rfl,?_⟩
  have eu:u'=u:=by
   rw[List.getElem?_toArray,hu] at hu';exact(Option.some.inj hu').symm
  subst eu
  refine wpAny_letOwnedTupleGo_enum (s:={ s with heap:=h',toks:=tk+1 }) ho λh2 he2 LY=>?_
  have M3:∀ b o,b ∉ [e,it]->s.heap.get? b=some o->h2.get? b=some o:=λb o hb q=>by
   have n1:b≠e:=λz=>hb (by simp[z])
   have n2:b≠it:=λz=>hb (by simp[z])
   exact(LY.2 b n1).trans (hk b o n1 n2 q)
  have Ng:h2.get? s.heap.objs.size=some { cls:=.type "tuple", data:=.seq #[.int i tk,u'] }:=(LY.2 _ (Nat.ne_of_gt MU)).trans hT
  have I2:Inv X Kt σ (upd H s.heap.objs.size (.tup [.int i,x])) { s with heap:=h2,toks:=tk+1 } :=
   I.ju (ch:=[e,it]) M3 hf (Nat.le_refl _) (λb hb=>by
    rcases List.mem_cons.mp hb with z | z
    ·subst z;exact⟨_,he⟩
    ·have z':b=it:=by simpa using z
     subst z'
     obtain⟨o,z,_⟩:=hit
     exact⟨o,z⟩)
    ⟨by show 2<=sizeLine;decide,[.int i tk,u'],.cons ⟨_,rfl⟩ (.cons ru .nil),⟨_,Ng,rfl,_,rfl⟩⟩
  have LX:H s.heap.objs.size=none:=I.bC.fresh (Nat.le_refl _)
  obtain⟨oi,hoi,ri⟩:=K4.1
  refine⟨.ref s.heap.objs.size,_,I2,rfl,⟨_,x,LX,rfl,rfl,λys hy=>by rw[I.lE hy hq];exact hx⟩,⟨⟨u',by simpa using he2⟩,⟨oi,(LY.2 it (Ne.symm ME)).trans hoi,ri⟩⟩,λb hb=>?_⟩
  have nb:b≠s.heap.objs.size:=by
   rcases List.mem_cons.mp hb with z | z
   ·rw[z];exact Nat.ne_of_lt MU
   ·have z':b=it:=by simpa using z
    rw[z'];exact Nat.ne_of_lt Ny
  rw[ak nb]
  exact(hf b hb).1
 done:=by
  intro X hP hw hK hc i Kt s σ H E I hf st hg
  subst hP hw hK
  obtain⟨xs,hq,hx⟩:=hg
  obtain⟨Kv,rv,p,hz⟩:=I.tuple hq
  have hl:=rv.length
  obtain⟨⟨old,he⟩,hit⟩:=st
  obtain⟨f0,f1,f2,f3,f4,f5⟩:=hf it (by simp)
  have hT:s.TypeIs (.ref e) "enumerate" := ⟨_,he,rfl⟩
  unfold pyNext
  refine wpAny_bind (wpAny_attempt (wpAny_callSpecial?_slot (name:=Str.ofString "__next__") hT F.slot_enumerate_next
   (wpAny_call_entry F.slot_enumerate_next hT F.entry_enumerate_next ?_ (F.args_enumerate_next_1 _))))
  show wpAny _ _ (field (.ref e) 2 >>= _) _ _ _
  refine wpAny_bind (wpAny_field he rfl (x:=.ref it) rfl ?_)
  refine wpAny_bind (eU (I.ok.hd hc) hit p (by simp;omega) λh' x he' hx'=>?_)
  obtain⟨o,ho,Ni⟩:=hx'
  refine wpAny_bind (wpAny_isInstance (T := "StopIteration") (b:=true) ⟨o,ho,Ni⟩ isSubtype_stop ?_)
  exact wpAny_pure ⟨rfl,I.turned (t':=s.toks) (λb o hb e=>he' b o hb e) f0 f1 f3 f4 f5⟩
 self:=λ_ _ _ _ _ st h=>by
  obtain⟨⟨old,he⟩,_⟩:=st
  exact wpAny_pyIter_enum he h
def G0(K:PySem.W.Frag)(tl:TA):TI:=fun σ H R=>tl σ H λvs H1=>∃ a,vs=[.ref a]/\(((∃ xs,f9 K H1 a xs)/\R (F1 K a) H1)\/((∃ xs,gu K H1 a xs)/\R (ER K a) H1))
theorem lJ{tp:Pos}{l:Expr}{p pos:Pos}(hg:Gl X "enumerate")(hm:X.mg "enumerate" = none)(hl:PA X [l] tl)(hs:autoParam (starEach [l] X.env=[(false,eval l X.env)]) aR._auto_1) :
  PI X (.Tuple elts x1 tp) (.Call (.Name "enumerate" p) [l] [] pos) (G0 X.K tl):=by
 intro Kt s σ H R I h
 refine Call_ (ix I hg hm PyProof.Rows.boot_enumerate (PyProof.Rows.callWith_type1 (cJ (hl pos Kt s σ H _ I h) λus s1 ⟨vs,H1,I1,r1,q1⟩=>?_) hs rfl))
 obtain⟨a,e,q⟩:=q1
 subst e
 cases r1 with
 | cons r rr =>
  cases rr
  cases (show _=Value.ref a from r)
  have fp:∀ b∈[s1.heap.objs.size+1,s1.heap.objs.size],kC X Kt H1 b:=λb hb=>by
   rcases List.mem_cons.mp hb with z | z
   ·subst z
    exact I1.qY (Nat.le_succ _) (I1.bC.fresh (Nat.le_succ _))
   ·have z':b=s1.heap.objs.size:=by simpa using z
    subst z'
    exact I1.qY (Nat.le_refl _) (I1.bC.fresh (Nat.le_refl _))
  rcases q with ⟨⟨xs,hq⟩,q⟩ | ⟨⟨xs,hq⟩,q⟩
  ·obtain⟨Kv,rv,pl,hz⟩:=I1.list hq
   refine call_enumerate_list pl.isList λh' he hit Mb hk=>?_
   refine wpAny_pyIter_enum (s:={ s1 with heap:=h' }) he ?_
   exact⟨s1.heap.objs.size+1,[s1.heap.objs.size+1,s1.heap.objs.size],_,_,H1,rfl,I1.kept (t':=s1.toks) hk,xm a _ _ (Nat.succ_ne_self _),⟨⟨_,he⟩,hit⟩,fp,q⟩
  ·obtain⟨Kv,rv,pl,hz⟩:=I1.tuple hq
   refine uO pl λh' he hit Mb hk=>?_
   refine wpAny_pyIter_enum (s:={ s1 with heap:=h' }) he ?_
   exact⟨s1.heap.objs.size+1,[s1.heap.objs.size+1,s1.heap.objs.size],_,_,H1,rfl,I1.kept (t':=s1.toks) hk,uS a _ _ (Nat.succ_ne_self _),⟨⟨_,he⟩,hit⟩,fp,q⟩
def IH(p:PV):M (List PV):=match bR p with
 | some xs=>M.ok (gH xs)
 | none=>none
def Bp:List PV->M (List PV)
 | [p]=>IH p
 | _=>none
section
variable{K:PySem.W.Frag}{fs:af->M (List PV)}
theorem A8(hq:∀ Kw H',bf KN Kw->bf Kw H'->gu K H' a vs)(hr:aM KN xs vs):jd (ER K a) KN (gH xs) where
 stop:=λi Hs H s1 s2 hi=>by
  unfold gH at hi
  rw[List.length_mapIdx,hr.length] at hi
  exact⟨vs,hq Hs H s1 s2,hi⟩
 go:=λi Hs H s1 s2 hi=>by
  unfold gH at hi
  rw[List.length_mapIdx] at hi
  obtain⟨v,e,_⟩:=hr.get (List.getElem?_eq_getElem hi)
  exact⟨vs,v,hq Hs H s1 s2,e⟩
 rL:=λi Hs H x H2 s1 s2 hi y=>by
  unfold gH at hi
  rw[List.length_mapIdx] at hi
  obtain⟨v,e,r⟩:=hr.get (List.getElem?_eq_getElem hi)
  obtain⟨pa,v',hn,rfl,rfl,y1⟩:=y
  have z1:=y1 vs (hq Hs H s1 s2)
  rw[e] at z1;cases z1
  have gr:=bF.new (o:=.tup [.int (i:Nat),v]) s2 hn
  refine⟨.tup [.int (i:Nat),xs[i]],_,?_,gr,.tup aw (.cons (.int _) (.cons ((r.mono s1).mono gr.st) .nil))⟩
  unfold gH
  rw[List.getElem?_mapIdx,List.getElem?_eq_getElem hi]
  rfl
theorem jz:wc E (G0 K (tL E fs)) (kn Bp fs):=by
 intro σ H R q
 refine dc (K:=KI R) KI.g q λB H₀ Hs H1 env ps v sr rp hp=>?_
 match ps,rp,hp with
 | [],_,hp=>exact hp.elim
 | _::_::_,_,hp=>exact hp.elim
 | [p],rp,hp =>
  obtain⟨w,rfl,Ml⟩:=rp.one
  cases Ml with
  | lst ha hx=>exact⟨_,rfl,.inl ⟨⟨_,f9.of (sr.gr.sub _ _ ha)⟩,hp _ Hs H1 (.refl sr.gr.sub) (pS (λKw H' s1 s2=>f9.of (s2 _ _ (s1 _ _ ha))) hx)⟩⟩
  | iU ha hx=>exact⟨_,rfl,.inl ⟨⟨_,.inl (.inr ⟨_,sr.gr.sub _ _ ha⟩)⟩,hp _ Hs H1 (.refl sr.gr.sub) (pS (λKw H' s1 s2=>.inl (.inr ⟨_,s2 _ _ (s1 _ _ ha)⟩)) hx)⟩⟩
  | tup ha hx=>exact⟨_,rfl,.inr ⟨⟨_,gu.of (sr.gr.sub _ _ ha)⟩,hp _ Hs H1 (.refl sr.gr.sub) (A8 (λKw H' s1 s2=>gu.of (s2 _ _ (s1 _ _ ha))) hx)⟩⟩
  | _=>exact hp.elim
end
end
section
variable{pos:Pos}{f:af->M PV}
end
section
variable{pos:Pos}{f:af->M PV}
end
section
variable{M_:List (Addr×Obj)}{ea:Addr}
end
section
variable{B:Hp}{ea:Addr}{E:XK}{env:af}{fo:Option (List (Str×PV))}{D:Ends}{F:Value->Shared->Prop}
end
section
variable{pos p px pt:Pos}{f:af->M PV}{ys ns yo no:List Addr}
end
section
variable{pos:Pos}{f g:af->M PV}
def DI:List V->Hp->VK->Prop:=λxs H Q=>∃ b,xs=[.bl b]/\Q (.int (if b then 1 else 0)) H
theorem xP:dz X (.type "int") DI:=by
 intro Kt s σ H xs us Q I r h
 obtain⟨b,rfl,q⟩:=h
 obtain⟨u,rfl,rx⟩:=vals1 r
 cases rx
 exact call_int_bool ⟨.int _,H,I.kept (t':=s.toks+1) λ_ _ z=>z,⟨_,rfl⟩,q⟩
def HW:PV->M PV
 | .bl b=>M.ok (.int (if b then 1 else 0))
 | _=>none
def vQ:List PV->M PV
 | [p]=>HW p
 | _=>none
theorem CI:jZ E DI vQ:=by
 intro σ Hs H ps vs Q s rp h
 match ps,rp,h with
 | [],_,h=>exact h.elim
 | _::_::_,_,h=>exact h.elim
 | [p],rp,h =>
  obtain⟨w,rfl,Ml⟩:=rp.one
  cases Ml with
  | bl b=>exact⟨b,rfl,dR.flat h s (.int _)⟩
  | _=>exact h.elim
end
section
open PySem PySem.Spec PyProof.Rows _root_.HT
section
variable{E:Value->Shared->Prop}
theorem kS{t sl:Addr}{vl vu:Value}{lo hi:Option Int}(ht:IsTup s.heap t items)(hs:s.heap.IsSliceOf sl vl vu .none)(pl:IsPart vl lo)(pu:IsPart vu hi)
  (hw:de items.size 0 lo=0/\de items.size items.size hi=items.size) (h:Q (.ref t) s):wpAny (model prog w) A (getItem (.ref t) (.ref sl)) Q E s:=by
 obtain⟨os,NB,hcs,NY⟩:=id hs
 have hTs:s.TypeIs (.ref sl) "slice" := ⟨os,NB,hcs⟩
 unfold getItem
 try with_reducible refine wpAny_holding ?_
 first | refine wpAny_bind (wpAny_pure ?_) | skip
 refine wpAny_bind (wpAny_sequenceKey ht.typeIs (by decide) ?_)
 refine wpAny_bind (wpAny_callSpecial?_slot (name:=Str.ofString "__getitem__") ht.typeIs PyProof.Rows.slot_tuple_getitem
  (wpAny_call_entry PyProof.Rows.slot_tuple_getitem ht.typeIs entry_tuple_getitem ?_ (args_tuple_getitem _ _)))
 show wpAny _ _ (Builtin.Tuple.tupleItemsOf (.ref t) >>= _) _ _ s
 refine wpAny_bind (tupleItemsOf_ ht ?_)
 refine wpAny_bind (wpAny_typeOf hTs ?_)
 rw[if_pos (by decide)]
 refine wpAny_bind (hX hs pl pu ?_)
 have hyes:(((de items.size 0 lo:Nat):Int)==0&&(1:Int)==1&&(de items.size items.size hi-de items.size 0 lo)==items.size)=true:=by
  rw[hw.1,hw.2];simp
 show wpAny _ _ (if (((de items.size 0 lo:Nat):Int)==0&&(1:Int)==1&&(de items.size items.size hi-de items.size 0 lo)==items.size)=true then _ else _) _ _ s
 rw[if_pos hyes]
 unfold Builtin.Tuple.tupleIsExact
 refine wpAny_bind (wpAny_bind (wpAny_typeOf ht.typeIs (wpAny_pure ?_)))
 rw[if_pos (show ((Value.type "tuple" == Value.type "tuple")=true) from beq_self_eq_true _)]
 refine wpAny_bind (wpAny_rule ?_)
 first
  | exact wpAny_bind (wpAny_pure (wpAny_pure ⟨_,rfl,wpAny_pure h⟩))
  | exact wpAny_bind (wpAny_pure ⟨_,rfl,wpAny_pure h⟩)
  | exact wpAny_pure ⟨_,rfl,wpAny_pure h⟩
end
section
variable{lo hi:Option Expr}{pos p2:Pos}{f:af->M PV}{gl gh:af->M (Option Int)}
def Iw(K:PySem.W.Frag):V->Option Int->Option Int->Hp->VK->Prop:=λx lo hi H Q=>∃ a xs,x=.ref a/\gu K H a xs/\(de xs.length 0 lo=0/\de xs.length xs.length hi=xs.length)/\Q (.ref a) H
theorem De:Bl X (Iw X.K):=by
 intro Kt s σ H x v vl vu lo hi sl Q I rx hs pl pu h
 obtain⟨a,xs,rfl,hx,hw,q⟩:=h
 cases rx
 obtain⟨Kv,r,ht,hz⟩:=I.tuple hx
 have hlen:Kv.toArray.size=xs.length:=by rw[List.size_toArray];exact r.length.symm
 refine⟨"tuple", _,PyProof.Rows.slot_tuple_getitem.lookup,ht.typeIs,?_⟩
 exact kS ht hs pl pu (by rw[hlen];exact hw) ⟨.ref a,H,I,rfl,q⟩
def HL(p:PV)(lo hi:Option Int):M PV:=match p with
 | .tup xs=>M.ok (.tup (oU xs lo hi))
 | .lst xs=>M.ok (.lst (oU xs lo hi))
 | .iU xs=>M.ok (.lst (oU xs lo hi))
 | _=>none
def nZ(f:af->M PV)(lo hi:af->M (Option Int)):af->M PV:=λenv=>(f env).bind λp=>(lo env).bind λl=>(hi env).bind λh=>HL p l h
theorem pH(he:PE X e (tE E f))(hl:PO X lo (Jn E gl))(hh:PO X hi (Jn E gh)):PE X (.Subscript e (.Slice lo hi none p2) pos) (tE E (nZ f gl gh)):=by
 refine(zq (Bl.or En (Bl.or De CA)) he hl hh).imp fun σ H Q q=>cj (K:=jR Q) jR.g q λB H₀ Hs H1 env p v sr rp hp=>?_
 refine⟨B,H₀,Hs,env,sr,(ay.bind hp).imp (λl hl KH H2 g2=>?_) λe he=>he⟩
 have Li:=sr.grow g2
 refine⟨B,H₀,KH,env,Li,(ay.bind hl).imp (λh hh L9 H3 g3=>?_) λe he=>he.grow g2⟩
 have My:=Li.grow g3
 have hz:ay (HL p l h) (dR L9 H3 Q) (λ_=>True):=hh.imp (λz hz w Nd H4 g4 r=>hz w Nd H4 ((g2.trans g3).trans g4) r) λ_ _=>trivial
 have rp3:=(rp.mono g2.st).mono g3.st
 cases rp3 with
 | @tup a xs vs ha hx =>
  by_cases hn:de xs.length 0 l=0/\de xs.length xs.length h=xs.length
  ·refine .inr (.inl ⟨_,_,rfl,gu.of (My.gr.sub _ _ ha),by rw[← hx.length];exact hn,?_⟩)
   have e:oU xs l h=xs:=by
    unfold oU;rw[hn.1,hn.2,List.drop_zero,Nat.sub_zero,List.take_length]
   have MM:dR L9 H3 Q (.tup xs):=by
    have z:dR L9 H3 Q (.tup (oU xs l h)):=hz
    rw[e] at z;exact z
   exact dR.flat MM My.gr.sub (.tup ha hx)
  ·exact .inl ⟨_,_,rfl,gu.of (My.gr.sub _ _ ha),by rw[← hx.length];exact hn,dR.tup hz My.gr.sub (hx.cut l h)⟩
 | lst ha hx=>exact .inr (.inr ⟨_,_,rfl,f9.of (My.gr.sub _ _ ha),dR.lst hz My.gr.sub (hx.cut l h)⟩)
 | iU ha hx=>exact .inr (.inr ⟨_,_,rfl,.inl (.inr ⟨_,My.gr.sub _ _ ha⟩),dR.lst hz My.gr.sub (hx.cut l h)⟩)
 | _=>exact hz.elim
end
end
section
variable{pos:Pos}{g:af->M PV}{fs:af->M (List PV)}{L:List (Addr×(List PV->M PV))}{K:PySem.W.Frag}
end
section
open PySem.SeqAt (shaped EqAt RcAt RcNeAt)
section
variable{b:Addr}
end
end
end L2
namespace HT
open PySem PyProof.Rows
variable{E:Value->Shared->Prop}{A:Around}{w:World}{prog:Program}
section
variable{a b v:Value}{k:Bool}{I S ax:Addr}{t:Shared}{n:Nat}{R:Result->Shared->Prop}
end
section
open PySem.SeqAt
open PySem.AutoSeq1 (wpAny_loadPart')
open PySem.MeetsSeq PySem.MeetsSeq2 PySem.MeetsSeq3
end
section
variable{s:Shared}
end
end HT
namespace L2
open PySem PySem.Spec PyProof.Rows
variable{X:Cx}
section
variable{E:St->XK}
end
variable{js:List Nat}{f:af->M PV}{it:af->M (List PV)}{wi:TI}{scope:Scope}
variable{y:Str}{i:Nat}{E:XK}
section
variable{tg elt iter c:Expr}{cl:List (Str×Addr)}{pos:Pos}{g:TG}{set:PV->af->M af}{ts fs:List Str}
variable{py Mx:Pos}
end
variable{u:af->M Bool}
section
variable{tg elt iter c:Expr}{cl:List (Str×Addr)}{pos:Pos}{g:TG}{set:PV->af->M af}{ts fs:List Str}
variable{py Mx:Pos}
end
variable{α β γ:Type}
theorem BC(x:M α)(f:α->M β)(g:β->M γ):(x.bind f).bind g=x.bind λa=>(f a).bind g:=by
 cases x with
 | none=>rfl
 | some y=>cases y <;> rfl
variable{σ:St}
theorem SR.forget{B H₀ Hs H:Hp}{env:af}(r:SR B H₀ Hs H σ env):SR B H₀ Hs H σ (env.set i none):=by
 have key:∀ (j:Nat) (q:SV),(env.set i none)[j]?=some (some q)->env[j]?=some (some q):=λj q e=>by
  rw[List.getElem?_set] at e
  by_cases z:i=j
  ·rw[if_pos z] at e
   split at e <;> cases e
  ·rw[if_neg z] at e;exact e
 exact⟨r.gr,by rw[List.length_set];exact r.len,λj q e=>r.sh j q (key j _ e),λj xs e=>r.ow j xs (key j _ e),λj k xs ys a n e1 e2=>r.sep j k xs ys a n (key j _ e1) (key k _ e2),λj a C fs e=>r.bd j a C fs (key j _ e),λj k a b C D fs gs e1 e2=>r.one j k a b C D fs gs (key j _ e1) (key k _ e2)⟩
variable{w:Option V}
theorem SR.over{B H₀ Hs H:Hp}{env:af}(r:SR B H₀ Hs H σ env)(n:env[i]?=some none):SR B H₀ Hs H (σ.set i w) env:=by
 have old:∀ (j:Nat) (q:SV),env[j]?=some (some q)->(σ.set i w)[j]?=σ[j]?:=λj q e=>by
  rw[List.getElem?_set,if_neg]
  intro z
  rw[← z,n] at e
  cases e
 refine⟨r.gr,by rw[List.length_set];exact r.len,λj q e=>?_,λj xs e=>?_,λj k xs ys a n' e1 e2=>?_,λj a C fs e=>?_,r.one⟩
 ·rw[old j _ e];exact r.sh j q e
 ·rw[old j _ e];exact r.ow j xs e
 ·rw[old j _ e1,old k _ e2];exact r.sep j k xs ys a n' e1 e2
 ·rw[old j _ e];exact r.bd j a C fs e
variable{a:Addr}
theorem SR.lay{B H₀ Hs H:Hp}{env:af}{o:HO}(r:SR B H₀ Hs H σ env)(n:i_ env)(h:H a=some o)(h1:Hs a=none)(h2:H₀ a=none):SR B H₀ (upd Hs a o) H σ env:=by
 have st:bf Hs (upd Hs a o):=λc u q=>by rw[ak (λz=>by rw[z,h1] at q;cases q)];exact q
 refine⟨⟨λc u q=>st c u (r.gr.st c u q),r.gr.al,λc u q=>?_,λc u q1 q2=>?_⟩,r.len,λj q e=>?_,λj xs e=>(n.ow e).elim,λj k xs ys a _ e=>(n.ow e).elim,λj a C fs e=>(n.bd e).elim,λj k a b C D fs gs e=>(n.bd e).elim⟩
 ·by_cases z:c=a
  ·subst z;rw[aw] at q;rw[h,q]
  ·rw[ak z] at q;exact r.gr.sub c u q
 ·rw[ak (λz=>by rw[z,h2] at q2;cases q2)];exact r.gr.nw c u q1 q2
 ·obtain⟨v,e1,e2⟩:=r.sh j q e
  exact⟨v,e1,e2.mono st⟩
def zK(env:af):Bool:=env.all λo=>match o with
 | some (.ow _)=>false
 | some (.bd _ _ _)=>false
 | _=>true
theorem y_{env:af}(h:zK env=true):i_ env:=λi x e=>by
 have:=List.all_eq_true.mp h (some x) (List.mem_of_getElem? e)
 cases x with
 | sh p=>exact⟨p,rfl⟩
 | ow xs=>cases this
 | bd a C fs=>cases this
theorem rT{env:af}(n:i_ env):i_ (env.set i none):=λj x e=>by
 rw[List.getElem?_set] at e
 by_cases z:i=j
 ·rw[if_pos z] at e
  split at e <;> cases e
 ·rw[if_neg z] at e;exact n j x e
def Ci(fi fv:af->M PV)(e:af)(xs ys:List PV):M (List PV×List PV):=(fi e).bind λk=>match k with
 | .int 0=>if xs.length<8 then (fv e).bind λv=>M.ok (xs++[v],ys) else M.ok (xs,ys)
 | .int 1=>if ys.length<8 then (fv e).bind λv=>M.ok (xs,ys++[v]) else M.ok (xs,ys)
 | _=>none
def vg(ic:Nat)(fi fv:af->M PV):List PV->af->List PV->List PV->M (af×List PV×List PV)
 | [],e,xs,ys=>M.ok (e,xs,ys)
 | p::r,e,xs,ys=>(Ci fi fv (e.set ic (some (.sh p))) xs ys).bind λz=>vg ic fi fv r (e.set ic (some (.sh p))) z.1 z.2
def Em(iL:Nat)(z:af×List PV×List PV):M Out:=M.ok (.nx (z.1.set iL (some (.sh (.lst [.lst z.2.1,.lst z.2.2])))))
def G5(iL iS ic:Nat)(it:af->M (List PV))(fi fv:af->M PV)(env:af):M Out :=
 cC (zK env=true/\iL<env.length/\iS<env.length) ((it ((env.set iL none).set iS none)).bind λxs=>(vg ic fi fv xs ((env.set iL none).set iS none) [] []).bind (Em iL))
def EA(iL iS ic:Nat)(it:af->M (List PV))(fi fv:af->M PV)(g:af->M Out):af->M Out:=ar (G5 iL iS ic it fi fv) g
structure Tw (iL iS:Nat) (a b0 b1:Addr) (B H₀ Hs H:Hp) (σ:St) (env:af) (xs ys:List PV) (vs ws:List V):Prop where
 sr:SR B H₀ Hs H σ env
 no:i_ env
 sl:σ[iL]?=some (some (.ref a))
 nL:env[iL]?=some none
 nS:env[iS]?=some none
 ha:H a=some (.lst [.ref b0,.ref b1])
 h0:H b0=some (.lst vs)
 h1:H b1=some (.lst ws)
 sa:Hs a=none
 s0:Hs b0=none
 s1:Hs b1=none
 oa:H₀ a=none
 o0:H₀ b0=none
 o1:H₀ b1=none
 d0:a≠b0
 d1:a≠b1
 d2:b0≠b1
 rx:aM Hs xs vs
 ry:aM Hs ys ws
variable{xs:List PV}
variable{v:V}{p:PV}
section
variable{iL iS ic:Nat}{b0 b1:Addr}{B H₀ Hs H:Hp}{env:af}{ys:List PV}{vs ws:List V}
theorem Tw.grow{Kw H':Hp}(t:Tw iL iS a b0 b1 B H₀ Hs H σ env xs ys vs ws)(g:bF Hs H Kw H'):Tw iL iS a b0 b1 B H₀ Kw H' σ env xs ys vs ws :=
 ⟨t.sr.grow g,t.no,t.sl,t.nL,t.nS,g.al _ _ t.ha,g.al _ _ t.h0,g.al _ _ t.h1,g.nw _ _ t.sa t.ha,g.nw _ _ t.s0 t.h0,g.nw _ _ t.s1 t.h1,t.oa,t.o0,t.o1,t.d0,t.d1,t.d2,t.rx.mono g.st,t.ry.mono g.st⟩
theorem Tw.item(t:Tw iL iS a b0 b1 B H₀ Hs H σ env xs ys vs ws)(r:Rep Hs p v)(n1:ic≠iL)(n2:ic≠iS):Tw iL iS a b0 b1 B H₀ Hs H (σ.set ic (some v)) (env.set ic (some (.sh p))) xs ys vs ws :=
 ⟨t.sr.set r,iO t.no,by rw[List.getElem?_set,if_neg n1];exact t.sl,by rw[List.getElem?_set,if_neg n1];exact t.nL,by rw[List.getElem?_set,if_neg n2];exact t.nS,t.ha,t.h0,t.h1,t.sa,t.s0,t.s1,t.oa,t.o0,t.o1,t.d0,t.d1,t.d2,t.rx,t.ry⟩
theorem Tw.pick(t:Tw iL iS a b0 b1 B H₀ Hs H σ env xs ys vs ws)(n:iS≠iL):Tw iL iS a b0 b1 B H₀ Hs H (σ.set iS w) env xs ys vs ws :=
 ⟨t.sr.over t.nS,t.no,by rw[List.getElem?_set,if_neg n];exact t.sl,t.nL,t.nS,t.ha,t.h0,t.h1,t.sa,t.s0,t.s1,t.oa,t.o0,t.o1,t.d0,t.d1,t.d2,t.rx,t.ry⟩
theorem Tw.Je(t:Tw iL iS a b0 b1 B H₀ Hs H σ env xs ys vs ws)(r:Rep Hs p v):Tw iL iS a b0 b1 B H₀ Hs (upd H b0 (.lst (vs++[v]))) σ env (xs++[p]) ys (vs++[v]) ws :=
 ⟨t.sr.lN t.no t.s0 t.o0,t.no,t.sl,t.nL,t.nS,by rw[ak t.d0];exact t.ha,aw,by rw[ak t.d2.symm];exact t.h1,t.sa,t.s0,t.s1,t.oa,t.o0,t.o1,t.d0,t.d1,t.d2,t.rx.snoc r,t.ry⟩
theorem Tw.Ju(t:Tw iL iS a b0 b1 B H₀ Hs H σ env xs ys vs ws)(r:Rep Hs p v):Tw iL iS a b0 b1 B H₀ Hs (upd H b1 (.lst (ws++[v]))) σ env xs (ys++[p]) vs (ws++[v]) :=
 ⟨t.sr.lN t.no t.s1 t.o1,t.no,t.sl,t.nL,t.nS,by rw[ak t.d1];exact t.ha,by rw[ak t.d2];exact t.h0,aw,t.sa,t.s0,t.s1,t.oa,t.o0,t.o1,t.d0,t.d1,t.d2,t.rx,t.ry.snoc r⟩
theorem Tw.fin(t:Tw iL iS a b0 b1 B H₀ Hs H σ env xs ys vs ws):∃ Kw,SR B H₀ Kw H σ (env.set iL (some (.sh (.lst [.lst xs,.lst ys])))):=by
 have r0:=t.sr.lay t.no t.h0 t.s0 t.o0
 have r1:=r0.lay t.no t.h1 (by rw[ak t.d2.symm];exact t.s1) t.o1
 have r2:=r1.lay t.no t.ha (by rw[ak t.d1,ak t.d0];exact t.sa) t.oa
 have m0:bf Hs (upd Hs b0 (.lst vs)):=λc u q=>by rw[ak (λz=>by rw[z,t.s0] at q;cases q)];exact q
 have m1:bf (upd Hs b0 (.lst vs)) (upd (upd Hs b0 (.lst vs)) b1 (.lst ws)):=λc u q=>by rw[ak (λz=>by rw[z,ak t.d2.symm,t.s1] at q;cases q)];exact q
 have m2:bf (upd (upd Hs b0 (.lst vs)) b1 (.lst ws)) (upd (upd (upd Hs b0 (.lst vs)) b1 (.lst ws)) a (.lst [.ref b0,.ref b1])):=λc u q=>by rw[ak (λz=>by rw[z,ak t.d1,ak t.d0,t.sa] at q;cases q)];exact q
 have rep:Rep (upd (upd (upd Hs b0 (.lst vs)) b1 (.lst ws)) a (.lst [.ref b0,.ref b1])) (.lst [.lst xs,.lst ys]) (.ref a) :=
  .lst aw (.cons (.lst (by rw[ak t.d0.symm,ak t.d2,aw]) (((t.rx.mono m0).mono m1).mono m2)) (.cons (.lst (by rw[ak t.d1.symm,aw]) (((t.ry.mono m0).mono m1).mono m2)) .nil))
 have:=r2.set (i:=iL) rep
 have e:σ.set iL (some (.ref a))=σ:=by
  refine List.ext_getElem? λj=>?_
  rw[List.getElem?_set]
  split
  ·rename_i z;subst z
   rw[t.sl]
   split
   ·rfl
   ·rename_i h
    have:=List.getElem?_eq_none (Nat.le_of_not_lt h)
    rw[t.sl] at this;cases this
  ·rfl
 rw[e] at this
 exact⟨_,this⟩
end
def Jf(K:PySem.W.Frag)(iL iS:Nat)(ti tv:TE):TS:=Cb (zB (FH (Jr K) (C6 iL) ti) (aO iS)) (Cb (Hb (DC (FH (vh λi j=>.bl (decide (i<j))) (Ii (Au K) (sX (C6 iS) uM)) (tC (.int 8)))) (Cb (Dl (J1 K "list" vG (C6 iS) (sX tv uM))) vE) vE) vE)
section
variable{st1 Na:Stmt}{rest:List Stmt}{iL iS ic:Nat}{fi fv:af->M PV}{g:af->M Out}
theorem BM(h1:PS X st1 (zB (B5 (sX (B5 uM) (sX (B5 uM) uM))) (aO iL)))(h2:PS X Na (Hy wi (aO ic) (Jf X.K iL iS (tE (λ_=>E) fi) (tE (λ_=>E) fv))))(hv:wc (λ_=>E) wi it)(n1:ic≠iL)(n2:ic≠iS)(n3:iS≠iL)(h3:kj X rest (tS E g)):kj X (st1::Na::rest) (tS E (EA iL iS ic it fi fv g)):=by
 refine(ij h1 (ij h2 h3)).imp λD σ H q=>?_
 obtain⟨B,H₀,Hs,env,sr,q⟩:=q
 have q:=ay.bind q
 obtain⟨⟨no,lL,lS⟩,q⟩:=ay.cC q
 have no:=y_ no
 have q:=ay.bind q
 refine⟨Nat.zero_le _,λb0 e0=>⟨Nat.zero_le _,λb1 e1=>⟨by show 2<=sizeLine;decide,λa ea=>?_⟩⟩⟩
 have z:∀ c:Addr,H c=none->Hs c=none/\H₀ c=none:=λc h=>by
  constructor
  ·cases y:Hs c with
   | none=>rfl
   | some o =>
    have:=sr.gr.sub _ _ y
    rw[h] at this
    cases this
  ·cases y:H₀ c with
   | none=>rfl
   | some o =>
    have:=sr.gr.al _ _ y
    rw[h] at this
    cases this
 have d2:b0≠b1:=λy=>by rw[← y,aw] at e1;cases e1
 have Nf:H b1=none:=by rw[ak d2.symm] at e1;exact e1
 have d1:a≠b1:=λy=>by rw[y,aw] at ea;cases ea
 rw[ak d1] at ea
 have d0:a≠b0:=λy=>by rw[y,aw] at ea;cases ea
 rw[ak d0] at ea
 have t0:Tw iL iS a b0 b1 B H₀ Hs (upd (upd (upd H b0 (.lst [])) b1 (.lst [])) a (.lst [.ref b0,.ref b1])) (σ.set iL (some (.ref a))) ((env.set iL none).set iS none) [] [] [] []:=by
  have nn:i_ ((env.set iL none).set iS none):=rT (rT no)
  have gL:((env.set iL none).set iS none)[iL]?=some none:=by rw[List.getElem?_set,if_neg n3,List.getElem?_set,if_pos rfl,if_pos (by simpa using lL)]
  have gS:((env.set iL none).set iS none)[iS]?=some none:=by rw[List.getElem?_set,if_pos rfl,if_pos (by simpa using lS)]
  exact⟨(((((sr.forget (i:=iL)).forget (i:=iS)).over gL).lN nn (z b0 e0).1 (z b0 e0).2).lN nn (z b1 Nf).1 (z b1 Nf).2).lN nn (z a ea).1 (z a ea).2,nn,by rw[List.getElem?_set,if_pos rfl,if_pos (by rw[sr.len];exact lL)],gL,gS,aw,by rw[ak d0.symm,ak d2,aw],by rw[ak d1.symm,aw],(z a ea).1,(z b0 e0).1,(z b1 Nf).1,(z a ea).2,(z b0 e0).2,(z b1 Nf).2,d0,d1,d2,.nil,.nil⟩
 refine hv _ _ _ ⟨B,H₀,Hs,_,t0.sr,q.imp (λitems hp J Kw H' gr ok=>?_) λe he=>he.grow t0.sr.gr⟩
 let Jt:Nat->St->Hp->Prop:=λi σ H=>∃ Hs env xs ys vs ws,Tw iL iS a b0 b1 B H₀ Hs H σ env xs ys vs ws/\bf Kw Hs/\ay ((vg ic fi fv (items.drop i) env xs ys).bind (Em iL)) (λo=>ay (wC g o) (KS D B H₀) (XW E B H₀)) (XW E B H₀)
 refine⟨λi m σ H=>m=items.length-i/\i<=items.length/\Jt i σ H,⟨items.length,by simp,Nat.zero_le _,Kw,_,[],[],[],[],t0.grow gr,λ_ _ z=>z,hp⟩,?_⟩
 rintro i m σ' H2 ⟨rfl,hi,KH,env2,xs,ys,vs,ws,t2,s2,h2⟩
 by_cases Lr:i<items.length
 ·refine .inr ⟨ok.go i KH H2 s2 t2.sr.gr.sub Lr,Jt (i+1),fun σ3 H3 j=>⟨items.length-(i+1),by omega,rfl,Lr,j⟩,λx H3 y=>?_⟩
  obtain⟨p,L9,ep,g3,r3⟩:=ok.rL i KH H2 x H3 s2 t2.sr.gr.sub Lr y
  have hd:items.drop i=p::items.drop (i+1):=by
   rw[List.drop_eq_getElem_cons Lr]
   rw[List.getElem?_eq_getElem Lr] at ep
   rw[Option.some.inj ep]
  rw[hd,vg,BC] at h2
  have h2:=ay.bind h2
  have t3:=(t2.grow g3).item (ic:=ic) r3 n1 n2
  have s3:bf Kw L9:=λc u e=>g3.st c u (s2 c u e)
  refine⟨.ref a,t3.sl,B,H₀,L9,_,t3.sr,(ay.bind h2).imp (λk hk v Nd H4 g4 r4=>?_) λe he=>he.grow t3.sr.gr⟩
  have t4:=t3.grow g4
  have s4:bf Kw Nd:=λc u e=>g4.st c u (s3 c u e)
  have len:iS<(σ'.set ic (some x)).length:=by
   rw[t4.sr.len]
   exact(List.getElem?_eq_some_iff.mp t4.nS).1
  cases r4 with
  | int j =>
   by_cases j0:j=0
   ·subst j0
    refine .inl ⟨a,[.ref b0,.ref b1],0,.ref b0,rfl,rfl,f9.of t4.ha,rfl,?_⟩
    have t5:=t4.pick (w:=some (.ref b0)) n3
    have gs:((σ'.set ic (some x)).set iS (some (.ref b0)))[iS]?=some (some (.ref b0)):=by rw[List.getElem?_set,if_pos rfl,if_pos len]
    refine⟨.ref b0,gs,.inl ⟨b0,vs,rfl,.inl (f9.of t5.h0),vs.length,8,rfl,rfl,_,rfl,?_⟩⟩
    have el:xs.length=vs.length:=t5.rx.length
    by_cases hz:xs.length<8
    ·have hk:=(if_pos hz▸hk:ay ((fv _).bind λv=>M.ok _) _ _)
     rw[decide_eq_true (show (vs.length:Int)<8 by omega)]
     show ite (true=true) _ _
     rw[if_pos rfl]
     refine⟨.ref b0,gs,.inl ⟨rfl,vs,f9.of t5.h0⟩,B,H₀,Nd,_,t5.sr,(ay.bind hk).imp (λp hp v MN H5 g5 r5=>?_) λe he=>he.grow t5.sr.gr⟩
     exact⟨b0,vs,v,rfl,rfl,(t5.grow g5).h0,Nat.lt_of_lt_of_le (show vs.length<8 by omega) (by decide),MN,_,_,_,_,_,(t5.grow g5).Je r5,λc u e=>g5.st c u (s4 c u e),hp⟩
    ·have hk:=(if_neg hz▸hk:ay (M.ok _) _ _)
     rw[decide_eq_false (show ¬ (vs.length:Int)<8 by omega)]
     show ite (false=true) _ _
     rw[if_neg (by decide)]
     exact⟨Nd,_,_,_,_,_,t5,s4,hk⟩
   by_cases j1:j=1
   ·subst j1
    refine .inl ⟨a,[.ref b0,.ref b1],1,.ref b1,rfl,rfl,f9.of t4.ha,rfl,?_⟩
    have t5:=t4.pick (w:=some (.ref b1)) n3
    have gs:((σ'.set ic (some x)).set iS (some (.ref b1)))[iS]?=some (some (.ref b1)):=by rw[List.getElem?_set,if_pos rfl,if_pos len]
    refine⟨.ref b1,gs,.inl ⟨b1,ws,rfl,.inl (f9.of t5.h1),ws.length,8,rfl,rfl,_,rfl,?_⟩⟩
    have el:ys.length=ws.length:=t5.ry.length
    by_cases hz:ys.length<8
    ·have hk:=(if_pos hz▸hk:ay ((fv _).bind λv=>M.ok _) _ _)
     rw[decide_eq_true (show (ws.length:Int)<8 by omega)]
     show ite (true=true) _ _
     rw[if_pos rfl]
     refine⟨.ref b1,gs,.inl ⟨rfl,ws,f9.of t5.h1⟩,B,H₀,Nd,_,t5.sr,(ay.bind hk).imp (λp hp v MN H5 g5 r5=>?_) λe he=>he.grow t5.sr.gr⟩
     exact⟨b1,ws,v,rfl,rfl,(t5.grow g5).h1,Nat.lt_of_lt_of_le (show ws.length<8 by omega) (by decide),MN,_,_,_,_,_,(t5.grow g5).Ju r5,λc u e=>g5.st c u (s4 c u e),hp⟩
    ·have hk:=(if_neg hz▸hk:ay (M.ok _) _ _)
     rw[decide_eq_false (show ¬ (ws.length:Int)<8 by omega)]
     show ite (false=true) _ _
     rw[if_neg (by decide)]
     exact⟨Nd,_,_,_,_,_,t5,s4,hk⟩
   ·split at hk
    ·rename_i e;cases e;exact(j0 rfl).elim
    ·rename_i e;cases e;exact(j1 rfl).elim
    ·exact hk.elim
  | _=>exact hk.elim
 ·refine .inl ⟨ok.stop i KH H2 s2 t2.sr.gr.sub (by omega),?_⟩
  rw[List.drop_eq_nil_of_le (by omega)] at h2
  obtain⟨MN,sr5⟩:=t2.fin
  exact⟨B,H₀,MN,_,sr5,h2⟩
end
variable{x0:Option SV}
variable{k:Nat}
variable{j:Int}
variable{body:af->M Out}
variable{n:Nat}
section
open PySem.SeqAt (shaped noMix noMixAll)
theorem M.aE(a:α)(f:α->M β):M.bind (M.ok a) f=f a:=Eq.trans rfl rfl
theorem M.yV(e:EX)(f:α->M β):M.bind (some (Except.error e)) f=some (.error e):=Eq.trans rfl rfl
theorem M.bind_none(f:α->M β):M.bind none f=none:=Eq.trans rfl rfl
theorem M.bind_some(a:α)(f:α->M β):M.bind (some (Except.ok a)) f=f a:=Eq.trans rfl rfl
theorem M.bind_assoc(x:M α)(f:α->M β)(g:β->M γ):M.bind (M.bind x f) g=M.bind x λa=>M.bind (f a) g:=by
 cases x with
 | none=>rfl
 | some x=>cases x <;> rfl
theorem av{c:Prop}[Decidable c]{x:M α}(h:c):cC c x=x:=if_pos h
theorem Fp(a:α):Gy (M.ok a)=M.ok a:=Eq.trans rfl rfl
theorem xJ(x:PV):eZ (some x)=M.ok x:=Eq.trans rfl rfl
theorem sW(g:af->M Out)(env:af):wC g (.nx env)=g env:=Eq.trans rfl rfl
theorem tW(g:af->M Out)(p:PV):wC g (.rt p)=M.ok (.rt p):=Eq.trans rfl rfl
theorem BK(b:Bool):vo (.bl b)=M.ok b:=Eq.trans rfl rfl
theorem BR(p:PV):E8 (.rt p)=M.ok p:=Eq.trans rfl rfl
theorem CV(e:af):E8 (.nx e)=M.ok .cy:=Eq.trans rfl rfl
def tI(xs:List Int):PV:=.tup (xs.map PV.int)
def lI(xs:List Int):PV:=.lst (xs.map PV.int)
theorem Bs(xs:List Int):bR (tI xs)=some (xs.map PV.int):=Eq.trans rfl rfl
theorem C9(xs:List Int):bR (lI xs)=some (xs.map PV.int):=Eq.trans rfl rfl
theorem Ab(xs:List PV):bR (.tup xs)=some xs:=Eq.trans rfl rfl
theorem rZ(xs:List PV):bR (.lst xs)=some xs:=Eq.trans rfl rfl
theorem zc(xs:List PV):bR (.iU xs)=some xs:=Eq.trans rfl rfl
theorem Br(xs:List Int):qN (tI xs)=M.ok (.int xs.length):=by simp[qN,tI,bR,eZ]
theorem BN(xs:List Int):qN (lI xs)=M.ok (.int xs.length):=by simp[qN,lI,bR,eZ]
theorem yt(xs:List PV):qN (.tup xs)=M.ok (.int xs.length):=Eq.trans rfl rfl
theorem A3(xs:List PV):qN (.lst xs)=M.ok (.int xs.length):=Eq.trans rfl rfl
theorem Am(xs:List PV):qN (.iU xs)=M.ok (.int xs.length):=Eq.trans rfl rfl
theorem Aq(xs:List Int):ym [.lst (xs.map PV.int)]=M.ok (.int xs.sum):=by simp[ym,Hl,pN,eZ]
theorem rS(xs:List Bool):rW [.lst (xs.map PV.bl)]=M.ok (.bl (xs.all id)):=by simp[rW,all1,tY,eZ]
theorem gX{inj h:α->PV}{rest:af}(xs:List α)(H:∀ a∈xs,f (some (.sh (inj a))::rest)=M.ok (h a)):bP (bW 0) none f (xs.map inj) (x0::rest)=M.ok (xs.map h):=by
 induction xs generalizing x0 with
 | nil=>rfl
 | cons a r ih =>
  rw[List.map_cons,bP]
  show M.bind (M.ok ((x0::rest).set 0 (some (.sh (inj a))))) _=_
  rw[M.aE,List.set_cons_zero]
  show M.bind (f _) _=_
  rw[H a List.mem_cons_self,M.aE,ih λb hb=>H b (List.mem_cons_of_mem _ hb)]
  rfl
theorem kf{p q h:α->PV}{rest:af}{x1:Option SV}(xs:List α)(H:∀ a∈xs,f (some (.sh (p a))::some (.sh (q a))::rest)=M.ok (h a)):bP (cP 0 1) none f (xs.map λa=>.tup [p a,q a]) (x0::x1::rest)=M.ok (xs.map h):=by
 induction xs generalizing x0 x1 with
 | nil=>rfl
 | cons a r ih =>
  rw[List.map_cons,bP]
  show M.bind (M.ok (((x0::x1::rest).set 0 (some (.sh (p a)))).set 1 (some (.sh (q a))))) _=_
  rw[M.aE,List.set_cons_zero,List.set_cons_succ,List.set_cons_zero]
  show M.bind (f _) _=_
  rw[H a List.mem_cons_self,M.aE,ih λb hb=>H b (List.mem_cons_of_mem _ hb)]
  rfl
theorem EW{p q s h:α->PV}{rest:af}{x1 x2:Option SV}(xs:List α)(H:∀ a∈xs,f (some (.sh (p a))::some (.sh (q a))::some (.sh (s a))::rest)=M.ok (h a)):bP (pK 0 1 2) none f (xs.map λa=>.tup [p a,q a,s a]) (x0::x1::x2::rest)=M.ok (xs.map h):=by
 induction xs generalizing x0 x1 x2 with
 | nil=>rfl
 | cons a r ih =>
  rw[List.map_cons,bP]
  show M.bind (M.ok ((((x0::x1::x2::rest).set 0 (some (.sh (p a)))).set 1 (some (.sh (q a)))).set 2 (some (.sh (s a))))) _=_
  rw[M.aE,List.set_cons_zero,List.set_cons_succ,List.set_cons_zero,List.set_cons_succ,List.set_cons_succ,List.set_cons_zero]
  show M.bind (f _) _=_
  rw[H a List.mem_cons_self,M.aE,ih λb hb=>H b (List.mem_cons_of_mem _ hb)]
  rfl
theorem ip{f:α->PV}{g:β->PV}{q:PV}(xs:List α)(ys:List β)(hp:bR p=some (xs.map f))(hq:bR q=some (ys.map g)):zip2 [p,q]=M.ok ((xs.zip ys).map λz=>.tup [f z.1,g z.2]):=by
 simp only[zip2,hp,hq]
 congr 2
 rw[List.zipWith_map,List.zip_eq_zipWith,List.map_zipWith]
theorem Bi{f:α->PV}{g:β->PV}{h:γ->PV}{q r:PV}(xs:List α)(ys:List β)(zs:List γ)(hp:bR p=some (xs.map f))(hq:bR q=some (ys.map g))(hr:bR r=some (zs.map h)):w_ [p,q,r]=M.ok ((xs.zip (ys.zip zs)).map λz=>.tup [f z.1,g z.2.1,h z.2.2]):=by
 simp only[w_,hp,hq,hr]
 congr 2
 clear hp hq hr
 induction xs generalizing ys zs with
 | nil=>cases ys <;> cases zs <;> rfl
 | cons a r ih =>
  cases ys with
  | nil=>rfl
  | cons b s =>
   cases zs with
   | nil=>rfl
   | cons c t=>simp only[List.map_cons,iW,List.zip_cons_cons,ih]
theorem xU{f:α->PV}(xs:List α):gH (xs.map f)=(xs.zipIdx).map λz=>.tup [.int (z.2:Int),f z.1]:=by
 unfold gH
 rw[List.mapIdx_eq_zipIdx_map,List.zipIdx_map,List.map_map]
 rfl
theorem sM{set:PV->af->M af}{body:af->M Out}{α:Type}{inj:α->PV}(J:List α->af->Prop)
  (H:∀ a r env,J (a::r) env->∃ e' Ky,set (inj a) env=M.ok e'/\body e'=M.ok (.nx Ky)/\J r Ky):∀ (xs:List α) (env:af),J xs env->∃ Ky,jc set body (xs.map inj) env=M.ok (.nx Ky)/\J [] Ky
 | [],env,h=>⟨env,rfl,h⟩
 | a::r,env,h=>by
  obtain⟨e',Ky,h1,h2,h3⟩:=H a r env h
  obtain⟨MO,h4,h5⟩:=sM J H r Ky h3
  refine⟨MO,?_,h5⟩
  rw[List.map_cons,jc,h1,M.aE,h2,M.aE]
  exact h4
theorem xw{b:af->M Out}(J:af->Prop)(m:af->Nat)
  (H:∀ env,J env->(u env=M.ok false)\/(u env=M.ok true/\∃ Ky,b env=M.ok (.nx Ky)/\J Ky/\m Ky<m env)) (env:af) (h:J env):∃ Ky,n8 u b env=M.ok (.nx Ky)/\J Ky/\u Ky=M.ok false:=by
 have key:∀ (n:Nat) (env:af),J env->m env<n->∃ Ky,cD u b n env=M.ok (.nx Ky)/\J Ky/\u Ky=M.ok false:=by
  intro n
  induction n with
  | zero=>intro env _ hn;omega
  | succ n ih =>
   intro env h hn
   rcases H env h with hu | ⟨hu,Ky,hb,hj,hm⟩
   ·exact⟨env,by rw[cD,hu,M.aE];rfl,h,hu⟩
   ·obtain⟨MO,h1,h2,h3⟩:=ih Ky hj (by omega)
    exact⟨MO,by rw[cD,hu,M.aE,if_pos rfl,hb,M.aE];exact h1,h2,h3⟩
 obtain⟨Ky,h1,h2,h3⟩:=key (m env+1) env h (Nat.lt_succ_self _)
 refine⟨Ky,?_,h2,h3⟩
 rw[xc (n:=m env+1) (by rw[h1];exact λz=>nomatch z),h1]
theorem log2_small{i:Int}(h:i.natAbs<2^k)(hk:k<=9000):i.natAbs.log2<67108864:=by
 by_cases z:i.natAbs=0
 ·rw[z];decide
 ·have:=(Nat.log2_lt z).mpr h
  omega
theorem bj{i:Int}{l:Nat}(hi:i.natAbs<2^k)(hj:j.natAbs<2^l)(hk:autoParam (k<=9000) aD._auto_1)(hl:autoParam (l<=9000) aD._auto_1):ck (.int i) (.int j)=M.ok (.int (i*j)):=by
 rw[ck,av ⟨log2_small hi hk,log2_small hj hl⟩]
theorem qa{i:Int}(h0:j≠0)(h:j.natAbs<2^9000):bB (.int i) (.int j)=M.ok (.int (i.fdiv j)):=by
 show cC _ _=_
 refine av (decide_eq_true ⟨h0,(Nat.log2_lt (by omega)).mpr h⟩)
theorem yX{i:Int}(h0:j≠0):cQ (.int i) (.int j)=M.ok (.int (i.fmod j)):=by
 show cC _ _=_
 exact av (decide_eq_true h0)
theorem aL{i:Int}(h0:0<j)(h:j<2^64):bB (.int i) (.int j)=M.ok (.int (i/j)):=by
 rw[qa (by omega) (Nat.lt_of_lt_of_le (show j.natAbs<2^64 by omega) (Nat.pow_le_pow_right (by decide) (by decide))),Int.fdiv_eq_ediv_of_nonneg _ (by omega)]
theorem aP{i:Int}(h0:0<j):cQ (.int i) (.int j)=M.ok (.int (i%j)):=by
 rw[yX (by omega),Int.fmod_eq_emod_of_nonneg _ (by omega)]
theorem bw{j:Nat}{x:PV}(hs:bR p=some xs)(h:xs[j]?=some x):aQ p (.int (j:Int))=M.ok x:=by
 cases p with
 | tup ys=>cases hs;simp only[aQ,rF h,eZ]
 | lst ys=>cases hs;simp only[aQ,rF h,eZ]
 | iU ys=>cases hs;simp only[aQ,rF h,eZ]
 | _=>cases hs
section
variable{b:String->Bool}{ob oe:Addr->Option Bool}
theorem F_(xs:List Int):Ak b ob oe (tI xs)=M.ok (.bl (b "tuple")):=Eq.trans rfl rfl
theorem FU(xs:List Int):Ak b ob oe (lI xs)=M.ok (.bl (b "list")):=Eq.trans rfl rfl
theorem BX(xs:List PV):Ak b ob oe (.tup xs)=M.ok (.bl (b "tuple")):=Eq.trans rfl rfl
theorem Cn(xs:List PV):Ak b ob oe (.lst xs)=M.ok (.bl (b "list")):=Eq.trans rfl rfl
theorem Ct(i:Int):Ak b ob oe (.int i)=M.ok (.bl (b "int")):=Eq.trans rfl rfl
theorem D6(i:Bool):Ak b ob oe (.bl i)=M.ok (.bl (b "bool")):=Eq.trans rfl rfl
theorem Dc:Ak b ob oe .cy=M.ok (.bl (b "NoneType")):=Eq.trans rfl rfl
theorem B0(x:Str):Ak b ob oe (.str x)=M.ok (.bl (b "str")):=Eq.trans rfl rfl
theorem CN:Ak b ob oe .emp=M.ok (.bl (b "dict")):=Eq.trans rfl rfl
end
theorem CT(i j:Int):qi (.int i) (.int j)=M.ok (.bl (!decide (i=j))):=by
 simp only[qi,pC,dat,FX,shaped,PyData.canLay0,PyData.depth,noMix]
 rw[av ⟨rfl,rfl,trivial⟩]
 unfold same
 rw[M.aE];congr
theorem Cq(i j:Int):rN (.int i) (.int j)=M.ok (.bl (decide (i=j))):=by
 simp only[rN,pC,dat,FX,shaped,PyData.canLay0,PyData.depth,noMix]
 rw[av ⟨rfl,rfl,trivial⟩]
 unfold same
 rw[M.aE];congr
theorem Fy(i j:Bool):qi (.bl i) (.bl j)=M.ok (.bl (!decide (i=j))):=by
 simp only[qi,pC,dat,FX,shaped,PyData.canLay0,PyData.depth,noMix]
 rw[av ⟨rfl,rfl,trivial⟩]
 unfold same
 rw[M.aE];congr
theorem FP(i j:Bool):rN (.bl i) (.bl j)=M.ok (.bl (decide (i=j))):=by
 simp only[rN,pC,dat,FX,shaped,PyData.canLay0,PyData.depth,noMix]
 rw[av ⟨rfl,rfl,trivial⟩]
 unfold same
 rw[M.aE];congr
theorem p8(xs:List Int):lr (xs.map PV.int)=some (xs.map PyData.int):=by
 induction xs with
 | nil=>rfl
 | cons a r ih=>simp[lr,dat,ih]
theorem l8(xs:List Int):PyData.canLayAll0 (xs.map PyData.int)=true:=by
 induction xs with
 | nil=>rfl
 | cons a r ih=>simp[PyData.canLayAll0,PyData.canLay0,ih]
theorem n9(xs:List Int):PyData.depthAll (xs.map PyData.int)=0:=by
 induction xs with
 | nil=>rfl
 | cons a r ih=>simp[PyData.depthAll,PyData.depth,ih]
theorem noMix_ints:∀ (xs ys:List Int),noMixAll (xs.map PyData.int) (ys.map PyData.int)=true
 | [],[]=>by simp[noMixAll]
 | [],_::_=>by simp[noMixAll]
 | _::_,[]=>by simp[noMixAll]
 | a::r,b::s=>by simp[noMixAll,noMix,noMix_ints r s]
theorem same_ints:∀ (xs ys:List Int),sameAll (xs.map PyData.int) (ys.map PyData.int)=decide (xs=ys)
 | [],[]=>by simp[sameAll]
 | [],_::_=>by simp[sameAll]
 | _::_,[]=>by simp[sameAll]
 | a::r,b::s=>by
  simp only[List.map_cons,sameAll,same_ints r s]
  unfold same
  rw[Bool.eq_iff_iff];simp
theorem xQ(xs:List (List Int)):lr (xs.map tI)=some (xs.map λr=>.tuple (r.map PyData.int)):=by
 induction xs with
 | nil=>rfl
 | cons a r ih=>simp[lr,dat,tI,p8] at ih ⊢;simp[ih]
theorem t8(xs:List (List Int)):PyData.canLayAll0 (xs.map λr=>.tuple (r.map PyData.int))=true:=by
 induction xs with
 | nil=>rfl
 | cons a r ih=>simp[PyData.canLayAll0,PyData.canLay0,ih,l8]
theorem nU(xs:List (List Int)):PyData.depthAll (xs.map λr=>.tuple (r.map PyData.int))<=1:=by
 induction xs with
 | nil=>exact Nat.zero_le _
 | cons a r ih=>simp[PyData.depthAll,PyData.depth,n9,ih]
theorem mW:∀ (xs ys:List (List Int)),noMixAll (xs.map λr=>.tuple (r.map PyData.int)) (ys.map λr=>.tuple (r.map PyData.int))=true
 | [],[]=>by simp[noMixAll]
 | [],_::_=>by simp[noMixAll]
 | _::_,[]=>by simp[noMixAll]
 | a::r,b::s=>by simp[noMixAll,noMix,noMix_ints,mW r s]
theorem pI:∀ (xs ys:List (List Int)),sameAll (xs.map λr=>.tuple (r.map PyData.int)) (ys.map λr=>.tuple (r.map PyData.int))=decide (xs=ys)
 | [],[]=>by simp[sameAll]
 | [],_::_=>by simp[sameAll]
 | _::_,[]=>by simp[sameAll]
 | a::r,b::s=>by
  simp only[List.map_cons,sameAll,pI r s]
  unfold same
  rw[same_ints,Bool.eq_iff_iff];simp
theorem qZ(xs ys:List Int):qi (tI xs) (tI ys)=M.ok (.bl (!decide (xs=ys))):=by
 simp only[qi,pC,dat,tI,p8,Option.map_some,FX]
 rw[av (by simp[shaped,PyData.canLay0,PyData.depth,l8,n9,noMix,noMix_ints])]
 unfold same
 rw[same_ints];rfl
theorem yC(xs ys:List (List Int)):rN (.tup (xs.map tI)) (.tup (ys.map tI))=M.ok (.bl (decide (xs=ys))):=by
 simp only[rN,pC,dat,xQ,Option.map_some,FX]
 have h1:=nU xs
 have h2:=nU ys
 rw[av (by simp[shaped,PyData.canLay0,PyData.depth,t8,noMix,mW];omega)]
 unfold same
 rw[pI];rfl
theorem Cp(i j:Int):Cs (.int i) (.int j)=M.ok (.bl (decide (i<j))):=Eq.trans rfl rfl
theorem BL(i j:Int):BQ (.int i) (.int j)=M.ok (.bl (decide (i<=j))):=Eq.trans rfl rfl
theorem CO(i j:Int):DE (.int i) (.int j)=M.ok (.bl (decide (j<i))):=Eq.trans rfl rfl
theorem BJ(i j:Int):Gw (.int i) (.int j)=M.ok (.bl (decide (j<=i))):=Eq.trans rfl rfl
theorem zT(i j:Int):dF (.int i) (.int j)=M.ok (.int (i+j)):=Eq.trans rfl rfl
theorem zz(i j:Int):mf (.int i) (.int j)=M.ok (.int (i-j)):=Eq.trans rfl rfl
theorem gf{n:Int}(h:0<=n)(h2:n<2^62):m_ [.int n]=M.ok ((List.range n.toNat).map λ(i:Nat)=>.int (i:Int)):=by
 show cC (-(2^62)<=n/\n<2^62) _=_
 rw[av (by omega)]
 simp
theorem eP{set:PV->af->M af}{inj:α->PV}{k:Out->M β}{r:M β}(xs:List α)(J:List α->af->Prop){env:af}(h:J xs env)
  (H:∀ a r env,J (a::r) env->∃ e' Ky,set (inj a) env=M.ok e'/\body e'=M.ok (.nx Ky)/\J r Ky) (hk:∀ Ky,J [] Ky->k (.nx Ky)=r):M.bind (jc set body (xs.map inj) env) k=r:=by
 obtain⟨Ky,e,h'⟩:=sM J H xs env h
 rw[e,M.aE];exact hk Ky h'
theorem aT(h:n<=1000):n<=sizeLine:=Nat.le_of_lt (lK h)
def tupK(ps:List PV):M PV:=cC (ps.length<=sizeLine) (M.ok (.tup ps))
def lstK(ps:List PV):M PV:=cC (ps.length<=sizeLine) (M.ok (.lst ps))
theorem CH(fs:af->M (List PV))(env:af):j4 fs env=(fs env).bind tupK:=rfl
theorem Cm(fs:af->M (List PV))(env:af):oS fs env=(fs env).bind lstK:=rfl
theorem El:tupK []=M.ok (.tup []):=av (aT (show 0<=1000 by decide))
theorem FC:lstK []=M.ok (.lst []):=av (aT (show 0<=1000 by decide))
theorem Gb(a:PV):tupK [a]=M.ok (.tup [a]):=av (aT (show 1<=1000 by decide))
theorem FZ(a:PV):lstK [a]=M.ok (.lst [a]):=av (aT (show 1<=1000 by decide))
theorem Fm(a b:PV):tupK [a,b]=M.ok (.tup [a,b]):=av (aT (show 2<=1000 by decide))
theorem Ej(a b:PV):lstK [a,b]=M.ok (.lst [a,b]):=av (aT (show 2<=1000 by decide))
theorem EC(a b c:PV):tupK [a,b,c]=M.ok (.tup [a,b,c]):=av (aT (show 3<=1000 by decide))
theorem Fs(a b c:PV):lstK [a,b,c]=M.ok (.lst [a,b,c]):=av (aT (show 3<=1000 by decide))
theorem Ez(a b c d:PV):tupK [a,b,c,d]=M.ok (.tup [a,b,c,d]):=av (aT (show 4<=1000 by decide))
theorem Ep(a b c d:PV):lstK [a,b,c,d]=M.ok (.lst [a,b,c,d]):=av (aT (show 4<=1000 by decide))
theorem F2(a b c d e:PV):tupK [a,b,c,d,e]=M.ok (.tup [a,b,c,d,e]):=av (aT (show 5<=1000 by decide))
theorem ES(a b c d e:PV):lstK [a,b,c,d,e]=M.ok (.lst [a,b,c,d,e]):=av (aT (show 5<=1000 by decide))
theorem FV(a b c d e f:PV):tupK [a,b,c,d,e,f]=M.ok (.tup [a,b,c,d,e,f]):=av (aT (show 6<=1000 by decide))
theorem E7(a b c d e f:PV):lstK [a,b,c,d,e,f]=M.ok (.lst [a,b,c,d,e,f]):=av (aT (show 6<=1000 by decide))
end
def ky(m:M α)(Q:α->Prop):Prop:=∃ a,m=M.ok a/\Q a
section
variable{Q Q':α->Prop}{m:M α}
theorem ky.eq{a:α}(h:ky m λx=>x=a):m=M.ok a:=by obtain⟨b,e,rfl⟩:=h;exact e
def Tn(J:af->Prop)(B:af->Prop)(R:PV->Prop):Out->Prop
 | .nx e=>J e
 | .ct e=>J e
 | .bk e=>B e
 | .rt p=>R p
theorem ky.Be{set:PV->af->M af}{body:af->M Out}{inj:γ->PV}{B:af->Prop}{R:PV->Prop}(J:List γ->af->Prop)
  (H:∀ a r env,J (a::r) env->ky (M.bind (set (inj a) env) body) (Tn (J r) B R)):∀ (xs:List γ) (env:af),J xs env->ky (jc set body (xs.map inj) env) λo=>(∃ e,o=.nx e/\(J [] e\/B e))\/∃ p,o=.rt p/\R p
 | [],env,h=>⟨_,rfl,.inl ⟨_,rfl,.inl h⟩⟩
 | a::r,env,h=>by
  obtain⟨o,e,q⟩:=H a r env h
  rw[List.map_cons,jc,← M.bind_assoc,e,M.aE]
  cases o with
  | nx e'=>exact ky.Be J H r e' q
  | ct e'=>exact ky.Be J H r e' q
  | bk e'=>exact⟨_,rfl,.inl ⟨_,rfl,.inr q⟩⟩
  | rt p=>exact⟨_,rfl,.inr ⟨_,rfl,q⟩⟩
theorem ky.loop{R:β->Prop}{set:PV->af->M af}{inj:γ->PV}{k:Out->M β}{xs:List γ}{env:af}(J:List γ->af->Prop)(h:J xs env)
  (H:∀ a r env,J (a::r) env->ky (M.bind (set (inj a) env) body) (Tn (J r) (λ_=>False) λ_=>False)) (hk:∀ Ky,J [] Ky->ky (k (.nx Ky)) R):ky (M.bind (jc set body (xs.map inj) env) k) R:=by
 obtain⟨o,e,q⟩:=ky.Be J H xs env h
 rw[e,M.aE]
 rcases q with ⟨e',rfl,q | q⟩ | ⟨p,_,q⟩
 ·exact hk e' q
 ·exact q.elim
 ·exact q.elim
end
def HE(i:Nat)(env:af)(xs:List PV)(p:PV):M Out:=if xs.length<sizeLine then M.ok (.nx (env.set i (some (.ow (xs++[p]))))) else none
theorem wa(i:Nat)(f:af->M PV)(env:af):nI i f env=(ownAt i env).bind λxs=>(f env).bind λp=>HE i env xs p:=by
 unfold nI ownAt
 rcases env[i]? with _ | _ | (_ | _ | _) <;> rfl
theorem vP{env:af}(h:xs.length<1000):HE i env xs p=M.ok (.nx (env.set i (some (.ow (xs++[p]))))):=if_pos (lK (Nat.le_of_lt h))
def pO(C:Addr)(m:Str)(sem:List PV->M PV)(p:PV)(x:M (List PV)):M PV:=match p with
 | .obj C' fl=>cC (C'=C/\fl.lookup m=none) (x.bind λps=>sem (.obj C' fl::ps))
 | _=>none
theorem b_(C:Addr)(m:Str)(sem:List PV->M PV)(g:af->M PV)(fs:af->M (List PV))(env:af):bh C m sem g fs env=(g env).bind λp=>pO C m sem p (fs env):=rfl
variable{sem:List PV->M PV}{C:Addr}
theorem jv{m:Str}{fl:List (Str×PV)}{x:M (List PV)}(h:fl.lookup m=none):pO C m sem (.obj C fl) x=x.bind λps=>sem (.obj C fl::ps):=av ⟨rfl,h⟩
def CU(ok:Addr->Bool)(f:Str)(p:PV):M PV:=match p with
 | .obj C fs=>cC (ok C=true) (eZ (fs.lookup f))
 | _=>none
theorem jw(ok:Addr->Bool)(f:Str)(g:af->M PV)(env:af):dX ok f g env=(g env).bind (CU ok f):=rfl
theorem sY{ok:Addr->Bool}{f:Str}{fs:List (Str×PV)}{x:PV}(h:ok C=true)(hl:fs.lookup f=some x):CU ok f (.obj C fs)=M.ok x:=by
 show cC _ _=_
 rw[av h,hl];rfl
theorem pL(xs:List Int)(x:Int):xs.map PV.int++[.int x]=(xs++[x]).map PV.int:=by simp
theorem rm{f:α->PV}(xs:List α)(h:bR p=some (xs.map f)):Bp [p]=M.ok (xs.zipIdx.map λz=>.tup [.int (z.2:Int),f z.1]):=by
 show IH p=_
 unfold IH
 rw[h]
 show M.ok (gH _)=_
 rw[xU]
theorem ET(xs:List Int):Bp [lI xs]=M.ok (xs.zipIdx.map λz=>.tup [.int (z.2:Int),.int z.1]):=rm xs rfl
theorem mS{f:α->PV}(xs:List α):Bp [.lst (xs.map f)]=M.ok (xs.zipIdx.map λz=>.tup [.int (z.2:Int),f z.1]):=rm xs rfl
theorem J9{us:List α}(h:us.length=1):∃ a,us=[a]:=by
 cases us with
 | nil=>cases h
 | cons a t=>cases t with
  | nil=>exact⟨a,rfl⟩
  | cons b t=>cases h
theorem ln2{us:List α}(h:us.length=2):∃ a b,us=[a,b]:=by
 cases us with
 | nil=>cases h
 | cons a t=>obtain⟨b,rfl⟩:=J9 (Nat.succ.inj h);exact⟨a,b,rfl⟩
theorem J6{us:List α}(h:us.length=3):∃ a b c,us=[a,b,c]:=by
 cases us with
 | nil=>cases h
 | cons a t=>obtain⟨b,c,rfl⟩:=ln2 (Nat.succ.inj h);exact⟨a,b,c,rfl⟩
def wj(K:PySem.W.Frag):Bool:=K.all λp=>match p.2.cls with
 | .type t=>t != "list"
 | _=>true
theorem AD{K:PySem.W.Frag}(h:wj K=true){o:Obj}(e:K.lookup a=some o):o.cls≠.type "list" := by
 induction K with
 | nil=>cases e
 | cons p r ih =>
  obtain⟨b,u⟩:=p
  rw[wj,List.all_cons,Bool.and_eq_true] at h
  rw[List.lookup_cons] at e
  cases q:a==b with
  | true =>
   rw[q] at e;cases e
   intro z
   have h1:=h.1
   simp only[z] at h1
   exact absurd h1 (by decide)
  | false=>rw[q] at e;exact ih h.2 e
theorem qe{H:Hp}:∀ ns:List Int,aM H (ns.map PV.int) (ns.map V.int)
 | []=>.nil
 | i::r=>.cons (.int i) (qe r)
variable{x:Str}
theorem uE{l:PySem.W.OpenLaw}{q:Program}{loose:List Str}{XP:(Str->Option Value)->Heap->Prop}{YP:World->Heap->Prop}{d:DefRec}{K:Params->PySem.W.Frag}
  (hn:l.most=some n) (Nl:n<=sizeLine) (hdf:d.params.defaults=[]) (hr:bZ k callerA)
  (hY:∀ (w:World) (h:Heap),YP w h->(K w.params).In h)
  (hK:∀ w:World,wj (K w.params)=true)
  (F:∀ (w:World) (mg:Str->Option Value) (fa:Addr) (h:Heap),(K w.params).In h->h.Ns mainGlobals mg->mg d.name=some (.ref fa) ->
   ∃ fd:FuncData,(∀ (s:Shared) (u:Value),BindsTo s fd ⟨[u],[]⟩ [(x,u)]) ∧
    ∀ base:Heap,(K w.params).In base->base.Ns mainGlobals mg->aV l.prog w (K w.params) mg base (bU l.prog w) k fa fd [x] (dW 1 sem))
  (NC:∀ ns:List Int,ns.length<=n->(∀ i∈ns,Builtin.Int.intBits i<=1048576)->sem [.iU (ns.map PV.int)]=M.ok (.bl true)) :
  PySem.W.WalkO q loose XP YP l.row.toRowW d [] (λf vs=>PySem.call f vs):=by
 intro w s₀ s₁ mg mb G Y fa o pm cd doc dV kV ho hd LP hD hmg hg args vals as xv hlay hrd hwl hlo
 obtain rfl:dV=.none:=PySem.W.Dflts.none hD hdf
 obtain rfl:kV=.none:=PySem.W.Dflts.noKw hD
 obtain⟨a,vs,ns,rfl,rfl,hobj,hints,hlen⟩:=Att.ya hn xv hwl
 have NW:∀ i∈ns,Builtin.Int.intBits i<=1048576:=λi hi=>by
  have h1:=PySem.W.layableW_arg hlay _ (List.mem_singleton.mpr rfl)
  have h2:=PySem.W.layableW_item h1 (.int i) (List.mem_map.mpr ⟨i,hi,rfl⟩)
  exact intBits_le_of_layable h2
 have KX:=hY w _ Y
 obtain⟨fd,hb,hF⟩:=F w mg fa _ KX G.T.g hmg
 have hs:=NC ns hlen NW
 refine PySem.W.enter_call (codeAny_mono (yr KX G.T.g G.T.b G.T.builtins G.T.nolimit hg hobj hints (Nat.le_trans hlen Nl) hr hF hb (λH hO hS=>⟨rfl,H,[.iU (ns.map PV.int)],λ_ _ e=>e,?_,?_⟩) λH e s' z=>?_) λr s' hq=>?_)
 ·rcases hS with (hS | ⟨ob,hS⟩) | ⟨ob,Kv,m,e1,e2,_⟩
  ·rcases hO a with z | ⟨ob,xs,z⟩
   ·rw[z] at hS;cases hS
   ·rw[z] at hS;cases hS
  ·exact .cons (.iU hS (qe ns)) .nil
  ·exact absurd e2 (AD (hK w) e1)
 ·rw[hs]
  intro v Kw H' g r
  cases r;rfl
 ·obtain⟨ea,T,C,dd,Hc,_,_,_,_,_,_,_,_,z⟩:=z;exact z
 ·obtain⟨rfl,h2,h3,h4⟩:=hq
  exact⟨.inl ⟨.bool true,.bool true,[],rfl,λ_=>rfl,.bool true,Att.yb l _,λ_=>⟨List.Pairwise.nil,λ_ hm=>(nomatch hm)⟩⟩,h2,h3,h4⟩
abbrev wJ(x q:Str)(t:Stmt)(s:Value)(c:Addr):FuncData:=PySem.W.fnOf x q (gG t) (eH t) (aY t) .none .none .none s none (.ref c) .none
variable{t:Stmt}
theorem bq.of{K:PySem.W.Frag}{q:Str}{dv kV doc pm:Value}{an:Option Addr}{KY ct:Value}{f:Addr}(h1:K.lookup f=some ⟨.type "function", none,.func (PySem.W.fnOf x q (gG t) (eH t) (aY t) dv kV doc pm an KY ct),⟨[]⟩⟩)(h2:PySem.W.codeIn K KY q=true)(h3:PySem.W.keepIn K (.ref f)=true):bq K x q t dv f (PySem.W.fnOf x q (gG t) (eH t) (aY t) dv kV doc pm an KY ct):=⟨⟨_,_,_,_,_,_,_,_,_,rfl,h1,h2⟩,h3⟩
section
variable{P:List α->Prop}
theorem Ip(h:∀ a b,P [a,b]):∀ us,us.length=2->P us:=λus hl=>by obtain⟨a,b,rfl⟩:=ln2 hl;exact h a b
end
theorem cB.of{N P:List Str}{sc:Scope}(h1:autoParam (sc.kind=.function) aR._auto_1)(h2:autoParam (sc.isCoroutine=false) aR._auto_1)(h3:autoParam (sc.isGenerator=false) aR._auto_1)(h4:autoParam (N.Nodup) aN._auto_1)(h5:autoParam (N.take P.length=P) aR._auto_1)(h6:autoParam (∀ x∈P,sc.names.lookup x=some .local\/sc.names.lookup x=some .cell) aN._auto_1)(h7:autoParam (∀ y∈sc.names,y.2≠.free) aN._auto_1):cB N P sc:=⟨h1,h2,h3,h4,h5,h6,h7⟩
theorem aZ{pos:Pos}(hN:X.N.Nodup)(hi:autoParam (X.N[i]?=some x) aR._auto_1)(hx:autoParam (Loc X.env.scope x) aG._auto_1)(hf:autoParam (X.fn x=true\/X.env.scope.names.lookup x=some .local) aG._auto_1):PG X (.Name x pos) (aO i):=Bw hN hi hx hf
def C7:Nat->(List Value->Prop)->Prop
 | 0,P=>P []
 | n+1,P=>∀ a,C7 n λl=>P (a::l)
theorem rD:∀ {n:Nat} {P:List Value->Prop},C7 n P->∀ us:List Value,us.length=n->P us
 | 0,_,h,[],_=>h
 | n+1,_,h,a::r,e=>rD (h a) r (Nat.succ.inj e)
variable{ps:List Str}{mg:Str->Option Value}
section
variable{K:PySem.W.Frag}{h:Heap}{q:Str}{m:Nat}{tO:List PV->M (List PV)}
theorem iV(P:Program)(w:World)(base:Heap)(X:K.In h)(G:h.Ns mainGlobals mg)(a c:Addr)(s:Value)(ok:bq K x q t .none a (wJ x q t s c)->aV P w K mg base (bU P w) n a (wJ x q t s c) ps (dW m (bu m sem)))
  (h1:autoParam (K.lookup a=some ⟨.type "function", none,.func (wJ x q t s c),⟨[]⟩⟩) aK._auto_1) (h2:autoParam (PySem.W.codeIn K (.ref c) q=true) aK._auto_1) (h3:autoParam (PySem.W.keepIn K (.ref a)=true) aK._auto_1) (h4:autoParam (PySem.W.nsIn K mainGlobals x=some (some (.ref a))) aK._auto_1)
  (h5:autoParam (ps.length=m) aR._auto_1) (h6:C7 ps.length λus=>bindArgs (wJ x q t s c) ⟨us,[]⟩=pure (ps.zip us):=by (repeat intro _);rfl):dH P w K mg base n x m sem :=
 ⟨⟨a,_,ps,PySem.W.mg_of X G h4,h3,h5,.all (rD h6),ok (.of h1 h2 h3)⟩⟩
theorem DU(P:Program)(w:World)(base:Heap)(cc:kW K C)(a c:Addr)(s:Value)(ok:bq K x q t .none a (wJ x q t s c)->aV P w K mg base (bU P w) n a (wJ x q t s c) ps (dW m (bu m sem)))
  (h1:autoParam (K.lookup a=some ⟨.type "function", none,.func (wJ x q t s c),⟨[]⟩⟩) aK._auto_1) (h2:autoParam (PySem.W.codeIn K (.ref c) q=true) aK._auto_1) (h3:autoParam (PySem.W.keepIn K (.ref a)=true) aK._auto_1) (h4:autoParam (PySem.W.findIn K (.ref C) x=some (some (.ref a))) aK._auto_1) (h5:autoParam (PySem.W.isFn K (.ref a)=true) aK._auto_1)
  (h6:C7 ps.length λus=>bindArgs (wJ x q t s c) ⟨us,[]⟩=pure (ps.zip us):=by (repeat intro _);rfl):ke P w K mg base C n x m sem :=
 ⟨⟨a,_,ps,cc,⟨h4,h5,h3⟩,.all (rD h6),ok (.of h1 h2 h3)⟩⟩
end
theorem bq.gy{P:Program}{w:World}{K:PySem.W.Frag}{base:Heap}{qual:Str}{st:Stmt}{dv:Value}{f:Addr}{fd:FuncData}{g:af->M Out}(F:bq K x qual st dv f fd)(N:List Str)
  (hb:N.Nodup->∀ (KY:Value) (A:Around) (outer:List Env) (s:Shared) (H:Hp) (E:XK),bZ k (A.deeper (envOfC qual (aY st) s.heap.objs.size f KY))->eS ((kQ (bU P w) P w K mg base N qual (aY st) f KY A outer s H E).out λ_=>E) (λ_=>E)->kj ((kQ (bU P w) P w K mg base N qual (aY st) f KY A outer s H E).out λ_=>E) (eH st) (tS E g))
  (S:cB N ps (aY st):=by exact .of):aV P w K mg base (bU P w) (k+1) f fd ps (dW ps.length (bu ps.length (aC N.length g))):=F.Kf S (hb S.nd)
end L2
namespace HD
open PySem PySem.W L2
abbrev pw:Program:=PySem.Challenge.pw_dialvault_k52_whole_pairs_of_great_dials
noncomputable section
noncomputable def st(s:String)(t:Nat):Value:=.str (Str.ofString s) t
def en(P:Params)(s:String)(t:Nat)(v:Value):DictEntry:=⟨PyData.keyHash P (Str.ofString s),st s t,v⟩
def tu(xs:List Value):Obj:=⟨.type "tuple", none,.seq ⟨xs⟩ 0,⟨[]⟩⟩
def di(n:Nat)(es:List DictEntry):Obj:=⟨.type "dict", none,.dict ⟨es⟩ n,⟨[]⟩⟩
def tp(i:Nat):Stmt:=pw.main.body.getD i (.Pass ⟨0,0,0,0⟩)
def mp(i j:Nat):Stmt:=inClass (tp i) j
def co(a b:String)(t:Nat)(l n:Int)(x1 x2 x3 x4 x5:Nat)(u:Nat):Obj:=⟨.type "code", none,.fields ⟨[st a t,st b (t+1),st "/claim/cut.py" (t+2),.int l 0,.int n 0,.int 0 0,.int 0 0,.int 3 0,.ref x1,.bool true,.int 181 0,.ref x2,.none,.ref x3,.ref x4,.ref x5,.int u 0,.int l 0,st "/claim/cut.py" (u+1)]⟩,⟨[]⟩⟩
def ft(a b:String)(s:Stmt):Obj:=⟨.none,none,.func ⟨Str.ofString a,Str.ofString b,gG s,.stmts (eH s),aY s,0,[],.none,.none,.none,.none,none,.none,.none,0⟩,⟨[]⟩⟩
def fo(a b:String)(s:Stmt)(df pm:Value)(cd:Nat):Obj:=⟨.type "function", none,.func ⟨Str.ofString a,Str.ofString b,gG s,.stmts (eH s),aY s,3,[],df,.none,.none,pm,none,.ref cd,.none,0⟩,⟨[]⟩⟩
def Fu:List Obj->List Obj
 | []=>[]
 | [a]=>[a]
 | a::_::r=>a::Fu r
def bt:Nat->List Obj->BT
 | 0,_=>.nil
 | _+1,[]=>.nil
 | n+1,a::r=>.node a (bt n (Fu r)) (bt n (Fu (r.drop 1)))
def S(L:Params->List Obj)(n k:Nat)(w:World)(os:OsState):SharedT:=⟨bt 14 (L w.params),n,{},⟨[]⟩,⟨0,0,0,0⟩,k,os⟩
def F(L:Params->List Obj)(k:Nat)(w:World)(os:OsState):Shared:=⟨⟨⟨L w.params⟩,{}⟩,⟨[]⟩,⟨0,0,0,0⟩,k,os⟩
def cc(a:String)(t:Nat)(l:Int)(x y u:Nat):Obj:=⟨.type "code", none,.fields ⟨[st a t,st a (t+1),st "/claim/cut.py" (t+2),.int l 0,.int 0 0,.int 0 0,.int 0 0,.int 0 0,.ref x,.bool false,.int 181 0,.ref y,.none,.none,.none,.none,.int u 0,.int l 0,st "/claim/cut.py" (u+1)]⟩,⟨[]⟩⟩
def fr(a b:Nat)(s:String)(t:Nat):Obj:=⟨.type "frame", none,.plain,⟨[some (.ref a),some (.ref 3),some (.ref b),none,some (st s t),none,some (.ref 0)]⟩⟩
def su(a:Nat):Obj:=⟨.type "super", none,.fields ⟨[.ref a,.ref a,.ref a]⟩,⟨[]⟩⟩
def ii(a:Nat):Obj:=⟨.type "builtin_function_or_method", none,.fields ⟨[.builtin "object.__init_subclass__", .ref a]⟩,⟨[]⟩⟩
def pQ:List Nat->List Value
 | a::b::c::r=>.int a 0::.int b 0::.ref c::pQ r
 | _=>[]
def fi(xs:List Nat):Obj:=⟨.none,none,.fields ⟨pQ xs⟩,⟨[]⟩⟩
def cl(n:Str)(bs ms:List Value)(k:Nat)(ss:List Value)(sl:List (Option Value)):Obj:=⟨.type "type", none,.cls ⟨n,bs,ms,k,n,true,[],ss,false,none,false⟩,⟨sl⟩⟩
def pt(L:List Obj)(us:List (Nat×Obj))(ns:List Obj):List Obj:=us.foldl (λl u=>l.set u.1 u.2) L++ns
abbrev b0:=boot_o_0
abbrev b1:=boot_o_1
abbrev b2:=boot_o_2
abbrev b3:=boot_o_3
abbrev b4:=boot_o_4
abbrev b5:=boot_o_5
abbrev b6:=boot_o_6
abbrev b7:=boot_o_7
abbrev b8:=boot_o_8
abbrev b9:=boot_o_9
abbrev J_:=boot_o_10
def m0:Value:=st "__main__" 164
def m1:Value:=st "dialvault.errors" 194
def m2:Value:=st "dialvault.wholes" 386
def m3:Value:=st "dialvault.vault" 434
def m4:Value:=st "dialvault.papers" 578
def m5:Value:=st "dialvault.rungs" 586
def m6:Value:=st "dialvault.stills" 753
def m7:Value:=st "dialvault.pairs" 777
def m8:Value:=st "law_dialvault_k52_whole_pairs_of_great_dials" 795
def nl:List String->Nat->List Value
 | [],_=>[]
 | x::r,t=>st x t::nl r (t+1)
def fA(P:Params)(a t:Nat)(x q:String)(s:Stmt)(l n:Int)(vs:List String)(df pm:Value):List Obj:=[b7 P,b8 P,tu (nl vs (t+3)),b7 P,ft x q s,co x q t l n a (a+1) (a+2) (a+3) (a+4) (t+3+vs.length),fo x q s df pm (a+5)]
def fT(P:Params)(a t:Nat)(x:String)(s:Stmt)(l n:Int)(vs:List String)(pm:Value):List Obj:=fA P a t x x s l n vs .none pm
def fB(P:Params)(a t:Nat)(x q:String)(s:Stmt)(l n:Int)(df pm:Value):List Obj:=[b7 P,b8 P,ft x q s,⟨.type "code", none,.fields ⟨[st x t,st q (t+1),st "/claim/cut.py" (t+2),.int l 0,.int n 0,.int 0 0,.int 0 0,.int 3 0,.ref a,.bool true,.int 181 0,.ref (a+1),.none,.none,.none,.ref (a+2),.int (t+3) 0,.int l 0,st "/claim/cut.py" (t+4)]⟩,⟨[]⟩⟩,fo x q s df pm (a+3)]
def dB(P:Params)(n t:Nat)(m:Value)(l:Int)(r:List DictEntry):Obj:=di n (en P "__module__" t m::en P "__firstlineno__" (t+4) (.int l (t+3))::r)
def dA(P:Params)(n t:Nat)(m:Value)(x:String)(l:Int)(r:List DictEntry):Obj:=di n (en P "__module__" t m::en P "__qualname__" (t+2) (st x (t+1))::en P "__firstlineno__" (t+4) (.int l (t+3))::r)
def gw(t a:Nat):Obj:=⟨.type "getset_descriptor", none,.fields ⟨[st "__weakref__" t,.ref a,.builtin "ExceptionGroup.__weakref__", .none]⟩,⟨[]⟩⟩
def gd(t a:Nat):Obj:=⟨.type "getset_descriptor", none,.fields ⟨[st "__dict__" t,.ref a,.builtin "function.__dict__", .builtin "function.__dict__#set"]⟩,⟨[]⟩⟩
def ce(x:String)(b a k:Nat)(ss:List Value)(d t u:Nat):Obj:=cl x [.ref b] [.ref a,.ref b,.type "ValueError", .type "Exception", .type "BaseException", .type "object"] k ss [some (.ref d),none,some (st x t),some (st x u),some (.builtin "ValueError.__new__"),some (.bool true)]
def gl P:=[en P "__doc__" 166 .none,en P "__package__" 167 .none,en P "__loader__" 168 (.builtin "__main__.__loader__#opaque"),en P "__spec__" 169 .none,en P "__annotations__" 170 (.ref 6),en P "__builtins__" 171 (.ref 4),en P "__file__" 173 (st "/claim/cut.py" 172),en P "__cached__" 174 .none,en P "_wall" 193 (.ref 21),en P "VaultError" 220 (.ref 38),en P "NoDial" 252 (.ref 65),en P "NoLever" 284 (.ref 91),en P "NoPrice" 316 (.ref 117),en P "NoSetting" 339 (.ref 136),en P "TooMany" 362 (.ref 155),en P "Unlike" 385 (.ref 174),en P "is_whole" 394 (.ref 183),en P "is_row" 400 (.ref 188),en P "common" 412 (.ref 195),en P "multiple_of" 421 (.ref 202),en P "unit_row" 427 (.ref 207),en P "rest_sum" 433 (.ref 212),en P "MOST_DIALS" 437 (.int 6 436),en P "LEAST_SIZE" 439 (.int 2 438),en P "MOST_SIZE" 441 (.int 360 440),en P "MOST_LEVERS" 443 (.int 8 442),en P "LEAST_PRICE" 445 (.int 1 444),en P "MOST_PRICE" 447 (.int 1000 446),en P "Vault" 505 (.ref 256),en P "is_within" 514 (.ref 267),en P "need_sizes" 523 (.ref 274),en P "need_same_sizes" 531 (.ref 281),en P "need_levers" 541 (.ref 288),en P "prices_for" 550 (.ref 295),en P "rests" 556 (.ref 300),en P "nought" 563 (.ref 307),en P "is_setting" 569 (.ref 312),en P "need_setting" 577 (.ref 319),en P "weigh" 585 (.ref 324),en P "mixed" 593 (.ref 329),en P "mixed_made" 605 (.ref 336),en P "unpulled" 613 (.ref 343),en P "pulled_once" 622 (.ref 350),en P "step_size" 632 (.ref 357),en P "taken_in" 647 (.ref 364),en P "lowered" 659 (.ref 371),en P "in_spans" 669 (.ref 378),en P "Rungs" 752 (.ref 441),en P "clear" 760 (.ref 450),en P "clear_of" 770 (.ref 457),en P "stills" 776 (.ref 462),en P "together" 786 (.ref 469),en P "both" 794 (.ref 476),en P "_law_cell" 804 (.ref 483),en P "_law_mix" 813 (.ref 490),en P "_law_digits" 823 (.ref 497),en P "_law_size" 830 (.ref 504),en P "_law_sizes" 836 (.ref 509),en P "_law_lever" 849 (.ref 516),en P "_law_product" 858 (.ref 523),en P "_law_setting" 864 (.ref 528),en P "_law_does" 872 (.ref 535),en P "law" 892 (.ref 542)]
def LA(P:Params):List Obj:=[b0 P,b1 P,b2 P,b3 P,b4 P,b5 P,b6 P,b7 P,b8 P,b9 P,J_ P,b7 P,b8 P,cc "<module>" 182 1 11 12 185,fr 13 3 "__main__" 164]
def o9:Obj:=⟨.type "builtin_function_or_method", none,(.fields ⟨[.builtin "type.__prepare__", .type "type"]⟩),⟨[]⟩⟩
def Kk:Obj:=gw 216 38
def GB:=tu [.ref 38]
def L0 P:=pt (LA P) [(3,di 15 (en P "__name__" 165 m1::(gl P).take 14)),(12,fi [1,0,20,5,0,27,9,0,47,16,0,73,23,0,99,30,0,125])] (fT P 15 187 "_wall" (tp 0) 1 1 ["k"] m0++([tu [.type "ValueError"],o9,dA P 5 203 m1 "VaultError" 5 [en P "word" 214 (.ref 35),en P "__static_attributes__" 215 (.ref 36)],b7 P,fi [7,4,34],cc "VaultError" 198 5 25 26 201,fr 27 24 "dialvault.errors" 194]++(fA P 29 208 "word" "VaultError.word" (mp 2 0) 7 1 ["self"] .none m1++([b7 P,dB P 3 203 m1 5 [en P "word" 214 (.ref 35),en P "__static_attributes__" 215 (.ref 36),en P "__weakref__" 217 (.ref 39),en P "__doc__" 218 .none],cl "VaultError" [.type "ValueError"] [.ref 38,.type "ValueError", .type "Exception", .type "BaseException", .type "object"] 37 [.ref 65,.ref 91,.ref 117,.ref 136] [some (.ref 22),none,some (st "VaultError" 196),some (st "VaultError" 204),some (.builtin "ValueError.__new__"),some (.bool true)],Kk,su 38,ii 38,GB,o9,dA P 6 228 m1 "NoDial" 9 [en P "__init__" 240 (.ref 55),en P "word" 247 (.ref 62),en P "__static_attributes__" 249 (.ref 63)],b7 P,fi [11,4,54,14,4,61],cc "NoDial" 223 9 45 46 226,fr 47 44 "dialvault.errors" 194]++(fA P 49 233 "__init__" "NoDial.__init__" (mp 3 0) 11 2 ["self", "dial"] .none m1++(fA P 56 241 "word" "NoDial.word" (mp 3 1) 14 1 ["self"] .none m1++([tu [st "dial" 248],dB P 2 228 m1 9 [en P "__init__" 240 (.ref 55),en P "word" 247 (.ref 62),en P "__static_attributes__" 249 (.ref 63),en P "__doc__" 250 .none],ce "NoDial" 38 65 64 [] 42 221 229,su 65,ii 65,GB,o9,dA P 6 260 m1 "NoLever" 16 [en P "__init__" 272 (.ref 81),en P "word" 279 (.ref 88),en P "__static_attributes__" 281 (.ref 89)],b7 P,fi [18,4,80,21,4,87],cc "NoLever" 255 16 71 72 258,fr 73 70 "dialvault.errors" 194]++(fA P 75 265 "__init__" "NoLever.__init__" (mp 4 0) 18 2 ["self", "lever"] .none m1++(fA P 82 273 "word" "NoLever.word" (mp 4 1) 21 1 ["self"] .none m1++([tu [st "lever" 280],dB P 2 260 m1 16 [en P "__init__" 272 (.ref 81),en P "word" 279 (.ref 88),en P "__static_attributes__" 281 (.ref 89),en P "__doc__" 282 .none],ce "NoLever" 38 91 90 [] 68 253 261,su 91,ii 91,GB,o9,dA P 6 292 m1 "NoPrice" 23 [en P "__init__" 304 (.ref 107),en P "word" 311 (.ref 114),en P "__static_attributes__" 313 (.ref 115)],b7 P,fi [25,4,106,28,4,113],cc "NoPrice" 287 23 97 98 290,fr 99 96 "dialvault.errors" 194]++(fA P 101 297 "__init__" "NoPrice.__init__" (mp 5 0) 25 2 ["self", "lever"] .none m1++(fA P 108 305 "word" "NoPrice.word" (mp 5 1) 28 1 ["self"] .none m1++([tu [st "lever" 312],dB P 2 292 m1 23 [en P "__init__" 304 (.ref 107),en P "word" 311 (.ref 114),en P "__static_attributes__" 313 (.ref 115),en P "__doc__" 314 .none],ce "NoPrice" 38 117 116 [] 94 285 293,su 117,ii 117,GB,o9,dA P 5 324 m1 "NoSetting" 30 [en P "word" 335 (.ref 133),en P "__static_attributes__" 336 (.ref 134)],b7 P,fi [32,4,132],cc "NoSetting" 319 30 123 124 322,fr 125 122 "dialvault.errors" 194]++(fA P 127 329 "word" "NoSetting.word" (mp 6 0) 32 1 ["self"] .none m1++([b7 P,dB P 2 324 m1 30 [en P "word" 335 (.ref 133),en P "__static_attributes__" 336 (.ref 134),en P "__doc__" 337 .none],ce "NoSetting" 38 136 135 [] 120 317 325,su 136,ii 136])))))))))))))))
def I_:Obj:=gd 499 256
def Iu:Obj:=gw 501 256
def L1 P:=pt (L0 P) [(3,di 43 (en P "__name__" 165 m5::(gl P).take 42)),(12,fi [1,0,20,5,0,27,9,0,47,16,0,73,23,0,99,30,0,125,34,0,144,38,0,163,43,0,182,45,0,187,49,0,194,60,0,201,65,0,206,67,0,211,76,0,218,97,0,266,99,0,273,107,0,280,110,0,287,116,0,294,125,0,299,127,0,306,129,0,311,134,0,318,138,0,323,145,0,328,147,0,335,150,0,342]),(38,cl "VaultError" [.type "ValueError"] [.ref 38,.type "ValueError", .type "Exception", .type "BaseException", .type "object"] 37 [.ref 65,.ref 91,.ref 117,.ref 136,.ref 155,.ref 174] [some (.ref 22),none,some (st "VaultError" 196),some (st "VaultError" 204),some (.builtin "ValueError.__new__"),some (.bool true)])] ([GB,o9,dA P 5 347 m1 "TooMany" 34 [en P "word" 358 (.ref 152),en P "__static_attributes__" 359 (.ref 153)],b7 P,fi [36,4,151],cc "TooMany" 342 34 142 143 345,fr 144 141 "dialvault.errors" 194]++(fA P 146 352 "word" "TooMany.word" (mp 7 0) 36 1 ["self"] .none m1++([b7 P,dB P 2 347 m1 34 [en P "word" 358 (.ref 152),en P "__static_attributes__" 359 (.ref 153),en P "__doc__" 360 .none],ce "TooMany" 38 155 154 [] 139 340 348,su 155,ii 155,GB,o9,dA P 5 370 m1 "Unlike" 38 [en P "word" 381 (.ref 171),en P "__static_attributes__" 382 (.ref 172)],b7 P,fi [40,4,170],cc "Unlike" 365 38 161 162 368,fr 163 160 "dialvault.errors" 194]++(fA P 165 375 "word" "Unlike.word" (mp 8 0) 40 1 ["self"] .none m1++([b7 P,dB P 2 370 m1 38 [en P "word" 381 (.ref 171),en P "__static_attributes__" 382 (.ref 172),en P "__doc__" 383 .none],ce "Unlike" 38 174 173 [] 158 363 371,su 174,ii 174]++(fT P 177 388 "is_whole" (tp 10) 43 1 ["thing"] m2++(fB P 184 395 "is_row" "is_row" (tp 11) 45 2 .none m2++(fT P 189 401 "common" (tp 12) 49 2 ["one", "other", "row", "behind", "times", "rest"] m2++(fT P 196 413 "multiple_of" (tp 13) 60 1 ["numbers", "multiple", "number"] m2++(fB P 203 422 "unit_row" "unit_row" (tp 14) 65 2 .none m2++(fB P 208 428 "rest_sum" "rest_sum" (tp 15) 67 3 .none m2++([b7 P,o9,dA P 9 455 m3 "Vault" 76 [en P "__init__" 465 (.ref 225),en P "sizes" 472 (.ref 232),en P "levers" 479 (.ref 239),en P "prices" 486 (.ref 246),en P "around" 493 (.ref 253),en P "__static_attributes__" 498 (.ref 254)],b7 P,fi [78,4,224,86,4,231,89,4,238,92,4,245,95,4,252],cc "Vault" 450 76 216 217 453,fr 218 215 "dialvault.vault" 434,tu [.none]]++(fB P 221 460 "__init__" "Vault.__init__" (mp 23 0) 78 4 (.ref 220) m3++(fA P 226 466 "sizes" "Vault.sizes" (mp 23 1) 86 1 ["self"] .none m3++(fA P 233 473 "levers" "Vault.levers" (mp 23 2) 89 1 ["self"] .none m3++(fA P 240 480 "prices" "Vault.prices" (mp 23 3) 92 1 ["self"] .none m3++(fA P 247 487 "around" "Vault.around" (mp 23 4) 95 1 ["self"] .none m3++([tu [st "dial_sizes" 494,st "least_round" 495,st "lever_prices" 496,st "lever_settings" 497],dB P 4 455 m3 76 [en P "__init__" 465 (.ref 225),en P "sizes" 472 (.ref 232),en P "levers" 479 (.ref 239),en P "prices" 486 (.ref 246),en P "around" 493 (.ref 253),en P "__static_attributes__" 498 (.ref 254),en P "__dict__" 500 (.ref 257),en P "__weakref__" 502 (.ref 258),en P "__doc__" 503 .none],cl "Vault" [.type "object"] [.ref 256,.type "object"] 255 [] [none,none,some (st "Vault" 448),some (st "Vault" 456),some (.builtin "object.__new__"),some (.bool true)],I_,Iu,su 256,ii 256]++(fT P 261 506 "is_within" (tp 24) 97 3 ["thing", "least", "most"] m3++(fT P 268 515 "need_sizes" (tp 25) 99 1 ["sizes", "dial", "size"] m3++(fT P 275 524 "need_same_sizes" (tp 26) 107 2 ["sizes", "others"] m3++(fT P 282 532 "need_levers" (tp 27) 110 2 ["levers", "dials", "place", "lever"] m3++(fT P 289 542 "prices_for" (tp 28) 116 2 ["levers", "prices", "place"] m3++(fB P 296 551 "rests" "rests" (tp 29) 125 2 .none m3++(fT P 301 557 "nought" (tp 30) 127 1 ["vault"] m3++(fB P 308 564 "is_setting" "is_setting" (tp 31) 129 2 .none m3++(fT P 313 570 "need_setting" (tp 32) 134 2 ["vault", "thing"] m3++(fB P 320 580 "weigh" "weigh" (tp 34) 138 3 .none m4++(fB P 325 588 "mixed" "mixed" (tp 36) 145 4 .none m5++(fT P 330 594 "mixed_made" (tp 37) 147 5 ["sizes", "made", "times", "other", "others", "doing"] m5++(fT P 337 606 "unpulled" (tp 38) 150 2 ["vault", "setting"] m5)))))))))))))))))))))))))))))))
def IQ:Obj:=gd 746 441
def IA:Obj:=gw 748 441
def L2 P:=pt (L1 P) [(3,di 64 (en P "__name__" 165 m8::gl P)),(12,fi [1,0,20,5,0,27,9,0,47,16,0,73,23,0,99,30,0,125,34,0,144,38,0,163,43,0,182,45,0,187,49,0,194,60,0,201,65,0,206,67,0,211,76,0,218,97,0,266,99,0,273,107,0,280,110,0,287,116,0,294,125,0,299,127,0,306,129,0,311,134,0,318,138,0,323,145,0,328,147,0,335,150,0,342,152,0,349,155,0,356,158,0,363,167,0,370,172,0,377,177,0,384,230,0,449,233,0,456,238,0,461,243,0,468,246,0,475,249,0,482,253,0,489,257,0,496,263,0,503,267,0,508,272,0,515,281,0,522,286,0,527,295,0,534,297,0,541])] (fT P 344 614 "pulled_once" (tp 39) 152 2 ["vault", "lever", "levers"] m5++(fT P 351 623 "step_size" (tp 40) 155 3 ["sizes", "made_rows", "dial", "notch"] m5++(fT P 358 633 "taken_in" (tp 41) 158 3 ["sizes", "made_rows", "left", "wider", "dial", "made", "step", "notch", "found"] m5++(fT P 365 648 "lowered" (tp 42) 167 4 ["sizes", "made_rows", "made", "first", "dial", "times"] m5++(fT P 372 660 "in_spans" (tp 43) 172 2 ["pulls", "idle_rows", "lever", "row"] m5++([b7 P,o9,dA P 13 677 m5 "Rungs" 177 [en P "__init__" 687 (.ref 390),en P "steps" 693 (.ref 395),en P "rows" 699 (.ref 400),en P "spans" 706 (.ref 407),en P "idle" 713 (.ref 414),en P "brought_down" 721 (.ref 421),en P "least" 729 (.ref 428),en P "pulls_to" 735 (.ref 433),en P "weights_at" 741 (.ref 438),en P "__static_attributes__" 745 (.ref 439)],b7 P,fi [179,4,389,191,4,394,195,4,399,198,4,406,201,4,413,204,4,420,208,4,427,211,4,432,217,4,437],cc "Rungs" 672 177 382 383 675,fr 384 381 "dialvault.rungs" 586]++(fB P 386 682 "__init__" "Rungs.__init__" (mp 44 0) 179 2 .none m5++(fB P 391 688 "steps" "Rungs.steps" (mp 44 1) 191 1 .none m5++(fB P 396 694 "rows" "Rungs.rows" (mp 44 2) 195 1 .none m5++(fA P 401 700 "spans" "Rungs.spans" (mp 44 3) 198 1 ["self"] .none m5++(fA P 408 707 "idle" "Rungs.idle" (mp 44 4) 201 1 ["self"] .none m5++(fA P 415 714 "brought_down" "Rungs.brought_down" (mp 44 5) 204 2 ["self", "setting"] .none m5++(fA P 422 722 "least" "Rungs.least" (mp 44 6) 208 2 ["self", "setting"] .none m5++(fB P 429 730 "pulls_to" "Rungs.pulls_to" (mp 44 7) 211 2 .none m5++(fB P 434 736 "weights_at" "Rungs.weights_at" (mp 44 8) 217 2 .none m5++([tu [st "idle_rows" 742,st "made_rows" 743,st "vault" 744],dB P 4 677 m5 177 [en P "__init__" 687 (.ref 390),en P "steps" 693 (.ref 395),en P "rows" 699 (.ref 400),en P "spans" 706 (.ref 407),en P "idle" 713 (.ref 414),en P "brought_down" 721 (.ref 421),en P "least" 729 (.ref 428),en P "pulls_to" 735 (.ref 433),en P "weights_at" 741 (.ref 438),en P "__static_attributes__" 745 (.ref 439),en P "__dict__" 747 (.ref 442),en P "__weakref__" 749 (.ref 443),en P "__doc__" 750 .none],cl "Rungs" [.type "object"] [.ref 441,.type "object"] 440 [] [none,none,some (st "Rungs" 670),some (st "Rungs" 678),some (.builtin "object.__new__"),some (.bool true)],IQ,IA,su 441,ii 441]++(fB P 446 755 "clear" "clear" (tp 46) 230 1 .none m6++(fT P 451 761 "clear_of" (tp 47) 233 2 ["sizes", "doings", "cleared", "doing"] m6++(fB P 458 771 "stills" "stills" (tp 48) 238 1 .none m6++(fT P 463 779 "together" (tp 50) 243 2 ["one", "other"] m7++(fT P 470 787 "both" (tp 51) 246 2 ["one", "other"] m7++(fT P 477 797 "_law_cell" (tp 53) 249 2 ["_law_script", "_law_k"] m8++(fT P 484 805 "_law_mix" (tp 54) 253 2 ["_law_cell_here", "_law_k", "_law_number"] m8++(fT P 491 814 "_law_digits" (tp 55) 257 2 ["_law_cell_here", "_law_sizes_here", "_law_row", "_law_size_here"] m8++(fT P 498 824 "_law_size" (tp 56) 263 1 ["_law_number"] m8++(fB P 505 831 "_law_sizes" "_law_sizes" (tp 57) 267 1 .none m8++(fT P 510 837 "_law_lever" (tp 58) 272 2 ["_law_cell_here", "_law_sizes_here", "_law_factor", "_law_row", "_law_k", "_law_size_here", "_law_number"] m8++(fT P 517 850 "_law_product" (tp 59) 281 1 ["_law_numbers", "_law_found", "_law_number"] m8++(fB P 524 859 "_law_setting" "_law_setting" (tp 60) 286 3 .none m8++(fT P 529 865 "_law_does" (tp 61) 295 2 ["_law_rungs", "_law_setting_here"] m8++(fT P 536 873 "law" (tp 62) 297 1 ["_law_script", "_law_sizes_here", "_law_levers", "_law_cell_here", "_law_some", "_law_one", "_law_other", "_law_here", "_law_there", "_law_meet", "_law_joint", "_law_due", "_law_lever_here", "_law_setting_here"] m8)))))))))))))))))))))))))))))))
def LF(P:Params):=L2 P
def bE:List Stmt:=behindTheImports pw
def env:Env:={ scope:=pw.main.scope,locals:=mainNs,globals:=mainNs,cells:=[],code:=.ref 13,frame:=some 14 }
def cE:Code:=.body bE env
abbrev B:List Frame:=[topFrame ⟨0,0,0,0⟩]
abbrev ann:Option Value:=(some (.ref 6))
def Gk:List Stmt:=(bE.drop 0).take 7
def EI:List Stmt:=(bE.drop 7).take 32
def EY:List Stmt:=(bE.drop 39).take 24
end
theorem xv:∀ w:World,(λos=>topGo treeTable pw w 11 ann 12 ⟨boot_heap w.params,⟨[]⟩,boot_drawn,boot_toks,os⟩ (topStub pw))=λos=>some (F LA 187 w os,⟨denote treeTable cE,cE,⟨0,0,0,0⟩,B⟩):=λw=>by
 rw[PySem.W.Fast.te15667345088766844465,PySem.W.Fast.te14364793385576792824,PySem.W.Fast.te11892475500146522536]
 kernel_rfl
theorem JB:∀ w:World,(λos=>segRun treeTable pw w 11 ann 1 1 (F LA 187 w os) (blockOf bE env cE ⟨0,0,0,0⟩ B))=λos=>some (Flow.next,(S LA 15 187 w os).abs,cE,⟨0,0,0,0⟩):=λw=>by
 rw[PySem.W.Fast.te14374325043358763698,PySem.W.Fast.te14364793385576792824]
 kernel_rfl
theorem J5:∀ w:World,(λos=>segRunT treeTable pw w 11 ann 1 1326 (S LA 15 187 w os) (piecesOf Gk env cE ⟨0,0,0,0⟩ B))=λos=>some (Flow.next,S L0 139 340 w os,cE,⟨30,0,33,16⟩):=λw=>by
 rw[PySem.W.Fast.te10110043849684766642,PySem.W.Fast.te14364793385576792824]
 kernel_rfl
theorem Kd:∀ w:World,(λos=>segRunT treeTable pw w 11 ann 1 1477 (S L0 139 340 w os) (piecesOf EI env cE ⟨30,0,33,16⟩ B))=λos=>some (Flow.next,S L1 344 614 w os,cE,⟨150,0,151,48⟩):=λw=>by
 rw[PySem.W.Fast.te10110043849684766642,PySem.W.Fast.te14364793385576792824]
 kernel_rfl
theorem GC:∀ w:World,(λos=>segRunT treeTable pw w 11 ann 1 1108 (S L1 344 614 w os) (piecesOf EY env cE ⟨150,0,151,48⟩ B))=λos=>some (Flow.next,S L2 543 893 w os,cE,⟨297,0,322,72⟩):=λw=>by
 rw[PySem.W.Fast.te10110043849684766642,PySem.W.Fast.te14364793385576792824]
 kernel_rfl
theorem EO:∀ w:World,(λos=>topRun treeTable pw w 11 ann 2 (S L2 543 893 w os).abs ⟨doneF .next,cE,⟨297,0,322,72⟩,B⟩)=λos=>some (F LF 893 w os):=λw=>by
 rw[PySem.W.Fast.te14082659384304107361,PySem.W.Fast.te14364793385576792824]
 kernel_rfl
theorem Ks:bE=(Gk++(EI++(EY++[]))):=by kernel_rfl
theorem AL(w:World)(os:OsState):topRun treeTable pw w 11 ann (1326+(1477+(1108+2))) (S LA 15 187 w os).abs (restOf bE env cE ⟨0,0,0,0⟩ B)=some (F LF 893 w os):=by
 rw[show restOf bE env cE ⟨0,0,0,0⟩ B=restOf (Gk++(EI++(EY++[]))) env cE ⟨0,0,0,0⟩ B from congrArg (λb=>restOf b env cE ⟨0,0,0,0⟩ B) Ks]
 exact piece_app (segRun_of (congrFun (J5 w) os)) (piece_app (segRun_of (congrFun (Kd w) os)) (piece_app (segRun_of (congrFun (GC w) os)) (piece_nil (congrFun (EO w) os))))
theorem Iy(w:World)(os:OsState):topRun treeTable pw w 11 ann (12+(1+(1326+(1477+(1108+2))))) ⟨boot_heap w.params,⟨[]⟩,boot_drawn,boot_toks,os⟩ (topStub pw)=some (F LF 893 w os) :=
 go_top (congrFun (xv w) os) (piece_block (congrFun (JB w) os) (AL w os))
end HD
namespace HD
open PySem PySem.W L2
noncomputable section
def vw:Program:=PySem.W.view pw [0,2,3,4,5,6,7,8,10,11,12,13,14,15,17,18,19,20,21,22,23,24,25,26,27,28,29,30,31,32,34,36,37,38,39,40,41,42,43,44,46,47,48,50,51,53,54,55,56,57,58,59,60,61,62]
def loose:List Str:=[]
noncomputable def as:List Addr:=[2,3,15,17,18,20,21,22,29,31,32,34,35,36,37,38,39,42,49,51,52,54,55,56,58,59,61,62,63,64,65,68,75,77,78,80,81,82,84,85,87,88,89,90,91,94,101,103,104,106,107,108,110,111,113,114,115,116,117,120,127,129,130,132,133,134,135,136,139,146,148,149,151,152,153,154,155,158,165,167,168,170,171,172,173,174,177,179,180,182,183,184,187,188,189,191,192,194,195,196,198,199,201,202,203,206,207,208,211,212,220,221,224,225,226,228,229,231,232,233,235,236,238,239,240,242,243,245,246,247,249,250,252,253,254,255,256,257,258,261,263,264,266,267,268,270,271,273,274,275,277,278,280,281,282,284,285,287,288,289,291,292,294,295,296,299,300,301,303,304,306,307,308,311,312,313,315,316,318,319,320,323,324,325,328,329,330,332,333,335,336,337,339,340,342,343,344,346,347,349,350,351,353,354,356,357,358,360,361,363,364,365,367,368,370,371,372,374,375,377,378,386,389,390,391,394,395,396,399,400,401,403,404,406,407,408,410,411,413,414,415,417,418,420,421,422,424,425,427,428,429,432,433,434,437,438,439,440,441,442,443,446,449,450,451,453,454,456,457,458,461,462,463,465,466,468,469,470,472,473,475,476,477,479,480,482,483,484,486,487,489,490,491,493,494,496,497,498,500,501,503,504,505,508,509,510,512,513,515,516,517,519,520,522,523,524,527,528,529,531,532,534,535,536,538,539,541,542]
def K(P:Params):Frag:=as.map λa=>(a,(LF P).getD a (su 0))
def hook:Hook:=kHook K as (λ_=>by kernel_rfl)
abbrev rr:RowW:=(PySem.Challenge.rw_dialvault_k52_whole_pairs_of_great_dials.row).toRowW
def Xt:Shared->Bool:=λs=>xlAt vw [] s&&recOk (RowW.records rr) s
def H1(P:Params):Heap:=⟨⟨LF P⟩,{}⟩
end
theorem HS:∀ w:World,((boot_heap w.params).isNs mainGlobals&&(Array.mk []:Array GenState).size==0,(boot_heap w.params).objs.size,(boot_heap w.params).nsMap mainGlobals "__annotations__")=(true,11,ann):=λw=>by
 rw[PySem.W.Fast.te8920871248978507458]
 kernel_rfl
theorem Kg(w:World):staticsOk (importedModules pw.main.body) (boot_heap w.params) (H1 w.params)=true:=by
 first | (rw[PySem.W.Fast.te4187177175401517315,PySem.W.Fast.te5923862056798008813];kernel_rfl) | (rw[PySem.W.Fast.te4187177175401517315];kernel_rfl) | (rw[PySem.W.Fast.te5923862056798008813];kernel_rfl) | (kernel_rfl)
theorem Kl(w:World):namesBound pw (H1 w.params)=true:=by
 first | (rw[PySem.W.Fast.te4187177175401517315,PySem.W.Fast.te5923862056798008813];kernel_rfl) | (rw[PySem.W.Fast.te4187177175401517315];kernel_rfl) | (rw[PySem.W.Fast.te5923862056798008813];kernel_rfl) | (kernel_rfl)
theorem J7(w:World)(os:_):gensDone ⟨H1 w.params,⟨[]⟩,⟨0,0,0,0⟩,893,os⟩=true:=by
 first | (rw[PySem.W.Fast.te4187177175401517315,PySem.W.Fast.te5923862056798008813];kernel_rfl) | (rw[PySem.W.Fast.te4187177175401517315];kernel_rfl) | (rw[PySem.W.Fast.te5923862056798008813];kernel_rfl) | (kernel_rfl)
theorem Ko(w:World):laidKept (boot_heap w.params) (H1 w.params)=true:=by
 first | (rw[PySem.W.Fast.te4187177175401517315,PySem.W.Fast.te5923862056798008813];kernel_rfl) | (rw[PySem.W.Fast.te4187177175401517315];kernel_rfl) | (rw[PySem.W.Fast.te5923862056798008813];kernel_rfl) | (kernel_rfl)
theorem Kq(w:World)(os:_):openSeen vw loose (importedModules pw.main.body) Xt true ⟨H1 w.params,⟨[]⟩,⟨0,0,0,0⟩,893,os⟩=openGood vw loose:=by
 first | (rw[PySem.W.Fast.te4187177175401517315,PySem.W.Fast.te5923862056798008813];kernel_rfl) | (rw[PySem.W.Fast.te4187177175401517315];kernel_rfl) | (rw[PySem.W.Fast.te5923862056798008813];kernel_rfl) | (kernel_rfl)
theorem Ke(w:World)(os:_):Hook.obs hook ⟨H1 w.params,⟨[]⟩,⟨0,0,0,0⟩,893,os⟩=Hook.val hook w:=by
 first | (rw[PySem.W.Fast.te4187177175401517315,PySem.W.Fast.te5923862056798008813];kernel_rfl) | (rw[PySem.W.Fast.te4187177175401517315];kernel_rfl) | (rw[PySem.W.Fast.te5923862056798008813];kernel_rfl) | (kernel_rfl)
theorem E6:∀ w:World,(λos=>((staticsOk (importedModules pw.main.body) (boot_heap w.params) (H1 w.params)&&namesBound pw (H1 w.params)&&gensDone ⟨H1 w.params,⟨[]⟩,⟨0,0,0,0⟩,893,os⟩&&laidKept (boot_heap w.params) (H1 w.params)),
  openSeen vw loose (importedModules pw.main.body) Xt true ⟨H1 w.params,⟨[]⟩,⟨0,0,0,0⟩,893,os⟩,Hook.obs hook ⟨H1 w.params,⟨[]⟩,⟨0,0,0,0⟩,893,os⟩))=λ_=>(true,openGood vw loose,Hook.val hook w):=λw=>funext λos=>by
 rw[Kg,Kl,J7,Ko,Kq,Ke];rfl
theorem HJ:LeftO pw vw loose Xt (Hook.obs hook) (Hook.val hook) 7942 :=
 LeftO.of_pieces (H₀:=boot_heap) (H₁:=H1) (gs₀:=⟨[]⟩) (gs₁:=⟨[]⟩) (d₀:=boot_drawn) (d₁:=⟨0,0,0,0⟩) (k₀:=boot_toks) (k₁:=893) (m₀:=11) (ann:=ann) (M:=(12+(1+(1326+(1477+(1108+2))))))
  (boot_open (by kernel_rfl) (by kernel_rfl) (λs=>by kernel_rfl)) HS Iy (by kernel_rfl) E6
end HD
open PySem PySem.W
theorem HD.said:PySem.Challenge.rw_dialvault_k52_whole_pairs_of_great_dials.wellSaid=true:=by
 decide +kernel
namespace uu
open PySem L2 PyProof.Rows
def fq:Addr:=65
def ia:Addr:=91
def f7:Addr:=117
def jm:Addr:=136
def az:Addr:=441
def jD:Addr:=155
def n5:Addr:=174
def aq:Addr:=256
abbrev cI(i:Int):af->M PV:=λ_=>M.ok (.int i)
def iE:af->M Out :=
 (ar (retS (AF (DM (λa=>o_ a "int") uw uw (ae 0)) (EM (DM (λa=>o_ a "bool") uw uw (ae 0)))))
 au)
def eX:List PV->M PV:=bu 1 (aC 1 iE)
def jr:af->M Out :=
 (ar (lh (G4 (k6 (fE (DM (λa=>["list", "tuple"].any λt=>o_ a t) uw uw (ae 0)))) (fE (aj qi (ai fx (aa (ae 0) ao)) (ae 1)))) (ar (retS (λ_=>M.ok (.bl false)))
 au) au)
 (ar (retS (ai rW (aa (dw (cO (itemsOf (ae 0)) (bW 0) none (ai eX (aa (ae 0) ao)) 1 [])) ao)))
 au))
def fw:List PV->M PV:=bu 2 (aC 2 jr)
def jl:af->M Out :=
 (ar (bo 2 (j4 (aa (ae 0) (aa (cI 1) (aa (cI 0) ao)))))
 (ar (bo 3 (j4 (aa (ae 1) (aa (cI 0) (aa (cI 1) ao)))))
 (ar (n8 (fE (aj qi (aj aQ (ae 3) (cI 0)) (cI 0))) (ar (bo 4 (aj bB (aj aQ (ae 2) (cI 0)) (aj aQ (ae 3) (cI 0))))
 (ar (bo 5 (j4 (aa (aj mf (aj aQ (ae 2) (cI 0)) (aj ck (ae 4) (aj aQ (ae 3) (cI 0)))) (aa (aj mf (aj aQ (ae 2) (cI 1)) (aj ck (ae 4) (aj aQ (ae 3) (cI 1)))) (aa (aj mf (aj aQ (ae 2) (cI 2)) (aj ck (ae 4) (aj aQ (ae 3) (cI 2)))) ao)))))
 (ar (bo 2 (ae 3))
 (ar (bo 3 (ae 5))
 au)))))
 (ar (lh (fE (aj Cs (aj aQ (ae 2) (cI 0)) (cI 0))) (ar (retS (j4 (aa (jP (aj aQ (ae 2) (cI 0))) (aa (jP (aj aQ (ae 2) (cI 1))) (aa (jP (aj aQ (ae 2) (cI 2))) ao)))))
 au) au)
 (ar (retS (ae 2))
 au)))))
def fm:List PV->M PV:=bu 2 (aC 6 jl)
def ff:af->M Out :=
 (ar (bo 1 (cI 1))
 (ar (iQ (itemsOf (ae 0)) (bW 2) (ar (bo 1 (aj ck (aj bB (ae 1) (aj aQ (ai fm (aa (ae 1) (aa (ae 2) ao))) (cI 0))) (ae 2)))
 au))
 (ar (retS (ae 1))
 au)))
def e9:List PV->M PV:=bu 1 (aC 3 ff)
def iF:af->M Out :=
 (ar (retS (ai dC (aa (dw (cO (kn m_ (aa (ae 0) ao)) (bW 0) none (xn (fE (aj rN (ae 0) (ae 1))) (cI 1) (cI 0)) 1 [1])) ao)))
 au)
def ir:List PV->M PV:=bu 2 (aC 2 iF)
def iu:af->M Out :=
 (ar (retS (aj cQ (ai ym (aa (dw (cO (kn zip2 (aa (ae 0) (aa (ae 1) ao))) (cP 0 1) none (aj ck (ae 0) (ae 1)) 2 [])) ao)) (ae 2)))
 au)
def iw:List PV->M PV:=bu 3 (aC 3 iu)
def dQ:af->M Out :=
 (ar (retS (AF (ai eX (aa (ae 0) ao)) (kd BQ BQ (ae 1) (ae 0) (ae 2))))
 au)
def c6:List PV->M PV:=bu 3 (aC 3 dQ)
def fS:af->M Out :=
 (ar (lh (fE (aj DE (ai fx (aa (ae 0) ao)) (cI 6))) (ar (j6 jD (aa (λ_=>M.ok (.str "a vault has at most six dials")) ao))
 au) au)
 (ar (lh (fE (aj rN (ai fx (aa (ae 0) ao)) (cI 0))) (ar (iN fq "dial" (aa (cI 0) ao))
 au) au)
 (ar (iQ (kn Bp (aa (ae 0) ao)) (cP 1 2) (ar (lh (k6 (fE (ai c6 (aa (ae 2) (aa (cI 2) (aa (cI 360) ao)))))) (ar (iN fq "dial" (aa (ae 1) ao))
 au) au)
 au))
 au)))
def fX:List PV->M PV:=bu 1 (aC 3 fS)
def cT:af->M Out :=
 (ar (lh (fE (aj qi (ae 0) (ae 1))) (ar (j6 n5 (aa (λ_=>M.ok (.str "these dials have unlike sizes")) ao))
 au) au)
 au)
def cS:List PV->M PV:=bu 2 (aC 2 cT)
def fb:af->M Out :=
 (ar (lh (fE (aj DE (ai fx (aa (ae 0) ao)) (cI 8))) (ar (j6 jD (aa (λ_=>M.ok (.str "a vault has at most eight levers")) ao))
 au) au)
 (ar (iQ (kn Bp (aa (ae 0) ao)) (cP 2 3) (ar (lh (k6 (fE (ai fw (aa (ae 3) (aa (ae 1) ao))))) (ar (iN ia "lever" (aa (ae 2) ao))
 au) au)
 au))
 au))
def e_:List PV->M PV:=bu 2 (aC 4 fb)
def fY:af->M Out :=
 (ar (lh (fE (aj zr (ae 1) (λ_=>M.ok .cy))) (ar (retS (aj ck (j4 (aa (cI 1) ao)) (ai fx (aa (ae 0) ao))))
 au) au)
 (ar (iQ (kn m_ (aa (ai (Dq λi j=>if j>i then j else i) (aa (ai fx (aa (ae 0) ao)) (aa (ai fx (aa (ae 1) ao)) ao))) ao)) (bW 2) (ar (lh (G4 (fE (aj Gw (ae 2) (ai fx (aa (ae 0) ao)))) (fE (aj Gw (ae 2) (ai fx (aa (ae 1) ao))))) (ar (iN f7 "lever" (aa (ae 2) ao))
 au) au)
 (ar (lh (k6 (fE (ai c6 (aa (aj aQ (ae 1) (ae 2)) (aa (cI 1) (aa (cI 1000) ao)))))) (ar (iN f7 "lever" (aa (ae 2) ao))
 au) au)
 au)))
 (ar (retS (ai dC (aa (ae 1) ao)))
 au)))
def fW:List PV->M PV:=bu 2 (aC 3 fY)
def kI:af->M Out :=
 (ar (retS (ai dC (aa (dw (cO (kn zip2 (aa (ae 0) (aa (ae 1) ao))) (cP 0 1) none (aj cQ (ae 0) (ae 1)) 2 [])) ao)))
 au)
def jE:List PV->M PV:=bu 2 (aC 2 kI)
def kA:af->M Out :=
 (ar (retS (ai dC (aa (dw (cO (kn zip2 (aa (ae 0) (aa (ae 2) ao))) (cP 0 1) none (aj dF (aj ck (ae 2) (ae 0)) (aj ck (ae 3) (ae 1))) 2 [1,3])) ao)))
 au)
def jA:List PV->M PV:=bu 4 (aC 4 kA)
def eg:af->M Out :=
 (ar (bo 5 (ai jA (aa (aj aQ (ae 1) (cI 0)) (aa (ae 2) (aa (aj aQ (ae 3) (cI 0)) (aa (ae 4) ao))))))
 (ar (retS (j4 (aa (ai jE (aa (ae 5) (aa (ae 0) ao))) (aa (ai jA (aa (aj aQ (ae 1) (cI 1)) (aa (ae 2) (aa (aj aQ (ae 3) (cI 1)) (aa (ae 4) ao))))) ao))))
 au))
def dj:List PV->M PV:=bu 5 (aC 6 eg)
def dS:af->M Out :=
 (ar (bo 3 (aj aQ (aj aQ (aj aQ (ae 1) (ae 2)) (cI 0)) (ae 2)))
 (ar (retS (xn (fE (aj rN (ae 3) (cI 0))) (aj aQ (ae 0) (ae 2)) (ae 3)))
 au))
def cX:List PV->M PV:=bu 3 (aC 4 dS)
def iG:af->M Out :=
 (ar (tq 3 (l5 ao))
 (ar (iQ (kn Bp (aa (ae 1) ao)) (cP 4 5) (ar (bo 6 (ai cX (aa (ae 0) (aa (ae 1) (aa (ae 4) ao)))))
 (ar (bo 7 (aj aQ (aj aQ (ae 2) (cI 0)) (ae 4)))
 (ar (bo 8 (ai fm (aa (ae 6) (aa (ae 7) ao))))
 (ar (nI 3 (ai dj (aa (ae 0) (aa (ae 5) (aa (aj aQ (ae 8) (cI 1)) (aa (ae 2) (aa (aj aQ (ae 8) (cI 2)) ao)))))))
 (ar (bo 2 (ai dj (aa (ae 0) (aa (ae 2) (aa (aj bB (ae 6) (aj aQ (ae 8) (cI 0))) (aa (ae 5) (aa (jP (aj bB (ae 7) (aj aQ (ae 8) (cI 0)))) ao)))))))
 au))))))
 (ar (sL [3] (retS (j4 (aa (ae 3) (aa (aj aQ (ae 2) (cI 1)) ao)))))
 au)))
def iH:List PV->M PV:=bu 3 (aC 9 iG)
def h_:af->M Out :=
 (ar (iQ (kn xI (aa (ae 3) (aa (ai fx (aa (ae 0) ao)) ao))) (bW 4) (ar (bo 5 (aj bB (aj aQ (aj aQ (ae 2) (cI 0)) (ae 4)) (ai cX (aa (ae 0) (aa (ae 1) (aa (ae 4) ao))))))
 (ar (bo 2 (ai dj (aa (ae 0) (aa (ae 2) (aa (cI 1) (aa (aj aQ (ae 1) (ae 4)) (aa (jP (ae 5)) ao)))))))
 au)))
 (ar (retS (ae 2))
 au))
def eT:List PV->M PV:=bu 4 (aC 6 h_)
def gi:af->M Out :=
 (ar (iQ (kn yh (aa (aj mf (ai fx (aa (ae 1) ao)) (cI 1)) (aa (jP (cI 1)) (aa (jP (cI 1)) ao)))) (bW 2) (ar (bo 3 (aj aQ (ae 1) (ae 2)))
 (ar (bo 0 (ai jA (aa (ae 0) (aa (cI 1) (aa (ae 3) (aa (jP (aj bB (aj aQ (ae 0) (ae 2)) (aj aQ (ae 3) (ae 2)))) ao))))))
 au)))
 (ar (retS (ae 0))
 au))
def gk:List PV->M PV:=bu 2 (aC 4 gi)
def gR:af->M Out :=
 (ar (lh (fE (aj Cs (ae 1) (ai fx (aa (ae 0) ao)))) (ar (retS (aj aQ (ae 0) (ae 1)))
 au) au)
 (ar (retS (aj cQ (aj ck (aj dF (ae 1) (cI 2)) (cI 104729)) (cI 65537)))
 au))
def gP:List PV->M PV:=bu 2 (aC 2 gR)
def eY:af->M Out :=
 (ar (bo 2 (aj cQ (aj dF (aj dF (aj ck (aj cQ (ae 0) (cI 2147483647)) (cI 48271)) (aj ck (cI 7919) (ae 1))) (cI 13)) (cI 2147483629)))
 (ar (bo 2 (aj cQ (aj dF (aj dF (aj ck (ae 2) (ae 2)) (aj ck (cI 104729) (ae 1))) (cI 7)) (cI 2147483587)))
 (ar (retS (aj cQ (aj ck (ae 2) (ae 2)) (cI 2147483579)))
 au)))
def c9:List PV->M PV:=bu 2 (aC 3 eY)
def cR:af->M Out :=
 (ar (tq 2 (l5 ao))
 (ar (iQ (itemsOf (ae 1)) (bW 3) (ar (nI 2 (aj cQ (ae 0) (ae 3)))
 (ar (bo 0 (aj bB (ae 0) (ae 3)))
 au)))
 (ar (sL [2] (retS (ai dC (aa (ae 2) ao))))
 au)))
def cx:List PV->M PV:=bu 2 (aC 4 cR)
def gI:af->M Out :=
 (ar (lh (fE (aj rN (aj cQ (ae 0) (cI 3)) (cI 0))) (ar (retS (aj dF (cI 2) (aj cQ (aj bB (ae 0) (cI 3)) (cI 359))))
 au) au)
 (ar (retS (aj ck (aj aQ (λ_=>M.ok (.lst (([2,3,4,6,8,9,12]:List Int).map PV.int))) (aj cQ (aj bB (ae 0) (cI 3)) (cI 7))) (aj aQ (λ_=>M.ok (.lst (([1,2,5,10,30]:List Int).map PV.int))) (aj cQ (aj bB (ae 0) (cI 21)) (cI 5)))))
 au))
def dP:List PV->M PV:=bu 1 (aC 1 gI)
def fL:af->M Out :=
 (ar (lh (fE (aj rN (aj cQ (ae 0) (cI 2)) (cI 0))) (ar (retS (dw (cO (itemsOf (ai cx (aa (aj bB (ae 0) (cI 12)) (aa (aj ck (oS (aa (cI 359) ao)) (aj dF (cI 1) (aj cQ (aj bB (ae 0) (cI 2)) (cI 6)))) ao)))) (bW 0) none (aj dF (cI 2) (ae 0)) 1 [])))
 au) au)
 (ar (bo 1 (aj aQ (λ_=>M.ok (.lst (([1,2,3,4,2,3,5,6]:List Int).map PV.int))) (aj cQ (aj bB (ae 0) (cI 2)) (cI 8))))
 (ar (retS (dw (cO (kn m_ (aa (ae 1) ao)) (bW 0) none (ai dP (aa (ai c9 (aa (aj bB (ae 1) (cI 16)) (aa (ae 0) ao))) ao)) 1 [0])))
 au)))
def fJ:List PV->M PV:=bu 1 (aC 2 fL)
def fM:af->M Out :=
 (ar (lh (fE (aj rN (aj cQ (ae 0) (cI 2)) (cI 0))) (ar (retS (ai cx (aa (aj bB (ae 0) (cI 2)) (aa (ae 1) ao))))
 au) au)
 (ar (bo 2 (aj aQ (λ_=>M.ok (.lst (([1,2,3,6,12,30]:List Int).map PV.int))) (aj cQ (aj bB (ae 0) (cI 2)) (cI 6))))
 (ar (tq 3 (l5 ao))
 (ar (iQ (kn Bp (aa (ae 1) ao)) (cP 4 5) (ar (bo 6 (ai c9 (aa (aj bB (ae 0) (cI 12)) (aa (ae 4) ao))))
 (ar (nI 3 (aj ck (aj cQ (aj ck (aj bB (ae 6) (cI 4)) (ae 2)) (ae 5)) (ai vQ (aa (aj DE (aj cQ (ae 6) (cI 4)) (cI 0)) ao))))
 au)))
 (ar (sL [3] (retS (ai dC (aa (ae 3) ao))))
 au)))))
def dq:List PV->M PV:=bu 2 (aC 7 fM)
def ee:af->M Out :=
 (ar (bo 1 (cI 1))
 (ar (iQ (itemsOf (ae 0)) (bW 2) (ar (bo 1 (aj ck (ae 1) (ae 2)))
 au))
 (ar (retS (ae 1))
 au)))
def bG:List PV->M PV:=bu 1 (aC 3 ee)
def cV:af->M Out :=
 (ar (bo 3 (aj ck (oS (aa (cI 0) ao)) (ai fx (aa (ae 2) ao))))
 (ar (lh (fE (aj rN (aj cQ (ae 0) (cI 3)) (cI 0))) (ar (bo 3 (ai cx (aa (aj bB (ae 0) (cI 3)) (aa (ae 2) ao))))
 au) au)
 (ar (iQ (kn m_ (aa (aj cQ (ae 0) (cI 3)) ao)) (bW 4) (ar (iQ (kn Bp (aa (aj aQ (ae 1) (aj cQ (aj dF (ae 4) (aj bB (ae 0) (cI 3))) (cI 2))) ao)) (cP 5 6) (ar (bo 7 (aj cQ (ai c9 (aa (ae 0) (aa (aj dF (aj dF (cI 60) (aj ck (cI 10) (ae 4))) (ae 5)) ao))) (cI 1000)))
 (ar (bo 3 (dw (cO (kn w_ (aa (ae 3) (aa (ae 6) (aa (ae 2) ao)))) (pK 0 1 2) none (aj cQ (aj dF (ae 0) (aj ck (ae 3) (ae 1))) (ae 2)) 3 [7])))
 au)))
 au))
 (ar (retS (ai dC (aa (ae 3) ao)))
 au))))
def c_:List PV->M PV:=bu 3 (aC 8 cV)
def iJ:af->M Out :=
 (ar (kK (ai fX (aa (ae 1) ao)))
 (ar (kK (ai e_ (aa (ae 2) (aa (ai fx (aa (ae 1) ao)) ao))))
 (ar (ki 0 aq "dial_sizes" (ai dC (aa (ae 1) ao)))
 (ar (ki 0 aq "lever_settings" (ai dC (aa (dw (cO (itemsOf (ae 2)) (bW 0) none (ai jE (aa (ae 0) (aa (ae 1) ao))) 1 [1])) ao)))
 (ar (ki 0 aq "lever_prices" (ai fW (aa (ae 2) (aa (ae 3) ao))))
 (ar (ki 0 aq "least_round" (ai e9 (aa (ae 1) ao)))
 au))))))
def cv:Addr->List PV->M (List (Str×PV)):=qh 4 (xF 4 iJ aq)
def a_:af->M Out :=
 (ar (retS (dX (λc=>c==aq) "dial_sizes" (ae 0)))
 au)
def aJ:List PV->M PV:=bu 1 (aC 1 a_)
def bx:af->M Out :=
 (ar (retS (dX (λc=>c==aq) "lever_settings" (ae 0)))
 au)
def aX:List PV->M PV:=bu 1 (aC 1 bx)
def c8:af->M Out :=
 (ar (retS (dX (λc=>c==aq) "least_round" (ae 0)))
 au)
def cF:List PV->M PV:=bu 1 (aC 1 c8)
def dE:af->M Out :=
 (ar (bo 1 (bh aq "sizes" aJ (dX (λc=>c==az) "vault" (ae 0)) ao))
 (ar (retS (ai dC (aa (dw (cO (kn m_ (aa (ai fx (aa (ae 1) ao)) ao)) (bW 0) none (ai cX (aa (ae 2) (aa (dX (λc=>c==az) "made_rows" (ae 1)) (aa (ae 0) ao)))) 1 [0,1])) ao)))
 au))
def bO:List PV->M PV:=bu 1 (aC 2 dE)
def fU:af->M Out :=
 (ar (retS (dw (cO (itemsOf (dX (λc=>c==az) "made_rows" (ae 0))) (bW 0) none (aj aQ (ae 0) (cI 0)) 1 [])))
 au)
def fH:List PV->M PV:=bu 1 (aC 1 fU)
def ig:af->M Out :=
 (ar (retS (aj ck (j4 (aa (cI 0) ao)) (ai fx (aa (bh aq "sizes" aJ (ae 0) ao) ao))))
 au)
def gb:List PV->M PV:=bu 1 (aC 1 ig)
def fN:af->M Out :=
 (ar (bo 2 (bh aq "sizes" aJ (ae 0) ao))
 (ar (lh (G4 (k6 (fE (DM (λa=>o_ a "tuple") uw uw (ae 1)))) (k6 (fE (ai fw (aa (ae 1) (aa (ai fx (aa (ae 2) ao)) ao)))))) (ar (retS (λ_=>M.ok (.bl false)))
 au) au)
 (ar (retS (ai rW (aa (dw (cO (kn zip2 (aa (ae 1) (aa (ae 2) ao))) (cP 0 1) none (kd BQ Cs (cI 0) (ae 0) (ae 1)) 2 [])) ao)))
 au)))
def f6:List PV->M PV:=bu 2 (aC 3 fN)
def c7:af->M Out :=
 (ar (lh (k6 (fE (ai f6 (aa (ae 0) (aa (ae 1) ao))))) (ar (j6 jm (aa (λ_=>M.ok (.str "this is no setting of the vault")) ao))
 au) au)
 au)
def cG:List PV->M PV:=bu 2 (aC 2 c7)
def mH:af->M Out :=
 (ar (kK (ai cG (aa (ae 0) (aa (ae 1) ao))))
 (ar (kK (ai cG (aa (ae 0) (aa (ae 2) ao))))
 (ar (bo 3 (bh aq "around" cF (ae 0) ao))
 (ar (bo 4 (dw (cO (kn zip2 (aa (ae 1) (aa (bh aq "sizes" aJ (ae 0) ao) ao))) (cP 0 1) none (aj ck (ae 0) (aj bB (ae 2) (ae 1))) 2 [3])))
 (ar (retS (ai iw (aa (ae 4) (aa (ae 2) (aa (ae 3) ao)))))
 au)))))
def mG:List PV->M PV:=bu 3 (aC 5 mH)
def gC:af->M Out :=
 (ar (retS (j4 (aa (ae 1) (aa (aj ck (j4 (aa (cI 0) ao)) (ai fx (aa (bh aq "levers" aX (ae 0) ao) ao))) ao))))
 au)
def e7:List PV->M PV:=bu 2 (aC 2 gC)
def fc:af->M Out :=
 (ar (bo 2 (bh aq "levers" aX (ae 0) ao))
 (ar (retS (j4 (aa (aj aQ (ae 2) (ae 1)) (aa (ai ir (aa (ai fx (aa (ae 2) ao)) (aa (ae 1) ao))) ao))))
 au))
def fg:List PV->M PV:=bu 2 (aC 3 fc)
def iT:af->M Out :=
 (ar (bo 2 (bh aq "sizes" aJ (ae 1) ao))
 (ar (bo 3 (dw (cO (itemsOf (ae 2)) (bW 0) none (ai e7 (aa (ae 1) (aa (ai gb (aa (ae 1) ao)) ao))) 1 [1])))
 (ar (tq 4 (l5 ao))
 (ar (iQ (kn m_ (aa (ai fx (aa (bh aq "levers" aX (ae 1) ao) ao)) ao)) (bW 5) (ar (bo 6 (ai iH (aa (ae 2) (aa (ae 3) (aa (ai fg (aa (ae 1) (aa (ae 5) ao))) ao)))))
 (ar (bo 3 (aj aQ (ae 6) (cI 0)))
 (ar (nI 4 (uc 4 (ai gk (aa (aj aQ (ae 6) (cI 1)) (aa (ae 4) ao)))))
 au))))
 (ar (ki 0 az "vault" (ae 1))
 (ar (ki 0 az "made_rows" (dw (cO (kn Bp (aa (ae 3) ao)) (cP 0 1) none (ai eT (aa (ae 2) (aa (ae 3) (aa (ae 1) (aa (aj dF (ae 0) (cI 1)) ao))))) 2 [2,3])))
 (ar (sL [4] (ki 0 az "idle_rows" (ae 4)))
 au)))))))
def cL:Addr->List PV->M (List (Str×PV)):=qh 2 (xF 7 iT az)
def cu:af->M Out :=
 (ar (kK (ai cG (aa (dX (λc=>c==az) "vault" (ae 0)) (aa (ae 1) ao))))
 (ar (retS (ai eT (aa (bh aq "sizes" aJ (dX (λc=>c==az) "vault" (ae 0)) ao) (aa (dX (λc=>c==az) "made_rows" (ae 0)) (aa (ai e7 (aa (dX (λc=>c==az) "vault" (ae 0)) (aa (ae 1) ao))) (aa (cI 0) ao))))))
 au))
def bH:List PV->M PV:=bu 2 (aC 2 cu)
def cH:af->M Out :=
 (ar (bo 2 (bh az "brought_down" bH (ae 0) (aa (ae 1) ao)))
 (ar (lh (fE (aj qi (aj aQ (ae 2) (cI 0)) (ai gb (aa (dX (λc=>c==az) "vault" (ae 0)) ao)))) (ar (retS (λ_=>M.ok .cy))
 au) au)
 (ar (retS (ai gk (aa (ai dC (aa (dw (cO (itemsOf (aj aQ (ae 2) (cI 1))) (bW 0) none (jP (ae 0)) 1 [])) ao)) (aa (dX (λc=>c==az) "idle_rows" (ae 0)) ao))))
 au)))
def bQ:List PV->M PV:=bu 2 (aC 3 cH)
def cM:af->M Out :=
 (ar (bo 2 (bh aq "sizes" aJ (dX (λc=>c==az) "vault" (ae 0)) ao))
 (ar (lh (k6 (fE (ai c6 (aa (ae 1) (aa (cI 0) (aa (aj mf (ai fx (aa (ae 2) ao)) (cI 1)) ao)))))) (ar (iN fq "dial" (aa (ae 1) ao))
 au) au)
 (ar (bo 3 (dw (cO (kn zip2 (aa (ae 2) (aa (bh az "steps" bO (ae 0) ao) ao))) (cP 0 1) none (aj bB (ae 0) (ae 1)) 2 [])))
 (ar (tq 4 (FQ (oS (aa (cI 0) ao)) (ai fx (aa (ae 2) ao))))
 (ar (Hd 4 (ae 1) (aj cQ (aj aQ (ae 3) (ae 1)) (aj aQ (ae 2) (ae 1))))
 (ar (iQ (kn yh (aa (aj mf (ae 1) (cI 1)) (aa (jP (cI 1)) (aa (jP (cI 1)) ao)))) (bW 5) (ar (bo 6 (uc 4 (ai mG (aa (dX (λc=>c==az) "vault" (ae 0)) (aa (ai dC (aa (ae 4) ao)) (aa (aj aQ (aj aQ (dX (λc=>c==az) "made_rows" (ae 0)) (ae 5)) (cI 0)) ao))))))
 (ar (bo 7 (aj bB (bh aq "around" cF (dX (λc=>c==az) "vault" (ae 0)) ao) (aj aQ (ae 3) (ae 5))))
 (ar (Hd 4 (ae 5) (aj cQ (jP (aj bB (ae 6) (ae 7))) (aj aQ (ae 3) (ae 5))))
 au))))
 (ar (sL [4] (retS (ai dC (aa (ae 4) ao))))
 au)))))))
def br:List PV->M PV:=bu 2 (aC 8 cM)
def jB:af->M Out :=
 (ar (bo 1 (ai gb (aa (ae 0) ao)))
 (ar (retS (ai (dy aq cv [.cy]) (aa (bh aq "sizes" aJ (ae 0) ao) (aa (dw (cO (itemsOf (bh az "rows" fH (ai (dy az cL []) (aa (ae 0) ao)) ao)) (bW 0) (some (fE (aj qi (ae 0) (ae 1)))) (ae 0) 1 [1])) ao))))
 au))
def iA:List PV->M PV:=bu 1 (aC 2 jB)
def iB:af->M Out :=
 (ar (bo 2 (ai (dy aq cv [.cy]) (aa (ae 0) (aa (oS ao) ao))))
 (ar (iQ (itemsOf (ae 1)) (bW 3) (ar (bo 2 (ai iA (aa (ai (dy aq cv [.cy]) (aa (ae 0) (aa (aj dF (ai vJ (aa (bh aq "levers" aX (ae 2) ao) ao)) (oS (aa (ae 3) ao))) ao))) ao)))
 au))
 (ar (retS (ae 2))
 au)))
def gg:List PV->M PV:=bu 2 (aC 4 iB)
def kH:af->M Out :=
 (ar (bo 1 (ai (dy az cL []) (aa (ae 0) ao)))
 (ar (bo 2 (bh aq "sizes" aJ (ae 0) ao))
 (ar (retS (ai iA (aa (ai (dy aq cv [.cy]) (aa (ae 2) (aa (dw (cO (kn m_ (aa (ai fx (aa (ae 2) ao)) ao)) (bW 0) none (bh az "weights_at" br (ae 1) (aa (ae 0) ao)) 1 [1])) ao))) ao)))
 au)))
def gj:List PV->M PV:=bu 1 (aC 3 kH)
def f_:af->M Out :=
 (ar (kK (ai cS (aa (bh aq "sizes" aJ (ae 0) ao) (aa (bh aq "sizes" aJ (ae 1) ao) ao))))
 (ar (retS (ai gg (aa (bh aq "sizes" aJ (ae 0) ao) (aa (aj dF (bh aq "levers" aX (ae 0) ao) (bh aq "levers" aX (ae 1) ao)) ao))))
 au))
def gE:List PV->M PV:=bu 2 (aC 2 f_)
def qF:af->M Out :=
 (ar (retS (ai gj (aa (ai gE (aa (ai gj (aa (ae 0) ao)) (aa (ai gj (aa (ae 1) ao)) ao))) ao)))
 au)
def oB:List PV->M PV:=bu 2 (aC 2 qF)
def fk:af->M Out :=
 (ar (retS (aj jF (bh az "pulls_to" bQ (ae 0) (aa (ae 1) ao)) (λ_=>M.ok .cy)))
 au)
def bY:List PV->M PV:=bu 2 (aC 2 fk)
def zu:af->M Out :=
 (ar (bo 1 (ai fJ (aa (ai gP (aa (ae 0) (aa (cI 0) ao))) ao)))
 (EA 2 4 3 (itemsOf (nZ (ae 0) (j7 (cI 1)) (j7 (cI 17)))) (aj cQ (aj bB (ae 3) (cI 9)) (cI 2)) (ai dq (aa (aj bB (ae 3) (cI 18)) (aa (ae 1) ao)))
 (ar (bo 5 (ai (dy aq cv [.cy]) (aa (ae 1) (aa (aj aQ (ae 2) (cI 0)) ao))))
 (ar (bo 6 (ai (dy aq cv [.cy]) (aa (ae 1) (aa (aj aQ (ae 2) (cI 1)) ao))))
 (ar (bo 7 (ai (dy az cL []) (aa (ae 5) ao)))
 (ar (bo 8 (ai (dy az cL []) (aa (ae 6) ao)))
 (ar (bo 9 (ai (dy az cL []) (aa (ai oB (aa (ae 5) (aa (ae 6) ao))) ao)))
 (ar (bo 10 (ai (dy az cL []) (aa (ai gE (aa (ae 5) (aa (ae 6) ao))) ao)))
 (ar (bo 11 (aj ck (ai bG (aa (bh az "steps" bO (ae 7) ao) ao)) (ai bG (aa (bh az "steps" bO (ae 8) ao) ao))))
 (ar (lh (fE (aj qi (aj ck (ai bG (aa (bh az "steps" bO (ae 9) ao) ao)) (ai bG (aa (bh az "steps" bO (ae 10) ao) ao))) (ae 11))) (ar (retS (λ_=>M.ok (.bl false)))
 au) au)
 (ar (iQ (itemsOf (aj dF (aj aQ (ae 2) (cI 0)) (aj aQ (ae 2) (cI 1)))) (bW 12) (ar (lh (k6 (fE (ai bY (aa (ae 10) (aa (ae 12) ao))))) (ar (retS (λ_=>M.ok (.bl false)))
 au) au)
 au))
 (ar (iQ (itemsOf (aj dF (oS (aa (cI 0) ao)) (nZ (ae 0) (j7 (cI 1)) (j7 (cI 63))))) (bW 3) (ar (bo 13 (ai c_ (aa (ae 3) (aa (ae 2) (aa (ae 1) ao)))))
 (ar (lh (fE (aj qi (ai bY (aa (ae 9) (aa (ae 13) ao))) (AF (ai bY (aa (ae 7) (aa (ae 13) ao))) (ai bY (aa (ae 8) (aa (ae 13) ao)))))) (ar (retS (λ_=>M.ok (.bl false)))
 au) au)
 (ar (lh (D_ (fE (aj DE (aj cQ (ae 3) (cI 3)) (cI 0))) (k6 (fE (ai bY (aa (ae 10) (aa (ae 13) ao)))))) (ar (retS (λ_=>M.ok (.bl false)))
 au) au)
 au))))
 (ar (retS (aj rN (bh aq "levers" aX (ai oB (aa (ae 5) (aa (ae 5) ao))) ao) (bh aq "levers" aX (ai iA (aa (ae 5) ao)) ao)))
 au)))))))))))))
def pE:List PV->M PV:=bu 1 (aC 14 zu)
end uu
namespace uu
open PySem L2 PyProof.Rows
local macro_rules | `(tactic| walk_at "s")=>`(tactic| exact⟨rfl,rfl,rfl,by decide +kernel,rfl,by decide +kernel,by decide +kernel⟩)
local macro_rules | `(tactic| walk_at "l")=>`(tactic| first | exact .inl rfl | exact .inr rfl)
local macro_rules | `(tactic| walk_at "pp")=>`(tactic| all_goals repeat' (first | ((with_reducible show kj _ _ (tS _ (ar _ _)));refine Az ?_ ?_) | ((with_reducible show kj _ _ (tS _ au));exact BV) | ((with_reducible show PE _ _ (tE _ (ae _)));exact vr _) | ((with_reducible show PA _ _ (tL _ (aa _ _)));refine vz ?_ ?_ (DW rfl)) | ((with_reducible show PA _ _ (tL _ ao));exact yM) | ((with_reducible show PE _ _ (tE _ (λ_=>M.ok (.int _))));first | exact Al | exact kz (GU (by rfl) (by assumption)) λ_=>.int _) | ((with_reducible show PE _ _ (tE _ (λ_=>M.ok (.bl _))));exact He) | ((with_reducible show PE _ _ (tE _ (λ_=>M.ok .cy)));exact Ge) | ((with_reducible show PE _ _ (tE _ (λ_=>M.ok (.str _))));exact Es) | ((with_reducible show PE _ _ (tE _ (aj dF _ _)));refine nK C4 Ea ?_ ?_) | ((with_reducible show PE _ _ (tE _ (aj mf _ _)));refine nK Ee EH ?_ ?_) | ((with_reducible show PE _ _ (tE _ (aj ck _ _)));refine nK BU Gr ?_ ?_) | ((with_reducible show PE _ _ (tE _ (aj bB _ _)));refine nK yz Bc ?_ ?_) | ((with_reducible show PE _ _ (tE _ (aj cQ _ _)));refine nK B9 Cf ?_ ?_) | ((with_reducible show PE _ _ (tE _ (aj aQ _ _)));refine Fc ?_ ?_ ?_) | ((with_reducible show qk _);exact λ_ _=>rfl) | ((with_reducible show PT _ _ (tT _ (fE (aj rN _ _))));refine jq (y9 (bZ.units (by assumption))) DY ?_ ?_ (cZ _)) | ((with_reducible show PE _ _ (tE _ (aj rN _ _)));refine ji (y9 (bZ.units (by assumption))) DY ?_ ?_ (cZ _)) | ((with_reducible show PT _ _ (tT _ (fE (aj qi _ _))));refine jq (zM (bZ.units (by assumption))) DQ ?_ ?_ (cZ _)) | ((with_reducible show PE _ _ (tE _ (aj qi _ _)));refine ji (zM (bZ.units (by assumption))) DQ ?_ ?_ (cZ _)) | ((with_reducible show PT _ _ (tT _ (fE (aj Cs _ _))));refine jq vR uV ?_ ?_ (cZ _)) | ((with_reducible show PE _ _ (tE _ (aj Cs _ _)));refine ji vR uV ?_ ?_ (cZ _)) | ((with_reducible show PT _ _ (tT _ (fE (aj BQ _ _))));refine jq tH nN ?_ ?_ (cZ _)) | ((with_reducible show PE _ _ (tE _ (aj BQ _ _)));refine ji tH nN ?_ ?_ (cZ _)) | ((with_reducible show PT _ _ (tT _ (fE (aj DE _ _))));refine jq Dz Aj ?_ ?_ (cZ _)) | ((with_reducible show PE _ _ (tE _ (aj DE _ _)));refine ji Dz Aj ?_ ?_ (cZ _)) | ((with_reducible show PT _ _ (tT _ (fE (aj Gw _ _))));refine jq DA A6 ?_ ?_ (cZ _)) | ((with_reducible show PE _ _ (tE _ (aj Gw _ _)));refine ji DA A6 ?_ ?_ (cZ _)) | ((with_reducible show PT _ _ (tT _ (fE (aj zr _ _))));refine jq zA Ae ?_ ?_ (cZ _)) | ((with_reducible show PE _ _ (tE _ (aj zr _ _)));refine ji zA Ae ?_ ?_ (cZ _)) | ((with_reducible show PT _ _ (tT _ (fE (aj jF _ _))));refine jq wy vV ?_ ?_ (cZ _)) | ((with_reducible show PE _ _ (tE _ (aj jF _ _)));refine ji wy vV ?_ ?_ (cZ _)) | ((with_reducible show PT _ _ (tT _ (k6 _)));refine FO ?_) | ((with_reducible show PT _ _ (tT _ (fE (ai _ _))));refine qj ?_) | ((with_reducible show PT _ _ (tT _ (fE (DM _ _ _ _))));refine qj ?_) | ((with_reducible show PT _ _ (tT _ (fE (bh _ _ _ _ _))));refine qj ?_) | ((with_reducible show PT _ _ (tT _ (fE (ae _))));refine qj ?_) | ((with_reducible show PS _ _ (tS _ (retS _)));refine Ex ?_) | ((with_reducible show PS _ _ (tS _ (bo _ _)));refine EU (by assumption) rfl (by walk_at "l") ?_) | ((with_reducible show PS _ _ (tS _ (lh _ _ _)));refine GR ?_ ?_ ?_) | ((with_reducible show PS _ _ (tS _ (nI _ _)));refine wF rfl (by first | exact .inl rfl | exact .inr (.inl rfl)) ?_) | ((with_reducible show PS _ _ (tS _ (tq _ _)));refine C8 (by assumption) rfl (by walk_at "l") ?_) | ((with_reducible show PE _ _ (tO _ (l5 _)));refine E1 ?_) | ((with_reducible show PS _ _ (tS _ (sL _ _)));refine Ga _ ?_) | ((with_reducible show PS _ _ (tS _ (kK _)));refine By ?_) | ((with_reducible show PS _ _ (tS _ (j6 _ _)));refine wM.raise (by assumption) (by assumption) rfl (by rfl) ?_) | ((with_reducible show PS _ _ (tS _ (iN _ _ _)));refine o6.raise (by assumption) (by assumption) (by omega) (by assumption) rfl (by rfl) ?_) | ((with_reducible show PE _ _ (tE _ (j4 _)));refine Ey ?_) | ((with_reducible show PE _ _ (tE _ (oS _)));refine yu ?_) | ((with_reducible show PE _ _ (tE _ (jP _)));refine FN ?_) | ((with_reducible show PE _ _ (tE _ (xn _ _ _)));refine Eb ?_ ?_ ?_) | ((with_reducible show PE _ _ (tE _ (dX _ _ _)));refine Gn ?_ (by assumption) rfl) | ((with_reducible show PE _ _ (tE _ (ai fx _)));refine kr qb E3 (by rfl) (by assumption) PySem.boot_len ?_) | ((with_reducible show PE _ _ (tE _ (ai dC _)));refine lp pv zH (by rfl) (by assumption) oA ?_) | ((with_reducible show PE _ _ (tE _ (ai vJ _)));refine lp rn Ck (by rfl) (by assumption) vA ?_) | ((with_reducible show PE _ _ (tE _ (ai ym _)));refine kr (w8 rfl) E_ (by rfl) (by assumption) Fd ?_) | ((with_reducible show PE _ _ (tE _ (ai rW _)));refine kr (xW rfl) Ef (by rfl) (by assumption) Fh ?_) | ((with_reducible show PE _ _ (tE _ (ai vQ _)));refine lp xP CI (by rfl) (by assumption) zV ?_) | ((with_reducible show PE _ _ (tE _ (ai (dy _ _ _) _)));refine yq.make (by assumption) (by assumption) (by omega) (by rfl) (by first | assumption | exact v9) ?_) | ((with_reducible show PE _ _ (tE _ (ai _ _)));refine dH.call (by assumption) (by assumption) (by omega) (by rfl) (by first | assumption | exact v9) ?_) | ((with_reducible show PE _ _ (tE _ (bh _ _ _ _ ao)));refine ke.Ha (by assumption) (by assumption) (by omega) (by first | assumption | exact v9) ?_) | ((with_reducible show PE _ _ (tE _ (bh _ _ _ _ _)));refine ke.call (by assumption) (by assumption) (by omega) (by first | assumption | exact v9) ?_ ?_)))
def top(i:Nat):Stmt:=PySem.Challenge.pw_dialvault_k52_whole_pairs_of_great_dials.main.body.getD i (.Pass ⟨0,0,0,0⟩)
structure Txt (K:PySem.W.Frag) (mg:Str->Option Value):Prop where
 Hg:mg "all" = none
 zW:mg "bool" = none
 da:mg "enumerate" = none
 Dr:mg "int" = none
 eI:mg "isinstance" = none
 Dv:mg "len" = none
 AG:mg "list" = none
 D4:mg "max" = none
 eG:mg "range" = none
 HU:mg "sum" = none
 qQ:mg "tuple" = none
 lQ:mg "zip" = none
 oV:∃ u,mg "LEAST_PRICE" = some u/\RelV (.int 1) u
 rf:∃ u,mg "LEAST_SIZE" = some u/\RelV (.int 2) u
 qz:∃ u,mg "MOST_DIALS" = some u/\RelV (.int 6) u
 o5:∃ u,mg "MOST_LEVERS" = some u/\RelV (.int 8) u
 qv:∃ u,mg "MOST_PRICE" = some u/\RelV (.int 1000) u
 uj:∃ u,mg "MOST_SIZE" = some u/\RelV (.int 360) u
 mE:kW K az
 kq:kW K aq
 tK:wM K mg jm "NoSetting"
 wQ:wM K mg jD "TooMany"
 AQ:wM K mg n5 "Unlike"
 gJ:bN K az "idle_rows"
 gN:bN K az "made_rows"
 jX:bN K az "vault"
 gD:bN K aq "dial_sizes"
 fG:bN K aq "least_round"
 fj:bN K aq "lever_prices"
 eJ:bN K aq "lever_settings"
 qT:∀ C,(C==aq)=true->kW K C/\bN K C "dial_sizes"
 sC:∀ C,(C==az)=true->kW K C/\bN K C "idle_rows"
 oX:∀ C,(C==aq)=true->kW K C/\bN K C "least_round"
 n6:∀ C,(C==aq)=true->kW K C/\bN K C "lever_prices"
 lM:∀ C,(C==aq)=true->kW K C/\bN K C "lever_settings"
 sT:∀ C,(C==az)=true->kW K C/\bN K C "made_rows"
 CM:∀ C,(C==az)=true->kW K C/\bN K C "vault"
local macro_rules | `(tactic| walk_at "t")=>`(tactic| (have z:=‹Txt _ _›;cases z))
variable{P:Program}{w:World}{K:PySem.W.Frag}{mg:Str->Option Value}{base:Heap}{f:Addr}{fd:FuncData}{dv:Value}
theorem uo(F:bq K "is_whole" "is_whole" (top 10) dv f fd)(T:Txt K mg)  : aV P w K mg base (bU P w) 1 f fd ["thing"] (dW 1 eX) :=
 F.gy ["thing"] λnd _ _ _ _ _ _ hr O=>by
 unfold iE;walk_at "t"
 walk_at "pp"
 refine(uz ?_ (vc ?_))
 walk_at "pp"
 refine(uB (T := "int") (by rfl) T.eI (kv (v:=.ty "int") (by rfl) T.Dr zV rfl) (by decide) u7 u7 ?_)
 walk_at "pp"
 refine(Gf ?_)
 walk_at "pp"
 refine(uB (T := "bool") (by rfl) T.eI (kv (v:=.ty "bool") (by rfl) T.zW Bx rfl) (by decide) u7 u7 ?_)
 walk_at "pp"
theorem tX:((["number"]:List Str)++([]:List Str)).Nodup:=by decide +kernel
theorem xX(F:bq K "is_row" "is_row" (top 11) dv f fd)(T:Txt K mg)(Lf:dH P w K mg base 1 "is_whole" 1 (aC 1 iE)):aV P w K mg base (bU P w) 2 f fd ["thing", "length"] (dW 2 fw) :=
 F.gy ["thing", "length"] λnd _ _ _ _ _ _ hr O=>by
 unfold jr;walk_at "t"
 walk_at "pp"
 refine(yQ ?_ (uR ?_)).pt
 walk_at "pp"
 refine(C5 (Ts:=["list", "tuple"]) (by rfl) T.eI (AV (dJ (kv (v:=.ty "list") (by rfl) T.AG vA rfl) (dJ (kv (v:=.ty "tuple") (by rfl) T.qQ oA rfl) g9))) (fun σ H R h=>⟨by show 2<=sizeLine;decide,h⟩) (by decide) u7 ?_)
 walk_at "pp"
 refine(dD (bS (g:=(aO 0)) (ts:=["number"]) (fs:=[]) (js:=[]) (cl:=[]) rfl rfl rfl rfl rfl rfl .nil .nil (eE ?_) cU (λ_ _ _ _ _=>(aZ (i:=0) tX)) (λ_=>bA) bT (λ_ _ _ _ _=>?_)))
 walk_at "pp"
theorem xR(F:bq K "common" "common" (top 12) dv f fd)(T:Txt K mg)  : aV P w K mg base (bU P w) 1 f fd ["one", "other"] (dW 2 fm) :=
 F.gy ["one", "other", "row", "behind", "times", "rest"] λnd _ _ _ _ _ _ hr O=>by
 unfold jl;walk_at "t"
 walk_at "pp"
 refine(yR O ?_ ?_)
 walk_at "pp"
theorem nv(F:bq K "multiple_of" "multiple_of" (top 13) dv f fd)(T:Txt K mg)(LI:dH P w K mg base 1 "common" 2 (aC 6 jl)):aV P w K mg base (bU P w) 2 f fd ["numbers"] (dW 1 e9) :=
 F.gy ["numbers", "multiple", "number"] λnd _ _ _ _ _ _ hr O=>by
 unfold ff;walk_at "t"
 walk_at "pp"
 refine(cp (g:=(aO 2)) O rfl (eE ?_) cU (aZ (i:=2) nd) bA ?_)
 walk_at "pp"
theorem pd:((["other"]:List Str)++(["place"]:List Str)).Nodup:=by decide +kernel
theorem tU(F:bq K "unit_row" "unit_row" (top 14) dv f fd)(T:Txt K mg)  : aV P w K mg base (bU P w) 1 f fd ["length", "place"] (dW 2 ir) :=
 F.gy ["length", "place"] λnd _ _ _ _ _ _ hr O=>by
 unfold iF;walk_at "t"
 walk_at "pp"
 refine(dD (bS (g:=(aO 0)) (ts:=["other"]) (fs:=["place"]) (js:=[1]) rfl rfl rfl rfl rfl rfl (.cons rfl .nil) (.cons rfl rfl (by walk_at "l") rfl rfl .nil) (e8 (by rfl) T.eG ?_) gq (λ_ _ _ _ _=>(aZ (i:=0) pd)) (λ_=>bA) bT (λ_ _ _ _ _=>?_)))
 walk_at "pp"
theorem jY:((["number", "other"]:List Str)++([]:List Str)).Nodup:=by decide +kernel
theorem tZ(F:bq K "rest_sum" "rest_sum" (top 15) dv f fd)(T:Txt K mg)  : aV P w K mg base (bU P w) 1 f fd ["numbers", "others", "by"] (dW 3 iw) :=
 F.gy ["numbers", "others", "by"] λnd _ _ _ _ _ _ hr O=>by
 unfold iu;walk_at "t"
 walk_at "pp"
 refine(dD (bS (g:=(jN K 2 (bM (aO 0) (bM (aO 1) jM)))) (ts:=["number", "other"]) (fs:=[]) (js:=[]) (cl:=[]) rfl rfl rfl rfl rfl rfl .nil .nil (lq (by rfl) T.lQ ?_) jx (λ_ _ _ _ _=>(eR (n:=2) rfl (aW (aZ (i:=0) jY) (aW (aZ (i:=1) jY) dh)))) (λ_=>dI) dO (λ_ _ _ _ _=>?_)))
 walk_at "pp"
theorem qC(F:bq K "is_within" "is_within" (top 24) dv f fd)(T:Txt K mg)(Lf:dH P w K mg base 1 "is_whole" 1 (aC 1 iE)):aV P w K mg base (bU P w) 2 f fd ["thing", "least", "most"] (dW 3 c6) :=
 F.gy ["thing", "least", "most"] λnd _ _ _ _ _ _ hr O=>by
 unfold dQ;walk_at "t"
 walk_at "pp"
 refine(uz ?_ (vc ?_))
 walk_at "pp"
 refine(sy tH nN tH nN ?_ ?_ ?_)
 walk_at "pp"
theorem pA(F:bq K "need_sizes" "need_sizes" (top 25) dv f fd)(T:Txt K mg)(LO:o6 P w K mg base fq "NoDial" "dial")(KQ:dH P w K mg base 2 "is_within" 3 (aC 3 dQ)):aV P w K mg base (bU P w) 3 f fd ["sizes"] (dW 1 fX) :=
 F.gy ["sizes", "dial", "size"] λnd _ _ _ _ _ _ hr O=>by
 unfold fS;walk_at "t"
 walk_at "pp"
 refine(cp (g:=(jN K 2 (bM (aO 1) (bM (aO 2) jM)))) O rfl (lJ (by rfl) T.da ?_) jz (eR (n:=2) rfl (aW (aZ (i:=1) nd) (aW (aZ (i:=2) nd) dh))) dI ?_)
 walk_at "pp"
theorem j_(F:bq K "need_same_sizes" "need_same_sizes" (top 26) dv f fd)(T:Txt K mg)  : aV P w K mg base (bU P w) 1 f fd ["sizes", "others"] (dW 2 cS) :=
 F.gy ["sizes", "others"] λnd _ _ _ _ _ _ hr O=>by
 unfold cT;walk_at "t"
 walk_at "pp"
theorem mX(F:bq K "need_levers" "need_levers" (top 27) dv f fd)(T:Txt K mg)(LJ:dH P w K mg base 2 "is_row" 2 (aC 2 jr))(Mm:o6 P w K mg base ia "NoLever" "lever"):aV P w K mg base (bU P w) 3 f fd ["levers", "dials"] (dW 2 e_) :=
 F.gy ["levers", "dials", "place", "lever"] λnd _ _ _ _ _ _ hr O=>by
 unfold fb;walk_at "t"
 walk_at "pp"
 refine(cp (g:=(jN K 2 (bM (aO 2) (bM (aO 3) jM)))) O rfl (lJ (by rfl) T.da ?_) jz (eR (n:=2) rfl (aW (aZ (i:=2) nd) (aW (aZ (i:=3) nd) dh))) dI ?_)
 walk_at "pp"
theorem pB(F:bq K "prices_for" "prices_for" (top 28) dv f fd)(T:Txt K mg)(Mn:o6 P w K mg base f7 "NoPrice" "lever")(KQ:dH P w K mg base 2 "is_within" 3 (aC 3 dQ)):aV P w K mg base (bU P w) 3 f fd ["levers", "prices"] (dW 2 fW) :=
 F.gy ["levers", "prices", "place"] λnd _ _ _ _ _ _ hr O=>by
 unfold fY;walk_at "t"
 walk_at "pp"
 refine(cp (g:=(aO 2)) O rfl (e8 (by rfl) T.eG ?_) gq (aZ (i:=2) nd) bA ?_)
 walk_at "pp"
 refine(kr (wX rfl) Df (by rfl) T.D4 E4 ?_)
 walk_at "pp"
 refine(yQ ?_ (uR ?_)).pt
 walk_at "pp"
theorem oC:((["number", "size"]:List Str)++([]:List Str)).Nodup:=by decide +kernel
theorem AS(F:bq K "rests" "rests" (top 29) dv f fd)(T:Txt K mg)  : aV P w K mg base (bU P w) 1 f fd ["numbers", "sizes"] (dW 2 jE) :=
 F.gy ["numbers", "sizes"] λnd _ _ _ _ _ _ hr O=>by
 unfold kI;walk_at "t"
 walk_at "pp"
 refine(dD (bS (g:=(jN K 2 (bM (aO 0) (bM (aO 1) jM)))) (ts:=["number", "size"]) (fs:=[]) (js:=[]) (cl:=[]) rfl rfl rfl rfl rfl rfl .nil .nil (lq (by rfl) T.lQ ?_) jx (λ_ _ _ _ _=>(eR (n:=2) rfl (aW (aZ (i:=0) oC) (aW (aZ (i:=1) oC) dh)))) (λ_=>dI) dO (λ_ _ _ _ _=>?_)))
 walk_at "pp"
theorem nW:((["one", "two"]:List Str)++(["times", "others"]:List Str)).Nodup:=by decide +kernel
theorem Aa(F:bq K "mixed" "mixed" (top 36) dv f fd)(T:Txt K mg)  : aV P w K mg base (bU P w) 1 f fd ["row", "times", "other", "others"] (dW 4 jA) :=
 F.gy ["row", "times", "other", "others"] λnd _ _ _ _ _ _ hr O=>by
 unfold kA;walk_at "t"
 walk_at "pp"
 refine(dD (bS (g:=(jN K 2 (bM (aO 0) (bM (aO 1) jM)))) (ts:=["one", "two"]) (fs:=["times", "others"]) (js:=[1,3]) rfl rfl rfl rfl rfl rfl (.cons rfl (.cons rfl .nil)) (.cons rfl rfl (by walk_at "l") rfl rfl (.cons rfl rfl (by walk_at "l") rfl rfl .nil)) (lq (by rfl) T.lQ ?_) jx (λ_ _ _ _ _=>(eR (n:=2) rfl (aW (aZ (i:=0) nW) (aW (aZ (i:=1) nW) dh)))) (λ_=>dI) dO (λ_ _ _ _ _=>?_)))
 walk_at "pp"
theorem oR(F:bq K "mixed_made" "mixed_made" (top 37) dv f fd)(T:Txt K mg)(L7:dH P w K mg base 1 "mixed" 4 (aC 4 kA))(L8:dH P w K mg base 1 "rests" 2 (aC 2 kI)):aV P w K mg base (bU P w) 2 f fd ["sizes", "made", "times", "other", "others"] (dW 5 dj) :=
 F.gy ["sizes", "made", "times", "other", "others", "doing"] λnd _ _ _ _ _ _ hr O=>by
 unfold eg;walk_at "t"
 walk_at "pp"
theorem qK(F:bq K "step_size" "step_size" (top 40) dv f fd)(T:Txt K mg)  : aV P w K mg base (bU P w) 1 f fd ["sizes", "made_rows", "dial"] (dW 3 cX) :=
 F.gy ["sizes", "made_rows", "dial", "notch"] λnd _ _ _ _ _ _ hr O=>by
 unfold dS;walk_at "t"
 walk_at "pp"
theorem sU(F:bq K "taken_in" "taken_in" (top 41) dv f fd)(T:Txt K mg)(KR:dH P w K mg base 1 "step_size" 3 (aC 4 dS))(LI:dH P w K mg base 1 "common" 2 (aC 6 jl))(K3:dH P w K mg base 2 "mixed_made" 5 (aC 6 eg)):aV P w K mg base (bU P w) 3 f fd ["sizes", "made_rows", "left"] (dW 3 iH) :=
 F.gy ["sizes", "made_rows", "left", "wider", "dial", "made", "step", "notch", "found"] λnd _ _ _ _ _ _ hr O=>by
 unfold iG;walk_at "t"
 walk_at "pp"
 refine(cp (g:=(jN K 2 (bM (aO 4) (bM (aO 5) jM)))) O rfl (lJ (by rfl) T.da ?_) jz (eR (n:=2) rfl (aW (aZ (i:=4) nd) (aW (aZ (i:=5) nd) dh))) dI ?_)
 walk_at "pp"
theorem uF(F:bq K "lowered" "lowered" (top 42) dv f fd)(T:Txt K mg)(KR:dH P w K mg base 1 "step_size" 3 (aC 4 dS))(K3:dH P w K mg base 2 "mixed_made" 5 (aC 6 eg)):aV P w K mg base (bU P w) 3 f fd ["sizes", "made_rows", "made", "first"] (dW 4 eT) :=
 F.gy ["sizes", "made_rows", "made", "first", "dial", "times"] λnd _ _ _ _ _ _ hr O=>by
 unfold h_;walk_at "t"
 walk_at "pp"
 refine(cp (g:=(aO 4)) O rfl (yj (by rfl) T.eG ?_) yT (aZ (i:=4) nd) bA ?_)
 walk_at "pp"
theorem sR(F:bq K "in_spans" "in_spans" (top 43) dv f fd)(T:Txt K mg)(L7:dH P w K mg base 1 "mixed" 4 (aC 4 kA)):aV P w K mg base (bU P w) 2 f fd ["pulls", "idle_rows"] (dW 2 gk) :=
 F.gy ["pulls", "idle_rows", "lever", "row"] λnd _ _ _ _ _ _ hr O=>by
 unfold gi;walk_at "t"
 walk_at "pp"
 refine(cp (g:=(aO 2)) O rfl (pY (by rfl) T.eG ?_) sP (aZ (i:=2) nd) bA ?_)
 walk_at "pp"
theorem qI(F:bq K "_law_cell" "_law_cell" (top 53) dv f fd)(T:Txt K mg)  : aV P w K mg base (bU P w) 1 f fd ["_law_script", "_law_k"] (dW 2 gP) :=
 F.gy ["_law_script", "_law_k"] λnd _ _ _ _ _ _ hr O=>by
 unfold gR;walk_at "t"
 walk_at "pp"
theorem t6(F:bq K "_law_mix" "_law_mix" (top 54) dv f fd)(T:Txt K mg)  : aV P w K mg base (bU P w) 1 f fd ["_law_cell_here", "_law_k"] (dW 2 c9) :=
 F.gy ["_law_cell_here", "_law_k", "_law_number"] λnd _ _ _ _ _ _ hr O=>by
 unfold eY;walk_at "t"
 walk_at "pp"
theorem mZ(F:bq K "_law_digits" "_law_digits" (top 55) dv f fd)(T:Txt K mg)  : aV P w K mg base (bU P w) 1 f fd ["_law_cell_here", "_law_sizes_here"] (dW 2 cx) :=
 F.gy ["_law_cell_here", "_law_sizes_here", "_law_row", "_law_size_here"] λnd _ _ _ _ _ _ hr O=>by
 unfold cR;walk_at "t"
 walk_at "pp"
 refine(cp (g:=(aO 3)) O rfl (eE ?_) cU (aZ (i:=3) nd) bA ?_)
 walk_at "pp"
theorem qH(F:bq K "_law_size" "_law_size" (top 56) dv f fd)(T:Txt K mg)  : aV P w K mg base (bU P w) 1 f fd ["_law_number"] (dW 1 dP) :=
 F.gy ["_law_number"] λnd _ _ _ _ _ _ hr O=>by
 unfold gI;walk_at "t"
 walk_at "pp"
 exact(mJ [2,3,4,6,8,9,12])
 walk_at "pp"
 exact(mJ [1,2,5,10,30])
 walk_at "pp"
theorem mi:((["_law_number"]:List Str)++([]:List Str)).Nodup:=by decide +kernel
theorem mh:((["_law_k"]:List Str)++(["_law_cell_here"]:List Str)).Nodup:=by decide +kernel
theorem oY(F:bq K "_law_sizes" "_law_sizes" (top 57) dv f fd)(T:Txt K mg)(KD:dH P w K mg base 1 "_law_digits" 2 (aC 4 cR))(KZ:dH P w K mg base 1 "_law_mix" 2 (aC 3 eY))(LU:dH P w K mg base 1 "_law_size" 1 (aC 1 gI)):aV P w K mg base (bU P w) 2 f fd ["_law_cell_here"] (dW 1 fJ) :=
 F.gy ["_law_cell_here", "_law_many"] λnd _ _ _ _ _ _ hr O=>by
 unfold fL;walk_at "t"
 walk_at "pp"
 refine(dD (bS (g:=(aO 0)) (ts:=["_law_number"]) (fs:=[]) (js:=[]) (cl:=[]) rfl rfl rfl rfl rfl rfl .nil .nil (eE ?_) cU (λ_ _ _ _ _=>(aZ (i:=0) mi)) (λ_=>bA) bT (λ_ _ _ _ _=>?_)))
 walk_at "pp"
 exact(mJ [1,2,3,4,2,3,5,6])
 walk_at "pp"
 refine(dD (bS (g:=(aO 0)) (ts:=["_law_k"]) (fs:=["_law_cell_here"]) (js:=[0]) rfl rfl rfl rfl rfl rfl (.cons rfl .nil) (.cons rfl rfl (by walk_at "l") rfl rfl .nil) (e8 (by rfl) T.eG ?_) gq (λ_ _ _ _ _=>(aZ (i:=0) mh)) (λ_=>bA) bT (λ_ _ _ _ _=>?_)))
 walk_at "pp"
theorem oZ(F:bq K "_law_lever" "_law_lever" (top 58) dv f fd)(T:Txt K mg)(KD:dH P w K mg base 1 "_law_digits" 2 (aC 4 cR))(KZ:dH P w K mg base 1 "_law_mix" 2 (aC 3 eY)):aV P w K mg base (bU P w) 2 f fd ["_law_cell_here", "_law_sizes_here"] (dW 2 dq) :=
 F.gy ["_law_cell_here", "_law_sizes_here", "_law_factor", "_law_row", "_law_k", "_law_size_here", "_law_number"] λnd _ _ _ _ _ _ hr O=>by
 unfold fM;walk_at "t"
 walk_at "pp"
 exact(mJ [1,2,3,6,12,30])
 walk_at "pp"
 refine(cp (g:=(jN K 2 (bM (aO 4) (bM (aO 5) jM)))) O rfl (lJ (by rfl) T.da ?_) jz (eR (n:=2) rfl (aW (aZ (i:=4) nd) (aW (aZ (i:=5) nd) dh))) dI ?_)
 walk_at "pp"
theorem mC(F:bq K "_law_product" "_law_product" (top 59) dv f fd)(T:Txt K mg)  : aV P w K mg base (bU P w) 1 f fd ["_law_numbers"] (dW 1 bG) :=
 F.gy ["_law_numbers", "_law_found", "_law_number"] λnd _ _ _ _ _ _ hr O=>by
 unfold ee;walk_at "t"
 walk_at "pp"
 refine(cp (g:=(aO 2)) O rfl (eE ?_) cU (aZ (i:=2) nd) bA ?_)
 walk_at "pp"
theorem d_:((["_law_here", "_law_more", "_law_size_here"]:List Str)++(["_law_many"]:List Str)).Nodup:=by decide +kernel
theorem my(F:bq K "_law_setting" "_law_setting" (top 60) dv f fd)(T:Txt K mg)(KD:dH P w K mg base 1 "_law_digits" 2 (aC 4 cR))(KZ:dH P w K mg base 1 "_law_mix" 2 (aC 3 eY)):aV P w K mg base (bU P w) 2 f fd ["_law_cell_here", "_law_levers", "_law_sizes_here"] (dW 3 c_) :=
 F.gy ["_law_cell_here", "_law_levers", "_law_sizes_here", "_law_found", "_law_which", "_law_k", "_law_lever_here", "_law_many"] λnd _ _ _ _ _ _ hr O=>by
 unfold cV;walk_at "t"
 walk_at "pp"
 refine(cp (g:=(aO 4)) O rfl (e8 (by rfl) T.eG ?_) gq (aZ (i:=4) nd) bA ?_)
 walk_at "pp"
 refine(cp (g:=(jN K 2 (bM (aO 5) (bM (aO 6) jM)))) O rfl (lJ (by rfl) T.da ?_) jz (eR (n:=2) rfl (aW (aZ (i:=5) nd) (aW (aZ (i:=6) nd) dh))) dI ?_)
 walk_at "pp"
 refine(qW (i:=3) (g:=(jN K 3 (bM (aO 0) (bM (aO 1) (bM (aO 2) jM))))) (ts:=["_law_here", "_law_more", "_law_size_here"]) (fs:=["_law_many"]) (js:=[7]) rfl rfl rfl rfl rfl rfl (.cons rfl .nil) (.cons rfl rfl (by walk_at "l") rfl rfl .nil) (BG (by rfl) T.lQ ?_) zg (λ_ _ _ _ _=>(eR (n:=3) rfl (aW (aZ (i:=0) d_) (aW (aZ (i:=1) d_) (aW (aZ (i:=2) d_) dh))))) (λ_=>Dg) vj (λ_ _ _ _ _=>?_) nd rfl (by walk_at "l"))
 walk_at "pp"
theorem jU:cB ["self", "sizes", "levers", "prices"] ["self", "sizes", "levers", "prices"] (aY (inClass (top 23) 0)):=.of
theorem l_:((["lever"]:List Str)++(["sizes"]:List Str)).Nodup:=by decide +kernel
theorem oW(F:bq K "__init__" "Vault.__init__" (inClass (top 23) 0) dv f fd)(T:Txt K mg)(LM:dH P w K mg base 3 "need_sizes" 1 (aC 3 fS))(Lx:dH P w K mg base 3 "need_levers" 2 (aC 4 fb))(L8:dH P w K mg base 1 "rests" 2 (aC 2 kI))(LN:dH P w K mg base 3 "prices_for" 2 (aC 3 fY))(Lw:dH P w K mg base 2 "multiple_of" 1 (aC 3 ff)):aV P w K mg base (bU P w) 4 f fd ["self", "sizes", "levers", "prices"] (Dx 4 aq cv) :=
 F.JW jU (by decide) λ_ _ _ _ _ _ hr O=>by
 unfold iJ;have:=jU.nd;have T2:=T;cases T2
 walk_at "pp"
 refine(kc (i:=0) rfl (by first | exact .inl rfl | exact .inr (.inl rfl)) T.kq T.gD ?_)
 walk_at "pp"
 refine(kc (i:=0) rfl (by first | exact .inl rfl | exact .inr (.inl rfl)) T.kq T.eJ ?_)
 walk_at "pp"
 refine(dD (bS (g:=(aO 0)) (ts:=["lever"]) (fs:=["sizes"]) (js:=[1]) rfl rfl rfl rfl rfl rfl (.cons rfl .nil) (.cons rfl rfl (by walk_at "l") rfl rfl .nil) (eE ?_) cU (λ_ _ _ _ _=>(aZ (i:=0) l_)) (λ_=>bA) bT (λ_ _ _ _ _=>?_)))
 walk_at "pp"
 refine(kc (i:=0) rfl (by first | exact .inl rfl | exact .inr (.inl rfl)) T.kq T.fj ?_)
 walk_at "pp"
 refine(kc (i:=0) rfl (by first | exact .inl rfl | exact .inr (.inl rfl)) T.kq T.fG ?_)
 walk_at "pp"
theorem oy(F:bq K "sizes" "Vault.sizes" (inClass (top 23) 1) dv f fd)(T:Txt K mg)  : aV P w K mg base (bU P w) 1 f fd ["self"] (dW 1 aJ) :=
 F.gy ["self"] λnd _ _ _ _ _ _ hr O=>by
 unfold a_;walk_at "t"
 walk_at "pp"
theorem mj(F:bq K "levers" "Vault.levers" (inClass (top 23) 2) dv f fd)(T:Txt K mg)  : aV P w K mg base (bU P w) 1 f fd ["self"] (dW 1 aX) :=
 F.gy ["self"] λnd _ _ _ _ _ _ hr O=>by
 unfold bx;walk_at "t"
 walk_at "pp"
theorem mr(F:bq K "around" "Vault.around" (inClass (top 23) 4) dv f fd)(T:Txt K mg)  : aV P w K mg base (bU P w) 1 f fd ["self"] (dW 1 cF) :=
 F.gy ["self"] λnd _ _ _ _ _ _ hr O=>by
 unfold c8;walk_at "t"
 walk_at "pp"
theorem lG:((["dial"]:List Str)++(["self", "sizes"]:List Str)).Nodup:=by decide +kernel
theorem oG(F:bq K "steps" "Rungs.steps" (inClass (top 44) 1) dv f fd)(T:Txt K mg)(Ku:ke P w K mg base aq 1 "sizes" 1 (aC 1 a_))(KR:dH P w K mg base 1 "step_size" 3 (aC 4 dS)):aV P w K mg base (bU P w) 2 f fd ["self"] (dW 1 bO) :=
 F.gy ["self", "sizes"] λnd _ _ _ _ _ _ hr O=>by
 unfold dE;walk_at "t"
 walk_at "pp"
 refine(dD (bS (g:=(aO 0)) (ts:=["dial"]) (fs:=["self", "sizes"]) (js:=[0,1]) rfl rfl rfl rfl rfl rfl (.cons rfl (.cons rfl .nil)) (.cons rfl rfl (by walk_at "l") rfl rfl (.cons rfl rfl (by walk_at "l") rfl rfl .nil)) (e8 (by rfl) T.eG ?_) gq (λ_ _ _ _ _=>(aZ (i:=0) lG)) (λ_=>bA) bT (λ_ _ _ _ _=>?_)))
 walk_at "pp"
theorem me:((["made"]:List Str)++([]:List Str)).Nodup:=by decide +kernel
theorem pz(F:bq K "rows" "Rungs.rows" (inClass (top 44) 2) dv f fd)(T:Txt K mg)  : aV P w K mg base (bU P w) 1 f fd ["self"] (dW 1 fH) :=
 F.gy ["self"] λnd _ _ _ _ _ _ hr O=>by
 unfold fU;walk_at "t"
 walk_at "pp"
 refine(dD (bS (g:=(aO 0)) (ts:=["made"]) (fs:=[]) (js:=[]) (cl:=[]) rfl rfl rfl rfl rfl rfl .nil .nil (eE ?_) cU (λ_ _ _ _ _=>(aZ (i:=0) me)) (λ_=>bA) bT (λ_ _ _ _ _=>?_)))
 walk_at "pp"
theorem wO(F:bq K "nought" "nought" (top 30) dv f fd)(T:Txt K mg)(Ku:ke P w K mg base aq 1 "sizes" 1 (aC 1 a_)):aV P w K mg base (bU P w) 2 f fd ["vault"] (dW 1 gb) :=
 F.gy ["vault"] λnd _ _ _ _ _ _ hr O=>by
 unfold ig;walk_at "t"
 walk_at "pp"
theorem iY:((["notch", "size"]:List Str)++([]:List Str)).Nodup:=by decide +kernel
theorem pq(F:bq K "is_setting" "is_setting" (top 31) dv f fd)(T:Txt K mg)(Ku:ke P w K mg base aq 1 "sizes" 1 (aC 1 a_))(LJ:dH P w K mg base 2 "is_row" 2 (aC 2 jr)):aV P w K mg base (bU P w) 3 f fd ["vault", "thing"] (dW 2 f6) :=
 F.gy ["vault", "thing", "sizes"] λnd _ _ _ _ _ _ hr O=>by
 unfold fN;walk_at "t"
 walk_at "pp"
 refine(yQ ?_ (uR ?_)).pt
 walk_at "pp"
 refine(uB (T := "tuple") (by rfl) T.eI (kv (v:=.ty "tuple") (by rfl) T.qQ oA rfl) (by decide) u7 u7 ?_)
 walk_at "pp"
 refine(dD (bS (g:=(jN K 2 (bM (aO 0) (bM (aO 1) jM)))) (ts:=["notch", "size"]) (fs:=[]) (js:=[]) (cl:=[]) rfl rfl rfl rfl rfl rfl .nil .nil (lq (by rfl) T.lQ ?_) jx (λ_ _ _ _ _=>(eR (n:=2) rfl (aW (aZ (i:=0) iY) (aW (aZ (i:=1) iY) dh)))) (λ_=>dI) dO (λ_ _ _ _ _=>?_)))
 walk_at "pp"
 refine(sy tH nN vR uV ?_ ?_ ?_)
 walk_at "pp"
theorem mv(F:bq K "need_setting" "need_setting" (top 32) dv f fd)(T:Txt K mg)(LK:dH P w K mg base 3 "is_setting" 2 (aC 3 fN)):aV P w K mg base (bU P w) 4 f fd ["vault", "thing"] (dW 2 cG) :=
 F.gy ["vault", "thing"] λnd _ _ _ _ _ _ hr O=>by
 unfold c7;walk_at "t"
 walk_at "pp"
theorem nJ:((["weight", "size"]:List Str)++(["around"]:List Str)).Nodup:=by decide +kernel
theorem zj(F:bq K "weigh" "weigh" (top 34) dv f fd)(T:Txt K mg)(KW:dH P w K mg base 4 "need_setting" 2 (aC 2 c7))(KU:ke P w K mg base aq 1 "around" 1 (aC 1 c8))(Ku:ke P w K mg base aq 1 "sizes" 1 (aC 1 a_))(Md:dH P w K mg base 1 "rest_sum" 3 (aC 3 iu)):aV P w K mg base (bU P w) 5 f fd ["vault", "weights", "setting"] (dW 3 mG) :=
 F.gy ["vault", "weights", "setting", "around", "worths"] λnd _ _ _ _ _ _ hr O=>by
 unfold mH;walk_at "t"
 walk_at "pp"
 refine(qW (i:=4) (g:=(jN K 2 (bM (aO 0) (bM (aO 1) jM)))) (ts:=["weight", "size"]) (fs:=["around"]) (js:=[3]) rfl rfl rfl rfl rfl rfl (.cons rfl .nil) (.cons rfl rfl (by walk_at "l") rfl rfl .nil) (lq (by rfl) T.lQ ?_) jx (λ_ _ _ _ _=>(eR (n:=2) rfl (aW (aZ (i:=0) nJ) (aW (aZ (i:=1) nJ) dh)))) (λ_=>dI) dO (λ_ _ _ _ _=>?_) nd rfl (by walk_at "l"))
 walk_at "pp"
theorem tN(F:bq K "unpulled" "unpulled" (top 38) dv f fd)(T:Txt K mg)(Kx:ke P w K mg base aq 1 "levers" 1 (aC 1 bx)):aV P w K mg base (bU P w) 2 f fd ["vault", "setting"] (dW 2 e7) :=
 F.gy ["vault", "setting"] λnd _ _ _ _ _ _ hr O=>by
 unfold gC;walk_at "t"
 walk_at "pp"
theorem nM(F:bq K "pulled_once" "pulled_once" (top 39) dv f fd)(T:Txt K mg)(Kx:ke P w K mg base aq 1 "levers" 1 (aC 1 bx))(Mf:dH P w K mg base 1 "unit_row" 2 (aC 2 iF)):aV P w K mg base (bU P w) 2 f fd ["vault", "lever"] (dW 2 fg) :=
 F.gy ["vault", "lever", "levers"] λnd _ _ _ _ _ _ hr O=>by
 unfold fc;walk_at "t"
 walk_at "pp"
theorem g8:cB ["self", "vault", "sizes", "made_rows", "idle_rows", "lever", "taken"] ["self", "vault"] (aY (inClass (top 44) 0)):=.of
theorem mD:((["size"]:List Str)++(["vault"]:List Str)).Nodup:=by decide +kernel
theorem iZ:((["dial", "made"]:List Str)++(["sizes", "made_rows"]:List Str)).Nodup:=by decide +kernel
theorem pf(F:bq K "__init__" "Rungs.__init__" (inClass (top 44) 0) dv f fd)(T:Txt K mg)(Ku:ke P w K mg base aq 1 "sizes" 1 (aC 1 a_))(Lb:dH P w K mg base 2 "nought" 1 (aC 1 ig))(Lh:dH P w K mg base 2 "unpulled" 2 (aC 2 gC))(Kx:ke P w K mg base aq 1 "levers" 1 (aC 1 bx))(Ly:dH P w K mg base 2 "pulled_once" 2 (aC 3 fc))(Me:dH P w K mg base 3 "taken_in" 3 (aC 9 iG))(Le:dH P w K mg base 2 "in_spans" 2 (aC 4 gi))(Lq:dH P w K mg base 3 "lowered" 4 (aC 6 h_)):aV P w K mg base (bU P w) 4 f fd ["self", "vault"] (Dx 2 az cL) :=
 F.JW g8 (by decide) λ_ _ _ _ _ _ hr O=>by
 unfold iT;have:=g8.nd;have T2:=T;cases T2
 walk_at "pp"
 refine(dD (bS (g:=(aO 0)) (ts:=["size"]) (fs:=["vault"]) (js:=[1]) rfl rfl rfl rfl rfl rfl (.cons rfl .nil) (.cons rfl rfl (by walk_at "l") rfl rfl .nil) (eE ?_) cU (λ_ _ _ _ _=>(aZ (i:=0) mD)) (λ_=>bA) bT (λ_ _ _ _ _=>?_)))
 walk_at "pp"
 refine(cp (g:=(aO 5)) O rfl (e8 (by rfl) T.eG ?_) gq (aZ (i:=5) g8.nd) bA ?_)
 walk_at "pp"
 refine(wx 4 ?_)
 walk_at "pp"
 refine(kc (i:=0) rfl (by first | exact .inl rfl | exact .inr (.inl rfl)) T.mE T.jX ?_)
 walk_at "pp"
 refine(kc (i:=0) rfl (by first | exact .inl rfl | exact .inr (.inl rfl)) T.mE T.gN ?_)
 walk_at "pp"
 refine(dD (bS (g:=(jN K 2 (bM (aO 0) (bM (aO 1) jM)))) (ts:=["dial", "made"]) (fs:=["sizes", "made_rows"]) (js:=[2,3]) rfl rfl rfl rfl rfl rfl (.cons rfl (.cons rfl .nil)) (.cons rfl rfl (by walk_at "l") rfl rfl (.cons rfl rfl (by walk_at "l") rfl rfl .nil)) (lJ (by rfl) T.da ?_) jz (λ_ _ _ _ _=>(eR (n:=2) rfl (aW (aZ (i:=0) iZ) (aW (aZ (i:=1) iZ) dh)))) (λ_=>dI) dO (λ_ _ _ _ _=>?_)))
 walk_at "pp"
 refine(kc (i:=0) rfl (by first | exact .inl rfl | exact .inr (.inl rfl)) T.mE T.gJ ?_)
 walk_at "pp"
theorem i9(F:bq K "brought_down" "Rungs.brought_down" (inClass (top 44) 5) dv f fd)(T:Txt K mg)(KW:dH P w K mg base 4 "need_setting" 2 (aC 2 c7))(Lh:dH P w K mg base 2 "unpulled" 2 (aC 2 gC))(Ku:ke P w K mg base aq 1 "sizes" 1 (aC 1 a_))(Lq:dH P w K mg base 3 "lowered" 4 (aC 6 h_)):aV P w K mg base (bU P w) 5 f fd ["self", "setting"] (dW 2 bH) :=
 F.gy ["self", "setting"] λnd _ _ _ _ _ _ hr O=>by
 unfold cu;walk_at "t"
 walk_at "pp"
theorem jL:((["times"]:List Str)++([]:List Str)).Nodup:=by decide +kernel
theorem kU(F:bq K "pulls_to" "Rungs.pulls_to" (inClass (top 44) 7) dv f fd)(T:Txt K mg)(K1:ke P w K mg base az 5 "brought_down" 2 (aC 2 cu))(Lb:dH P w K mg base 2 "nought" 1 (aC 1 ig))(Le:dH P w K mg base 2 "in_spans" 2 (aC 4 gi)):aV P w K mg base (bU P w) 6 f fd ["self", "setting"] (dW 2 bQ) :=
 F.gy ["self", "setting", "made"] λnd _ _ _ _ _ _ hr O=>by
 unfold cH;walk_at "t"
 walk_at "pp"
 refine(dD (bS (g:=(aO 0)) (ts:=["times"]) (fs:=[]) (js:=[]) (cl:=[]) rfl rfl rfl rfl rfl rfl .nil .nil (eE ?_) cU (λ_ _ _ _ _=>(aZ (i:=0) jL)) (λ_=>bA) bT (λ_ _ _ _ _=>?_)))
 walk_at "pp"
theorem eK:((["size", "step"]:List Str)++([]:List Str)).Nodup:=by decide +kernel
theorem jO(F:bq K "weights_at" "Rungs.weights_at" (inClass (top 44) 8) dv f fd)(T:Txt K mg)(Ku:ke P w K mg base aq 1 "sizes" 1 (aC 1 a_))(KQ:dH P w K mg base 2 "is_within" 3 (aC 3 dQ))(LO:o6 P w K mg base fq "NoDial" "dial")(K0:ke P w K mg base az 2 "steps" 1 (aC 2 dE))(MH:dH P w K mg base 5 "weigh" 3 (aC 5 mH))(KU:ke P w K mg base aq 1 "around" 1 (aC 1 c8)):aV P w K mg base (bU P w) 6 f fd ["self", "dial"] (dW 2 br) :=
 F.gy ["self", "dial", "sizes", "fills", "weights", "ahead", "weighed", "share"] λnd _ _ _ _ _ _ hr O=>by
 unfold cM;walk_at "t"
 walk_at "pp"
 refine(qW (i:=3) (g:=(jN K 2 (bM (aO 0) (bM (aO 1) jM)))) (ts:=["size", "step"]) (fs:=[]) (js:=[]) (cl:=[]) rfl rfl rfl rfl rfl rfl .nil .nil (lq (by rfl) T.lQ ?_) jx (λ_ _ _ _ _=>(eR (n:=2) rfl (aW (aZ (i:=0) eK) (aW (aZ (i:=1) eK) dh)))) (λ_=>dI) dO (λ_ _ _ _ _=>?_) nd rfl (by walk_at "l"))
 walk_at "pp"
 refine(Gg ?_ ?_)
 walk_at "pp"
 refine(DV (i:=4) rfl (by first | exact .inl rfl | exact .inr (.inl rfl)) ?_ ?_)
 walk_at "pp"
 refine(cp (g:=(aO 5)) O rfl (pY (by rfl) T.eG ?_) sP (aZ (i:=5) nd) bA ?_)
 walk_at "pp"
 refine(wx 4 ?_)
 walk_at "pp"
 refine(DV (i:=4) rfl (by first | exact .inl rfl | exact .inr (.inl rfl)) ?_ ?_)
 walk_at "pp"
theorem vq:((["row"]:List Str)++(["none"]:List Str)).Nodup:=by decide +kernel
theorem Bh(F:bq K "clear" "clear" (top 46) dv f fd)(T:Txt K mg)(Lb:dH P w K mg base 2 "nought" 1 (aC 1 ig))(KJ:yq P w K mg base az 4 "Rungs" 2 [] cL)(LD:ke P w K mg base az 1 "rows" 1 (aC 1 fU))(Ku:ke P w K mg base aq 1 "sizes" 1 (aC 1 a_))(KA:yq P w K mg base aq 4 "Vault" 4 [.cy] cv):aV P w K mg base (bU P w) 6 f fd ["vault"] (dW 1 iA) :=
 F.gy ["vault", "none"] λnd _ _ _ _ _ _ hr O=>by
 unfold jB;walk_at "t"
 walk_at "pp"
 refine(dD (AX (g:=(aO 0)) (ts:=["row"]) (fs:=["none"]) (js:=[1]) rfl rfl rfl rfl rfl rfl (.cons rfl .nil) (.cons rfl rfl (by walk_at "l") rfl rfl .nil) (eE ?_) cU (λ_ _ _ _ _=>(aZ (i:=0) vq)) (λ_=>bA) bT (λ_ _ _ _ _=>?_) (λ_ _ _ _ _=>?_)))
 walk_at "pp"
theorem tf(F:bq K "clear_of" "clear_of" (top 47) dv f fd)(T:Txt K mg)(KA:yq P w K mg base aq 4 "Vault" 4 [.cy] cv)(Kx:ke P w K mg base aq 1 "levers" 1 (aC 1 bx))(Lp:dH P w K mg base 6 "clear" 1 (aC 2 jB)):aV P w K mg base (bU P w) 7 f fd ["sizes", "doings"] (dW 2 gg) :=
 F.gy ["sizes", "doings", "cleared", "doing"] λnd _ _ _ _ _ _ hr O=>by
 unfold iB;walk_at "t"
 walk_at "pp"
 refine(cp (g:=(aO 3)) O rfl (eE ?_) cU (aZ (i:=3) nd) bA ?_)
 walk_at "pp"
theorem ub:((["dial"]:List Str)++(["rungs"]:List Str)).Nodup:=by decide +kernel
theorem wW(F:bq K "stills" "stills" (top 48) dv f fd)(T:Txt K mg)(KJ:yq P w K mg base az 4 "Rungs" 2 [] cL)(Ku:ke P w K mg base aq 1 "sizes" 1 (aC 1 a_))(K6:ke P w K mg base az 6 "weights_at" 2 (aC 8 cM))(KA:yq P w K mg base aq 4 "Vault" 4 [.cy] cv)(Lp:dH P w K mg base 6 "clear" 1 (aC 2 jB)):aV P w K mg base (bU P w) 7 f fd ["vault"] (dW 1 gj) :=
 F.gy ["vault", "rungs", "sizes"] λnd _ _ _ _ _ _ hr O=>by
 unfold kH;walk_at "t"
 walk_at "pp"
 refine(dD (bS (g:=(aO 0)) (ts:=["dial"]) (fs:=["rungs"]) (js:=[1]) rfl rfl rfl rfl rfl rfl (.cons rfl .nil) (.cons rfl rfl (by walk_at "l") rfl rfl .nil) (e8 (by rfl) T.eG ?_) gq (λ_ _ _ _ _=>(aZ (i:=0) ub)) (λ_=>bA) bT (λ_ _ _ _ _=>?_)))
 walk_at "pp"
theorem uq(F:bq K "together" "together" (top 50) dv f fd)(T:Txt K mg)(Ku:ke P w K mg base aq 1 "sizes" 1 (aC 1 a_))(K8:dH P w K mg base 1 "need_same_sizes" 2 (aC 2 cT))(Kx:ke P w K mg base aq 1 "levers" 1 (aC 1 bx))(Mc:dH P w K mg base 7 "clear_of" 2 (aC 4 iB)):aV P w K mg base (bU P w) 8 f fd ["one", "other"] (dW 2 gE) :=
 F.gy ["one", "other"] λnd _ _ _ _ _ _ hr O=>by
 unfold f_;walk_at "t"
 walk_at "pp"
theorem B8(F:bq K "both" "both" (top 51) dv f fd)(T:Txt K mg)(Mq:dH P w K mg base 7 "stills" 1 (aC 3 kH))(Lg:dH P w K mg base 8 "together" 2 (aC 2 f_)):aV P w K mg base (bU P w) 9 f fd ["one", "other"] (dW 2 oB) :=
 F.gy ["one", "other"] λnd _ _ _ _ _ _ hr O=>by
 unfold qF;walk_at "t"
 walk_at "pp"
theorem qB(F:bq K "_law_does" "_law_does" (top 61) dv f fd)(T:Txt K mg)(La:ke P w K mg base az 6 "pulls_to" 2 (aC 3 cH)):aV P w K mg base (bU P w) 7 f fd ["_law_rungs", "_law_setting_here"] (dW 2 bY) :=
 F.gy ["_law_rungs", "_law_setting_here"] λnd _ _ _ _ _ _ hr O=>by
 unfold fk;walk_at "t"
 walk_at "pp"
theorem Eh(F:bq K "law" "law" (top 62) dv f fd)(T:Txt K mg)(LR:dH P w K mg base 1 "_law_cell" 2 (aC 2 gR))(LH:dH P w K mg base 2 "_law_sizes" 1 (aC 2 fL))(LG:dH P w K mg base 2 "_law_lever" 2 (aC 7 fM))(KA:yq P w K mg base aq 4 "Vault" 4 [.cy] cv)(KJ:yq P w K mg base az 4 "Rungs" 2 [] cL)(M8:dH P w K mg base 9 "both" 2 (aC 2 qF))(Lg:dH P w K mg base 8 "together" 2 (aC 2 f_))(K0:ke P w K mg base az 2 "steps" 1 (aC 2 dE))(Lm:dH P w K mg base 1 "_law_product" 1 (aC 3 ee))(LS:dH P w K mg base 7 "_law_does" 2 (aC 2 fk))(Ln:dH P w K mg base 2 "_law_setting" 3 (aC 8 cV))(Kx:ke P w K mg base aq 1 "levers" 1 (aC 1 bx))(Lp:dH P w K mg base 6 "clear" 1 (aC 2 jB)):aV P w K mg base (bU P w) 10 f fd ["_law_script"] (dW 1 pE) :=
 F.gy ["_law_script", "_law_sizes_here", "_law_levers", "_law_cell_here", "_law_some", "_law_one", "_law_other", "_law_here", "_law_there", "_law_meet", "_law_joint", "_law_due", "_law_lever_here", "_law_setting_here"] λnd _ _ _ _ _ _ hr O=>by
 unfold zu;walk_at "t"
 walk_at "pp"
 refine(BM (iL:=2) (iS:=4) (ic:=3) (qt (i:=2) nd rfl (by walk_at "l") (nX (dJ (nX g9) (dJ (nX g9) g9)))) (A_ O.own rfl (eE ?_) (aZ (i:=3) nd) (ij (qt (i:=4) nd rfl (by walk_at "l") (DR zE (iy (i:=2) rfl (by first | exact .inl rfl | exact .inr (.inl rfl))) ?_ (λ_ _=>rfl))) (ij (DJ (vD vR (kT qb (by rfl) T.Dv PySem.boot_len (dJ (iy (i:=4) rfl (by first | exact .inl rfl | exact .inr (.inl rfl))) g9)) AR (cZ _)) (ij (qM (DF PySem.F.plainAttrs_list PySem.F.slot_list_append PySem.F.type_list_append k4 (iy (i:=4) rfl (by first | exact .inl rfl | exact .inr (.inl rfl))) (dJ ?_ g9))) mR) mR) mR))) cU (by decide) (by decide) (by decide)   ?_)
 walk_at "pp"
 refine(pH ?_ (mP ?_) (mP ?_))
 walk_at "pp"
 refine(cp (g:=(aO 12)) O rfl (eE ?_) cU (aZ (i:=12) nd) bA ?_)
 walk_at "pp"
 refine(cp (g:=(aO 3)) O rfl (eE ?_) cU (aZ (i:=3) nd) bA ?_)
 walk_at "pp"
 refine(pH ?_ (mP ?_) (mP ?_))
 walk_at "pp"
 refine(uz ?_ (vc ?_))
 walk_at "pp"
 refine(Gj ?_ (BI ?_)).pt
 walk_at "pp"
end uu
namespace uu
open PySem L2 PyProof.Rows
open PySem.W (nsIn findIn codeIn keepIn isFn mroIn specialIn takesIn hasDictIn typeIn plainGet plainOver makesIn mg_of mg_none_of fnOf excIn clsIn)
abbrev κ(w:World):PySem.W.Frag:=HD.K w.params
variable(w:World)
abbrev GA:Value:=HD.st "dialvault.wholes" 386
abbrev xN:Value:=HD.st "dialvault.vault" 434
abbrev vH:Value:=HD.st "dialvault.rungs" 586
abbrev Bo:Value:=HD.st "law_dialvault_k52_whole_pairs_of_great_dials" 795
abbrev Kn:Value:=HD.st "dialvault.papers" 578
abbrev md5:Value:=HD.st "dialvault.stills" 753
abbrev JX:Value:=HD.st "dialvault.pairs" 777
abbrev Jz:Value:=HD.st "dialvault.errors" 194
def g_:FuncData:=fnOf "__init__" "Vault.__init__" (gG (inClass (top 23) 0)) (eH (inClass (top 23) 0)) (aY (inClass (top 23) 0)) (.ref 220) .none .none xN none (.ref 224) .none
theorem kD:bq (κ w) "__init__" "Vault.__init__" (inClass (top 23) 0) (.ref 220) 225 g_:=.of (by kernel_rfl) (by kernel_rfl) (by kernel_rfl)
def gZ:FuncData:=wJ "__init__" "Rungs.__init__" (inClass (top 44) 0) vH 389
theorem qA:bq (κ w) "__init__" "Rungs.__init__" (inClass (top 44) 0) .none 390 gZ:=.of (by kernel_rfl) (by kernel_rfl) (by kernel_rfl)
theorem qO:Binds (κ w) gZ ["self", "vault"] []:=Binds.all (Ip λ_ _=>rfl)
def uP:FuncData:=wJ "law" "law" (top 62) Bo 541
theorem Ho:bq (κ w) "law" "law" (top 62) .none 542 uP:=.of (by kernel_rfl) (by kernel_rfl) (by kernel_rfl)
theorem qq:h9 (κ w) jm:=⟨(by kernel_rfl),(by kernel_rfl),(by kernel_rfl),(by kernel_rfl),(by kernel_rfl),(by kernel_rfl),(by kernel_rfl),(by kernel_rfl),(by kernel_rfl)⟩
theorem vk:h9 (κ w) jD:=⟨(by kernel_rfl),(by kernel_rfl),(by kernel_rfl),(by kernel_rfl),(by kernel_rfl),(by kernel_rfl),(by kernel_rfl),(by kernel_rfl),(by kernel_rfl)⟩
theorem xC:h9 (κ w) n5:=⟨(by kernel_rfl),(by kernel_rfl),(by kernel_rfl),(by kernel_rfl),(by kernel_rfl),(by kernel_rfl),(by kernel_rfl),(by kernel_rfl),(by kernel_rfl)⟩
theorem qf:h9 (κ w) fq:=⟨(by kernel_rfl),(by kernel_rfl),(by kernel_rfl),(by kernel_rfl),(by kernel_rfl),(by kernel_rfl),(by kernel_rfl),(by kernel_rfl),(by kernel_rfl)⟩
def gW:FuncData:=wJ "__init__" "NoDial.__init__" (inClass (top 3) 0) Jz 54
theorem Ja:(κ w).lookup 55=some ⟨.type "function", none,.func gW,⟨[]⟩⟩:=by kernel_rfl
theorem JP:codeIn (κ w) (.ref 54) "NoDial.__init__" = true:=by kernel_rfl
theorem vb:Binds (κ w) gW ["self", "dial"] []:=Binds.all (Ip λ_ _=>rfl)
theorem uA:cB ["self", "dial"] ["self", "dial"] (aY (inClass (top 3) 0)):=.of
theorem JR:((clsIn (κ w) 65).any λcd=>fK cd.mro)=true:=by kernel_rfl
theorem IB:findIn (κ w) (.ref 65) "dial" = some none:=by kernel_rfl
theorem uX{P:Program}{w:World}{mg:Str->Option Value}{base:Heap}:aV P w (κ w) mg base (bU P w) 1 55 gW ["self", "dial"] (xV (κ w) fq "dial") :=
 mY (n0 := "self") (n1 := "dial") (fl := "dial") (Ja w) (JP w) uA (qf w) (JR w) (IB w) (by first | exact .inl rfl | exact .inr (.inl rfl)) (by first | exact .inl rfl | exact .inr (.inl rfl)) (by decide) (by decide) (by decide) (by decide) (λ_=>rfl)
theorem mV:h9 (κ w) ia:=⟨(by kernel_rfl),(by kernel_rfl),(by kernel_rfl),(by kernel_rfl),(by kernel_rfl),(by kernel_rfl),(by kernel_rfl),(by kernel_rfl),(by kernel_rfl)⟩
def fP:FuncData:=wJ "__init__" "NoLever.__init__" (inClass (top 4) 0) Jz 80
theorem IY:(κ w).lookup 81=some ⟨.type "function", none,.func fP,⟨[]⟩⟩:=by kernel_rfl
theorem JA:codeIn (κ w) (.ref 80) "NoLever.__init__" = true:=by kernel_rfl
theorem sA:Binds (κ w) fP ["self", "lever"] []:=Binds.all (Ip λ_ _=>rfl)
theorem rP:cB ["self", "lever"] ["self", "lever"] (aY (inClass (top 4) 0)):=.of
theorem Jh:((clsIn (κ w) 91).any λcd=>fK cd.mro)=true:=by kernel_rfl
theorem IK:findIn (κ w) (.ref 91) "lever" = some none:=by kernel_rfl
theorem ug{P:Program}{w:World}{mg:Str->Option Value}{base:Heap}:aV P w (κ w) mg base (bU P w) 1 81 fP ["self", "lever"] (xV (κ w) ia "lever") :=
 mY (n0 := "self") (n1 := "lever") (fl := "lever") (IY w) (JA w) rP (mV w) (Jh w) (IK w) (by first | exact .inl rfl | exact .inr (.inl rfl)) (by first | exact .inl rfl | exact .inr (.inl rfl)) (by decide) (by decide) (by decide) (by decide) (λ_=>rfl)
theorem oH:h9 (κ w) f7:=⟨(by kernel_rfl),(by kernel_rfl),(by kernel_rfl),(by kernel_rfl),(by kernel_rfl),(by kernel_rfl),(by kernel_rfl),(by kernel_rfl),(by kernel_rfl)⟩
def fZ:FuncData:=wJ "__init__" "NoPrice.__init__" (inClass (top 5) 0) Jz 106
theorem Iz:(κ w).lookup 107=some ⟨.type "function", none,.func fZ,⟨[]⟩⟩:=by kernel_rfl
theorem IW:codeIn (κ w) (.ref 106) "NoPrice.__init__" = true:=by kernel_rfl
theorem rR:Binds (κ w) fZ ["self", "lever"] []:=Binds.all (Ip λ_ _=>rfl)
theorem tJ:cB ["self", "lever"] ["self", "lever"] (aY (inClass (top 5) 0)):=.of
theorem Jj:((clsIn (κ w) 117).any λcd=>fK cd.mro)=true:=by kernel_rfl
theorem JI:findIn (κ w) (.ref 117) "lever" = some none:=by kernel_rfl
theorem sj{P:Program}{w:World}{mg:Str->Option Value}{base:Heap}:aV P w (κ w) mg base (bU P w) 1 107 fZ ["self", "lever"] (xV (κ w) f7 "lever") :=
 mY (n0 := "self") (n1 := "lever") (fl := "lever") (Iz w) (IW w) tJ (oH w) (Jj w) (JI w) (by first | exact .inl rfl | exact .inr (.inl rfl)) (by first | exact .inl rfl | exact .inr (.inl rfl)) (by decide) (by decide) (by decide) (by decide) (λ_=>rfl)
theorem eF:kW (κ w) az:=⟨(by kernel_rfl),(by kernel_rfl),(by kernel_rfl),(by kernel_rfl)⟩
theorem fz:kW (κ w) aq:=⟨(by kernel_rfl),(by kernel_rfl),(by kernel_rfl),(by kernel_rfl)⟩
theorem GQ:findIn (κ w) (.ref 441) "idle_rows" = some none:=by kernel_rfl
theorem GH:findIn (κ w) (.ref 441) "made_rows" = some none:=by kernel_rfl
theorem Hr:findIn (κ w) (.ref 441) "vault" = some none:=by kernel_rfl
theorem GO:findIn (κ w) (.ref 256) "dial_sizes" = some none:=by kernel_rfl
theorem GW:findIn (κ w) (.ref 256) "least_round" = some none:=by kernel_rfl
theorem G1:findIn (κ w) (.ref 256) "lever_prices" = some none:=by kernel_rfl
theorem GK:findIn (κ w) (.ref 256) "lever_settings" = some none:=by kernel_rfl
theorem IL:nsIn (κ w) mainGlobals "LEAST_PRICE" = some (some (.int 1 444)):=by kernel_rfl
theorem JJ:nsIn (κ w) mainGlobals "LEAST_SIZE" = some (some (.int 2 438)):=by kernel_rfl
theorem Jp:nsIn (κ w) mainGlobals "MOST_DIALS" = some (some (.int 6 436)):=by kernel_rfl
theorem ID:nsIn (κ w) mainGlobals "MOST_LEVERS" = some (some (.int 8 442)):=by kernel_rfl
theorem Iv:nsIn (κ w) mainGlobals "MOST_PRICE" = some (some (.int 1000 446)):=by kernel_rfl
theorem IT:nsIn (κ w) mainGlobals "MOST_SIZE" = some (some (.int 360 440)):=by kernel_rfl
theorem Jw:(κ w).lookup 220=some (HD.tu [.none]):=by kernel_rfl
theorem qx:Binds (κ w) g_ ["self", "sizes", "levers", "prices"] [.none]:=(kD w).binds (Jw w) rfl λ_ _ _ _ _ _ us hl=>by obtain⟨a,b,c,rfl⟩:=J6 (show _=3 from (by simpa using hl));exact⟨_,rfl,rfl⟩
variable{h:Heap}
theorem txt{w:World}{mg:Str->Option Value}(X:PySem.W.Frag.In (κ w) h)(G:h.Ns mainGlobals mg):Txt (κ w) mg where
 Hg:=mg_none_of X G (by kernel_rfl)
 zW:=mg_none_of X G (by kernel_rfl)
 da:=mg_none_of X G (by kernel_rfl)
 Dr:=mg_none_of X G (by kernel_rfl)
 eI:=mg_none_of X G (by kernel_rfl)
 Dv:=mg_none_of X G (by kernel_rfl)
 AG:=mg_none_of X G (by kernel_rfl)
 D4:=mg_none_of X G (by kernel_rfl)
 eG:=mg_none_of X G (by kernel_rfl)
 HU:=mg_none_of X G (by kernel_rfl)
 qQ:=mg_none_of X G (by kernel_rfl)
 lQ:=mg_none_of X G (by kernel_rfl)
 oV:=⟨_,mg_of X G (IL w),⟨_,rfl⟩⟩
 rf:=⟨_,mg_of X G (JJ w),⟨_,rfl⟩⟩
 qz:=⟨_,mg_of X G (Jp w),⟨_,rfl⟩⟩
 o5:=⟨_,mg_of X G (ID w),⟨_,rfl⟩⟩
 qv:=⟨_,mg_of X G (Iv w),⟨_,rfl⟩⟩
 uj:=⟨_,mg_of X G (IT w),⟨_,rfl⟩⟩
 mE:=eF w
 kq:=fz w
 tK:=⟨(by kernel_rfl),qq w,(by kernel_rfl),(by kernel_rfl),mg_of X G (by kernel_rfl)⟩
 wQ:=⟨(by kernel_rfl),vk w,(by kernel_rfl),(by kernel_rfl),mg_of X G (by kernel_rfl)⟩
 AQ:=⟨(by kernel_rfl),xC w,(by kernel_rfl),(by kernel_rfl),mg_of X G (by kernel_rfl)⟩
 gJ:=(GQ w)
 gN:=(GH w)
 jX:=(Hr w)
 gD:=(GO w)
 fG:=(GW w)
 fj:=(G1 w)
 eJ:=(GK w)
 qT:=λC h=>by obtain rfl:=eq_of_beq h;exact⟨fz w,(GO w)⟩
 sC:=λC h=>by obtain rfl:=eq_of_beq h;exact⟨eF w,(GQ w)⟩
 oX:=λC h=>by obtain rfl:=eq_of_beq h;exact⟨fz w,(GW w)⟩
 n6:=λC h=>by obtain rfl:=eq_of_beq h;exact⟨fz w,(G1 w)⟩
 lM:=λC h=>by obtain rfl:=eq_of_beq h;exact⟨fz w,(GK w)⟩
 sT:=λC h=>by obtain rfl:=eq_of_beq h;exact⟨eF w,(GH w)⟩
 CM:=λC h=>by obtain rfl:=eq_of_beq h;exact⟨eF w,(Hr w)⟩
theorem EE{P:Program}{w:World}{mg:Str->Option Value}(X:PySem.W.Frag.In (κ w) h)(G:h.Ns mainGlobals mg)(base:Heap):aV P w (κ w) mg base (bU P w) 10 542 uP ["_law_script"] (dW 1 pE):=by
 have T:=txt X G
 have LO:o6 P w (κ w) mg base fq "NoDial" "dial" := ⟨⟨55,gW,["self", "dial"],(by kernel_rfl),(by kernel_rfl),uX,vb w⟩,qf w,(by kernel_rfl),(by kernel_rfl),mg_of X G (by kernel_rfl)⟩
 have Mm:o6 P w (κ w) mg base ia "NoLever" "lever" := ⟨⟨81,fP,["self", "lever"],(by kernel_rfl),(by kernel_rfl),ug,sA w⟩,mV w,(by kernel_rfl),(by kernel_rfl),mg_of X G (by kernel_rfl)⟩
 have Mn:o6 P w (κ w) mg base f7 "NoPrice" "lever" := ⟨⟨107,fZ,["self", "lever"],(by kernel_rfl),(by kernel_rfl),sj,rR w⟩,oH w,(by kernel_rfl),(by kernel_rfl),mg_of X G (by kernel_rfl)⟩
 have Lf:=iV P w base X G 183 182 GA λD=>uo D T
 have LJ:=iV P w base X G 188 187 GA λD=>xX D T Lf
 have LI:=iV P w base X G 195 194 GA λD=>xR D T
 have Lw:=iV P w base X G 202 201 GA λD=>nv D T LI
 have Mf:=iV P w base X G 207 206 GA λD=>tU D T
 have Md:=iV P w base X G 212 211 GA λD=>tZ D T
 have KQ:=iV P w base X G 267 266 xN λD=>qC D T Lf
 have LM:=iV P w base X G 274 273 xN λD=>pA D T LO KQ
 have K8:=iV P w base X G 281 280 xN λD=>j_ D T
 have Lx:=iV P w base X G 288 287 xN λD=>mX D T LJ Mm
 have LN:=iV P w base X G 295 294 xN λD=>pB D T Mn KQ
 have L8:=iV P w base X G 300 299 xN λD=>AS D T
 have L7:=iV P w base X G 329 328 vH λD=>Aa D T
 have K3:=iV P w base X G 336 335 vH λD=>oR D T L7 L8
 have KR:=iV P w base X G 357 356 vH λD=>qK D T
 have Me:=iV P w base X G 364 363 vH λD=>sU D T KR LI K3
 have Lq:=iV P w base X G 371 370 vH λD=>uF D T KR K3
 have Le:=iV P w base X G 378 377 vH λD=>sR D T L7
 have LR:=iV P w base X G 483 482 Bo λD=>qI D T
 have KZ:=iV P w base X G 490 489 Bo λD=>t6 D T
 have KD:=iV P w base X G 497 496 Bo λD=>mZ D T
 have LU:=iV P w base X G 504 503 Bo λD=>qH D T
 have LH:=iV P w base X G 509 508 Bo λD=>oY D T KD KZ LU
 have LG:=iV P w base X G 516 515 Bo λD=>oZ D T KD KZ
 have Lm:=iV P w base X G 523 522 Bo λD=>mC D T
 have Ln:=iV P w base X G 528 527 Bo λD=>my D T KD KZ
 have KA:yq P w (κ w) mg base aq 4 "Vault" 4 [.cy] cv:=⟨⟨225,g_,["self", "sizes", "levers", "prices"],[.none],[.cy],mg_of X G (by kernel_rfl),⟨(by kernel_rfl),(by kernel_rfl),(by kernel_rfl),(by kernel_rfl)⟩,qx w,(.cons rfl .nil),λ_=>(.cons .cy .nil),oW (kD w) T LM Lx L8 LN Lw⟩⟩
 have Ku:=DU P w base (fz w) 232 231 xN λD=>oy D T
 have Kx:=DU P w base (fz w) 239 238 xN λD=>mj D T
 have KU:=DU P w base (fz w) 253 252 xN λD=>mr D T
 have K0:=DU P w base (eF w) 395 394 vH λD=>oG D T Ku KR
 have LD:=DU P w base (eF w) 400 399 vH λD=>pz D T
 have Lb:=iV P w base X G 307 306 xN λD=>wO D T Ku
 have LK:=iV P w base X G 312 311 xN λD=>pq D T Ku LJ
 have KW:=iV P w base X G 319 318 xN λD=>mv D T LK
 have MH:=iV P w base X G 324 323 Kn λD=>zj D T KW KU Ku Md
 have Lh:=iV P w base X G 343 342 vH λD=>tN D T Kx
 have Ly:=iV P w base X G 350 349 vH λD=>nM D T Kx Mf
 have KJ:yq P w (κ w) mg base az 4 "Rungs" 2 [] cL:=⟨⟨390,gZ,["self", "vault"],[],[],mg_of X G (by kernel_rfl),⟨(by kernel_rfl),(by kernel_rfl),(by kernel_rfl),(by kernel_rfl)⟩,qO w,.nil,λ_=>.nil,pf (qA w) T Ku Lb Lh Kx Ly Me Le Lq⟩⟩
 have K1:=DU P w base (eF w) 421 420 vH λD=>i9 D T KW Lh Ku Lq
 have La:=DU P w base (eF w) 433 432 vH λD=>kU D T K1 Lb Le
 have K6:=DU P w base (eF w) 438 437 vH λD=>jO D T Ku KQ LO K0 MH KU
 have Lp:=iV P w base X G 450 449 md5 λD=>Bh D T Lb KJ LD Ku KA
 have Mc:=iV P w base X G 457 456 md5 λD=>tf D T KA Kx Lp
 have Mq:=iV P w base X G 462 461 md5 λD=>wW D T KJ Ku K6 KA Lp
 have Lg:=iV P w base X G 469 468 JX λD=>uq D T Ku K8 Kx Mc
 have M8:=iV P w base X G 476 475 JX λD=>B8 D T Mq Lg
 have LS:=iV P w base X G 535 534 Bo λD=>qB D T La
 exact Eh (Ho w) T LR LH LG KA KJ M8 Lg K0 Lm LS Ln Kx Lp
theorem Jy:wj (κ w)=true:=by kernel_rfl
theorem IE:nsIn (κ w) mainGlobals "law" = some (some (.ref 542)):=by kernel_rfl
end uu
open PySem PySem.W
theorem uu.hold(said:PySem.Challenge.rw_dialvault_k52_whole_pairs_of_great_dials.wellSaid=true)(NC:∀ ns:List Int,ns.length<=63->(∀ i∈ns,Builtin.Int.intBits i<=1048576)->uu.pE [.iU (ns.map L2.PV.int)]=L2.M.ok (.bl true)):PySem.Challenge.rw_dialvault_k52_whole_pairs_of_great_dials.Holds:=by
 refine holds_law said λsaid=>?_
 refine holds_open (q:=HD.vw) (loose:=HD.loose) (Xt:=HD.Xt) (XP:=XL HD.vw []) (Yf:=Hook.obs HD.hook) (Ya:=Hook.val HD.hook) (YP:=Hook.says HD.hook) HD.HJ (Hook.of HD.hook) (Hook.keeps HD.hook) (λs e=>xl_of s (Bool.and_eq_true_iff.mp e).1) XL.keeps (by rfl) (by rfl) (by rfl) (λs e=>recFacts_of (Bool.and_eq_true_iff.mp e).2) (by rfl) said (by decide +kernel) ⟨rfl,rfl,rfl,rfl,rfl,by decide +kernel⟩ ?hw ?hc
 case hw=>w_witness2
 refine L2.uE (l:=PySem.Challenge.rw_dialvault_k52_whole_pairs_of_great_dials) (n:=63) (k:=10) (x := "_law_script") (K:=HD.K) (sem:=uu.pE) rfl (by decide) rfl ⟨rfl,by decide,by decide⟩ (λw h Y=>PySem.W.kIn_of Y) (λw=>uu.Jy w) (λw mg fa h X G hmg=>?_) NC
 have e:=hmg.symm.trans (PySem.W.mg_of X G (uu.IE w))
 cases e
 exact⟨uu.uP,λs v=>.of_eq rfl,λbase X' G'=>uu.EE X' G' base⟩
namespace Eu
theorem pU(a b:Int)(hb:b≠0):(a-a.fdiv b*b).natAbs<b.natAbs/\0<=(a-a.fdiv b*b)*b/\(0<=a*b->a.natAbs=(a.fdiv b).natAbs*b.natAbs+(a-a.fdiv b*b).natAbs):=by
 have pos:∀ (a b:Int),0<b->(a-a/b*b).natAbs<b.natAbs/\0<=(a-a/b*b)*b/\(0<=a*b->a.natAbs=(a/b).natAbs*b.natAbs+(a-a/b*b).natAbs):=by
  intro a b hb
  have e:a-a/b*b=a%b:=by
   have h:=Int.mul_ediv_add_emod a b
   rw[Int.mul_comm] at h
   omega
  have h0:=Int.emod_nonneg a (by omega:b≠0)
  have h1:=Int.emod_lt_of_pos a hb
  rw[e]
  refine⟨by omega,Int.mul_nonneg h0 (by omega),λhab=>?_⟩
  have ha:0<=a:=by
   rcases Int.lt_or_le a 0 with h | h
   ·have:=Int.mul_neg_of_neg_of_pos h hb
    omega
   ·exact h
  have hq:0<=a/b:=Int.ediv_nonneg ha (by omega)
  have h2:=Int.mul_ediv_add_emod a b
  have h3:((a/b).natAbs*b.natAbs:Nat)=(b*(a/b)).natAbs:=by
   rw[Int.natAbs_mul,Nat.mul_comm]
  rw[h3]
  have h4:0<=b*(a/b):=Int.mul_nonneg (by omega) hq
  omega
 rcases Int.lt_or_le 0 b with h | h
 ·rw[Int.fdiv_eq_ediv_of_nonneg a (by omega)]
  exact pos a b h
 ·have h':0 < -b:=by omega
  have e:a.fdiv b=(-a)/(-b):=by
   rw[← Int.fdiv_eq_ediv_of_nonneg (-a) (by omega:0<=-b),Int.neg_fdiv_neg]
  obtain⟨p1,p2,p3⟩:=pos (-a) (-b) h'
  have e2:-a-(-a)/(-b)*(-b)=-(a-a.fdiv b*b):=by
   rw[← e,Int.mul_neg]
   omega
  rw[e2] at p1 p2 p3
  rw[← e] at p3
  simp only[Int.natAbs_neg,Int.neg_mul_neg] at p1 p2 p3
  exact⟨p1,p2,p3⟩
structure St (a b:Int) (r s t r' s' t':Int):Prop where
 c0:r=s*a+t*b
 c1:r'=s'*a+t'*b
 dv:∀ d:Int,d∣r->d∣r'->d∣a/\d∣b
 bd:s'.natAbs*r.natAbs+s.natAbs*r'.natAbs<=b.natAbs
 sg:s'=0\/0<=r*r'
 b0:s.natAbs<=b.natAbs+1
 b1:s'.natAbs<=b.natAbs+1
 d0:t.natAbs<=a.natAbs+(b.natAbs+1)*a.natAbs+b.natAbs+1
 d1:t'.natAbs<=a.natAbs+(b.natAbs+1)*a.natAbs+b.natAbs+1
 m0:r.natAbs<=a.natAbs+b.natAbs
 m1:r'.natAbs<=b.natAbs
theorem start(a b:Int):St a b a 1 0 b 0 1 where
 c0:=by omega
 c1:=by omega
 dv:=λd h1 h2=>⟨h1,h2⟩
 bd:=by simp
 sg:=.inl rfl
 b0:=by omega
 b1:=by omega
 d0:=by simp
 d1:=by omega
 m0:=by omega
 m1:=by omega
theorem turn{a b r s t r' s' t':Int}(h:St a b r s t r' s' t')(h0:r'≠0) :
  St a b r' s' t' (r-r.fdiv r'*r') (s-r.fdiv r'*s') (t-r.fdiv r'*t')/\(r-r.fdiv r'*r').natAbs<r'.natAbs:=by
 obtain⟨f1,f2,f3⟩:=pU r r' h0
 generalize hq:r.fdiv r'=q at *
 have hb:b≠0:=by
  intro z
  have:=h.m1
  omega
 have hr':1<=r'.natAbs:=by omega
 have c1':r-q*r'=(s-q*s')*a+(t-q*t')*b:=by
  rw[h.c0,h.c1,Int.sub_mul,Int.sub_mul,Int.mul_add,Int.mul_assoc,Int.mul_assoc]
  omega
 have bd':(s-q*s').natAbs*r'.natAbs+s'.natAbs*(r-q*r').natAbs<=b.natAbs:=by
  have pQ:(s-q*s').natAbs<=s.natAbs+q.natAbs*s'.natAbs:=by
   rw[← Int.natAbs_mul]
   omega
  have hbd:=h.bd
  rcases h.sg with z | z
  ·subst z
   simp only[Int.mul_zero,Int.sub_zero,Int.natAbs_zero,Nat.zero_mul,Nat.zero_add,Nat.add_zero] at hbd ⊢
   exact hbd
  ·have e:=f3 z
   have k1:(s-q*s').natAbs*r'.natAbs<=(s.natAbs+q.natAbs*s'.natAbs)*r'.natAbs:=Nat.mul_le_mul_right _ pQ
   have k2:(s.natAbs+q.natAbs*s'.natAbs)*r'.natAbs+s'.natAbs*(r-q*r').natAbs=s'.natAbs*r.natAbs+s.natAbs*r'.natAbs:=by
    rw[e,Nat.add_mul,Nat.mul_add,Nat.mul_comm q.natAbs s'.natAbs,Nat.mul_assoc]
    omega
   omega
 have b1':(s-q*s').natAbs<=b.natAbs:=by
  have:(s-q*s').natAbs*1<=(s-q*s').natAbs*r'.natAbs:=Nat.mul_le_mul_left _ hr'
  omega
 have mm:(r-q*r').natAbs<=b.natAbs:=by
  have:=h.m1
  omega
 have d1':(t-q*t').natAbs<=a.natAbs+(b.natAbs+1)*a.natAbs+b.natAbs+1:=by
  have e:(t-q*t')*b=(r-q*r')-(s-q*s')*a:=by omega
  have e1:((t-q*t')*b).natAbs<=(r-q*r').natAbs+((s-q*s')*a).natAbs:=by omega
  rw[Int.natAbs_mul,Int.natAbs_mul] at e1
  have k1:(t-q*t').natAbs*1<=(t-q*t').natAbs*b.natAbs:=Nat.mul_le_mul_left _ (by omega)
  have k2:(s-q*s').natAbs*a.natAbs<=(b.natAbs+1)*a.natAbs:=Nat.mul_le_mul_right _ (by omega)
  omega
 refine⟨⟨h.c1,c1',λd e1 e2=>?_,bd',?_,h.b1,by omega,h.d1,d1',?_,mm⟩,f1⟩
 ·refine h.dv d ?_ e1
  have e3:d∣q*r':=Int.dvd_trans e1 (Int.dvd_mul_left _ _)
  have e4:=Int.dvd_add e2 e3
  rwa [Int.sub_add_cancel] at e4
 ·exact .inr (by rw[Int.mul_comm];exact f2)
 ·have:=h.m1
  omega
theorem done{a b r s t s' t':Int}(h:St a b r s t 0 s' t'):r∣a/\r∣b:=h.dv r (Int.dvd_refl r) (Int.dvd_zero r)
end Eu
namespace Lc
def yK(ns:List Nat):Nat:=ns.foldl Nat.lcm 1
theorem wq:∀ (ns:List Nat) (m:Nat),m∣ns.foldl Nat.lcm m/\(∀ n∈ns,n∣ns.foldl Nat.lcm m)/\(∀ k,m∣k->(∀ n∈ns,n∣k)->ns.foldl Nat.lcm m∣k)
 | [],m=>⟨Nat.dvd_refl m,(λ_ h=>nomatch h),λk h _=>h⟩
 | n::ns,m=>by
  obtain⟨h1,h2,h3⟩:=wq ns (Nat.lcm m n)
  refine⟨Nat.dvd_trans (Nat.dvd_lcm_left m n) h1,λx hx=>?_,λk hm hk=>?_⟩
  ·rcases List.mem_cons.mp hx with e | hx
   ·rw[e];exact Nat.dvd_trans (Nat.dvd_lcm_right m n) h1
   ·exact h2 x hx
  ·exact h3 k (Nat.lcm_dvd hm (hk n List.mem_cons_self)) λx hx=>hk x (List.mem_cons_of_mem _ hx)
variable{ns:List Nat}
theorem lcm_dvd{n:Nat}(h:n∈ns):n∣yK ns:=(wq ns 1).2.1 n h
theorem l7:∀ (ns:List Nat) (m:Nat),0<m->(∀ n∈ns,0<n)->0<ns.foldl Nat.lcm m
 | [],m,h,_=>h
 | n::ns,m,h,hp=>l7 ns (Nat.lcm m n) (Nat.lcm_pos h (hp n List.mem_cons_self)) λx hx=>hp x (List.mem_cons_of_mem _ hx)
theorem lcm_pos(h:∀ n∈ns,0<n):0<yK ns:=l7 ns 1 (by decide) h
theorem mU(B:Nat):∀ (ns:List Nat) (m k:Nat),0<m->m<=2^k->(∀ n∈ns,0<n/\n<=2^B)->ns.foldl Nat.lcm m<=2^(k+B*ns.length)
 | [],m,k,_,h,_=>by simpa using h
 | n::ns,m,k,h0,h,hp=>by
  have hn:=hp n List.mem_cons_self
  have h1:Nat.lcm m n<=2^(k+B):=by
   have:Nat.lcm m n<=m*n:=Nat.le_of_dvd (Nat.mul_pos h0 hn.1) (Nat.lcm_dvd (Nat.dvd_mul_right m n) (Nat.dvd_mul_left n m))
   rw[Nat.pow_add]
   exact Nat.le_trans this (Nat.mul_le_mul h hn.2)
  have h2:=mU B ns (Nat.lcm m n) (k+B) (Nat.lcm_pos h0 hn.1) h1 λx hx=>hp x (List.mem_cons_of_mem _ hx)
  have e:k+B*(n::ns).length=k+B+B*ns.length:=by
   rw[List.length_cons,Nat.mul_succ];omega
  rw[e]
  exact h2
theorem Ao(m n:Nat):m/Nat.gcd m n*n=Nat.lcm m n:=by
 unfold Nat.lcm
 rw[Nat.div_mul_right_comm (Nat.gcd_dvd_left m n)]
end Lc
namespace Rg
abbrev bI:=Nat->Int
def aH(s:bI)(D:Nat->bI)(d:Nat):Int:=if D d d=0 then s d else D d d
def G(n:Nat)(s:bI)(D:Nat->bI):Nat->Nat->bI->Prop
 | 0,_,v=>∀ i,i<n->s i∣v i
 | k+1,d,v=>aH s D d∣v d/\G n s D k (d+1) λi=>v i-v d/aH s D d*D d i
def U(i:Nat)(c:Int):bI:=λj=>if j=i then c else 0
variable{D:Nat->bI}{s:bI}{n:Nat}
theorem G.ext:∀ {k d:Nat} {v w:bI},d+k=n->(∀ i,i<n->v i=w i)->G n s D k d v->G n s D k d w
 | 0,d,v,w,_,e,h=>λi hi=>by rw[← e i hi];exact h i hi
 | k+1,d,v,w,hn,e,h=>by
  have ed:=e d (by omega)
  refine⟨by rw[← ed];exact h.1,G.ext (by omega) (λi hi=>?_) h.2⟩
  rw[e i hi,ed]
theorem G.add:∀ {k d:Nat} {v w:bI},d+k=n->G n s D k d v->G n s D k d w->G n s D k d λi=>v i+w i
 | 0,d,v,w,_,h,h'=>λi hi=>Int.dvd_add (h i hi) (h' i hi)
 | k+1,d,v,w,hn,h,h'=>by
  refine⟨Int.dvd_add h.1 h'.1,G.ext (by omega) (λi hi=>?_) (G.add (by omega) h.2 h'.2)⟩
  show _=v i+w i-(v d+w d)/aH s D d*D d i
  rw[Int.add_ediv_of_dvd_left h.1,Int.add_mul]
  omega
theorem G.mul(c:Int):∀ {k d:Nat} {v:bI},d+k=n->G n s D k d v->G n s D k d λi=>c*v i
 | 0,d,v,_,h=>λi hi=>Int.dvd_trans (h i hi) (Int.dvd_mul_left _ _)
 | k+1,d,v,hn,h=>by
  refine⟨Int.dvd_trans h.1 (Int.dvd_mul_left _ _),G.ext (by omega) (λi hi=>?_) (G.mul c (by omega) h.2)⟩
  show _=c*v i-c*v d/aH s D d*D d i
  rw[Int.mul_ediv_assoc c h.1,Int.mul_sub,Int.mul_assoc]
theorem G.zero:∀ {k d:Nat},d+k=n->G n s D k d λ_=>0
 | 0,d,_=>λi _=>Int.dvd_zero _
 | k+1,d,hn=>⟨Int.dvd_zero _,G.ext (by omega) (λi hi=>by simp) (G.zero (k:=k) (d:=d+1) (by omega))⟩
theorem G.skip{v:bI}:∀ {j k d:Nat},d+(j+k)=n->(∀ i,d<=i->i<d+j->v i=0)->G n s D k (d+j) v->G n s D (j+k) d v
 | 0,k,d,_,_,h=>by rw[Nat.zero_add];exact h
 | j+1,k,d,hn,hz,h=>by
  rw[show j+1+k=(j+k)+1 by omega]
  have z:=hz d (Nat.le_refl _) (by omega)
  refine⟨by rw[z];exact Int.dvd_zero _,G.ext (v:=v) (by omega) (λi hi=>by rw[z];simp) (G.skip (by omega) (λi h1 h2=>hz i (by omega) (by omega)) (by rw[show d+1+j=d+(j+1) by omega];exact h))⟩
structure Good (n:Nat) (s:bI) (D:Nat->bI):Prop where
 sp:∀ i,i<n->0<s i
 hU:∀ d,d<n->∀ i,i<n->0<=D d i/\D d i<s i
 pQ:∀ d,d<n->∀ i,i<d->D d i=0
 dv:∀ d,d<n->aH s D d∣s d
 GG:∀ d k,d+(k+1)=n->G n s D k (d+1) λi=>s d/aH s D d*D d i
variable{d:Nat}
variable{v:bI}{k:Nat}
theorem Good.pos(g:Good n s D)(h:d<n):0<aH s D d/\aH s D d<=s d:=by
 have h1:=g.hU d h d h
 have h2:=g.sp d h
 unfold aH
 split <;> omega
theorem Good.diag(g:Good n s D)(h:d<n):s d∣D d d-aH s D d:=by
 unfold aH
 split
 ·rename_i z;rw[z];exact⟨-1,by omega⟩
 ·rw[Int.sub_self];exact Int.dvd_zero _
theorem Good.turn(g:Good n s D):∀ {k d i:Nat} (c:Int),d+k=n->i<n->G n s D k d (U i (c*s i))
 | 0,d,i,c,_,hi=>λj hj=>by
  unfold U
  split
  ·rename_i z;rw[z];exact Int.dvd_mul_left _ _
  ·exact Int.dvd_zero _
 | k+1,d,i,c,hn,hi=>by
  have hd:d<n:=by omega
  by_cases z:i=d
  ·subst z
   have dv:=g.dv i hi
   refine⟨by show _∣U i _ i;rw[U,if_pos rfl];exact Int.dvd_trans dv (Int.dvd_mul_left _ _),?_⟩
   refine G.ext (by omega) (λj hj=>?_) (G.add (by omega) (g.turn (k:=k) (d:=i+1) (i:=i) c (by omega) hi) (G.mul (-c) (by omega) (g.GG i k hn)))
   show U i (c*s i) j+-c*(s i/aH s D i*D i j)=U i (c*s i) j-U i (c*s i) i/aH s D i*D i j
   rw[show U i (c*s i) i=c*s i by rw[U,if_pos rfl],Int.mul_ediv_assoc c dv,Int.neg_mul,Int.mul_assoc]
   omega
  ·have u0:U i (c*s i) d=0:=by rw[U,if_neg (Ne.symm z)]
   refine⟨by rw[u0];exact Int.dvd_zero _,G.ext (by omega) (λj hj=>?_) (g.turn (k:=k) (d:=d+1) (i:=i) c (by omega) hi)⟩
   rw[u0];simp
theorem G.j3{w:bI}(ht:∀ i c,i<n->G n s D k d (U i (c*s i)))(hn:d+k=n)(h:∀ i,i<n->s i∣w i-v i)(hv:G n s D k d v):G n s D k d w:=by
 have key:∀ m,m<=n->G n s D k d λi=>if i<m then w i else v i:=by
  intro m
  induction m with
  | zero=>intro _;exact G.ext hn (λi _=>by simp) hv
  | succ m ih =>
   intro hm
   obtain⟨c,hc⟩:=h m (by omega)
   refine G.ext hn (λi hi=>?_) (G.add hn (ih (by omega)) (ht m c (by omega)))
   show (if i<m then w i else v i)+U m (c*s m) i=if i<m+1 then w i else v i
   unfold U
   by_cases z:i=m
   ·subst z
    rw[if_neg (by omega),if_pos rfl,if_pos (by omega),Int.mul_comm c]
    omega
   ·rw[if_neg z]
    by_cases q:i<m
    ·rw[if_pos q,if_pos (by omega)];omega
    ·rw[if_neg q,if_neg (by omega)];omega
 exact G.ext hn (λi hi=>by simp[hi]) (key n (Nat.le_refl _))
theorem Good.j3(g:Good n s D){k d:Nat}{v w:bI}(hn:d+k=n)(h:∀ i,i<n->s i∣w i-v i)(hv:G n s D k d v):G n s D k d w :=
 G.j3 (λi c hi=>g.turn c hn hi) hn h hv
theorem Good.sub(g:Good n s D){w:bI}(hn:d+k=n)(hv:G n s D k d v)(hw:G n s D k d w):G n s D k d λi=>v i-w i :=
 G.ext hn (λi _=>by omega) (G.add hn hv (G.mul (-1) hn hw))
theorem Good.own(g:Good n s D)(hn:d+(k+1)=n):G n s D (k+1) d (D d):=by
 have hd:d<n:=by omega
 by_cases z:D d d=0
 ·have e:aH s D d=s d:=by unfold aH;rw[if_pos z]
  have c:=g.GG d k hn
  rw[e] at c
  refine⟨by rw[z];exact Int.dvd_zero _,G.ext (by omega) (λi hi=>?_) c⟩
  rw[z,Int.ediv_self (by have:=g.sp d hd;omega)]
  simp
 ·have e:aH s D d=D d d:=by unfold aH;rw[if_neg z]
  refine⟨by rw[e];exact Int.dvd_refl _,G.ext (by omega) (λi hi=>?_) (G.zero (k:=k) (d:=d+1) (by omega))⟩
  rw[e,Int.ediv_self z];omega
theorem Good.row(g:Good n s D)(hd:d<n):∀ {k e:Nat},e+k=n->e<=d->G n s D k e (D d):=by
 intro k e hn he
 have h:=g.own (d:=d) (k:=n-d-1) (by omega)
 have:=G.skip (n:=n) (s:=s) (D:=D) (v:=D d) (j:=d-e) (k:=n-d-1+1) (d:=e) (by omega) (λi h1 h2=>g.pQ d hd i (by omega)) (by rw[show e+(d-e)=d by omega];exact h)
 rw[show d-e+(n-d-1+1)=k by omega] at this
 exact this
structure Tk (n:Nat) (s:bI) (D D' L:Nat->bI) (u v g:Nat->Int):Prop where
 gp:∀ d,d<n->0<g d
 bz:∀ d,d<n->u d*aH s D d+v d*L d d=g d
 g1:∀ d,d<n->g d∣aH s D d
 g2:∀ d,d<n->g d∣L d d
 G9:∀ d,d<n->∀ i,i<n->D' d i=(u d*D d i+v d*L d i)%s i
 HF:∀ d,d<n->∀ i,i<n->L (d+1) i=(aH s D d/g d*L d i+-(L d d/g d)*D d i)%s i
 l0:∀ i,i<n->0<=L 0 i/\L 0 i<s i
variable{a b:Int}
section
variable{D' L:Nat->bI}{u v g:Nat->Int}
theorem cY(a b:Int):b∣a%b-a:=⟨-(a/b),by have:=Int.emod_def a b;rw[Int.mul_neg];omega⟩
theorem ly(a b:Int):b∣a-a%b:=⟨a/b,by have:=Int.emod_def a b;omega⟩
theorem Tk.kept(t:Tk n s D D' L u v g)(G:Good n s D):∀ d,d<=n->∀ i,i<n->0<=L d i/\L d i<s i:=by
 intro d hd i hi
 cases d with
 | zero=>exact t.l0 i hi
 | succ d =>
  rw[t.HF d (by omega) i hi]
  have:=G.sp i hi
  exact⟨Int.emod_nonneg _ (by omega),Int.emod_lt_of_pos _ this⟩
theorem hV(h0:0<=a)(h1:a<b)(h:b∣a):a=0:=by
 obtain⟨c,rfl⟩:=h
 rcases Int.lt_or_le 0 c with hc | hc
 ·have:b*1<=b*c:=Int.mul_le_mul_of_nonneg_left hc (by omega)
  omega
 ·have:b*c<=0:=Int.mul_nonpos_of_nonneg_of_nonpos (by omega) hc
  omega
theorem Tk.zero(t:Tk n s D D' L u v g)(G:Good n s D):∀ d,d<=n->∀ i,i<d->L d i=0:=by
 intro d
 induction d with
 | zero=>intro _ i hi;omega
 | succ d ih =>
  intro hd i hi
  have Nt:d<n:=by omega
  have k:=t.kept G (d+1) hd i (by omega)
  refine hV k.1 k.2 ?_
  rw[t.HF d Nt i (by omega)]
  rcases Nat.lt_or_ge i d with h | h
  ·rw[ih (by omega) i h,G.pQ d Nt i h]
   simp
  ·obtain rfl:i=d:=by omega
   refine Int.dvd_trans ?_ (Int.dvd_refl _)
   obtain⟨c,hc⟩:=G.diag Nt
   obtain⟨a,ha⟩:=t.g1 i Nt
   obtain⟨b,hb⟩:=t.g2 i Nt
   have gp:=t.gp i Nt
   have e1:aH s D i/g i=a:=by rw[ha];exact Int.mul_ediv_cancel_left a (by omega)
   have e2:L i i/g i=b:=by rw[hb];exact Int.mul_ediv_cancel_left b (by omega)
   rw[e1,e2]
   have e3:a*L i i+-b*D i i=s i*(-b*c):=by
    have:D i i=aH s D i+s i*c:=by omega
    rw[this,ha,hb];grind
   rw[e3,Int.mul_emod_right]
   exact Int.dvd_zero _
theorem Tk.step(t:Tk n s D D' L u v g)(G:Good n s D)(hd:d<n):aH s D' d=g d:=by
 obtain⟨c,hc⟩:=G.diag hd
 have gp:=t.gp d hd
 have sp:=G.sp d hd
 have st:=G.pos hd
 have le:g d<=aH s D d:=Int.le_of_dvd st.1 (t.g1 d hd)
 have e:D' d d=g d%s d:=by
  rw[t.G9 d hd d hd,← t.bz d hd]
  have:D d d=aH s D d+s d*c:=by omega
  rw[this,show u d*(aH s D d+s d*c)+v d*L d d=(u d*aH s D d+v d*L d d)+s d*(u d*c) by grind,Int.add_mul_emod_self_left]
 unfold aH
 rw[e]
 by_cases z:g d=s d
 ·rw[z,Int.emod_self,if_pos rfl]
 ·rw[Int.emod_eq_of_lt (by omega) (by omega),if_neg (by omega)]
theorem Tk.main(t:Tk n s D D' L u v g)(Gd:Good n s D):∀ k d,d+k=n->(∀ w,G n s D k d w->G n s D' k d w)/\G n s D' k d (L d)
 | 0,d,hn=>by
  refine⟨λw h=>h,λi hi=>?_⟩
  rw[t.zero Gd d (by omega) i (by omega)];exact Int.dvd_zero _
 | k+1,d,hn=>by
  obtain⟨i1,i2⟩:=t.main Gd k (d+1) (by omega)
  have hd:d<n:=by omega
  have turn:∀ i c,i<n->G n s D' k (d+1) (U i (c*s i)):=λi c hi=>i1 _ (Gd.turn c (by omega) hi)
  have st:=t.step Gd hd
  have gp:=t.gp d hd
  obtain⟨a,ha⟩:=t.g1 d hd
  obtain⟨b,hb⟩:=t.g2 d hd
  have e1:aH s D d/g d=a:=by rw[ha];exact Int.mul_ediv_cancel_left a (by omega)
  have e2:L d d/g d=b:=by rw[hb];exact Int.mul_ediv_cancel_left b (by omega)
  have bz:u d*a+v d*b=1:=by
   have:=t.bz d hd
   rw[ha,hb,show u d*(g d*a)+v d*(g d*b)=g d*(u d*a+v d*b) by grind] at this
   have h2:g d*(u d*a+v d*b)=g d*1:=by omega
   exact Int.eq_of_mul_eq_mul_left (by omega) h2
  have w1:∀ i,i<n->∃ c,D' d i=u d*D d i+v d*L d i+s i*c:=λi hi=>by
   obtain⟨c,hc⟩:=cY (u d*D d i+v d*L d i) (s i)
   exact⟨c,by rw[t.G9 d hd i hi];omega⟩
  have w2:∀ i,i<n->∃ c,L (d+1) i=a*L d i+-b*D d i+s i*c:=λi hi=>by
   obtain⟨c,hc⟩:=cY (a*L d i+-b*D d i) (s i)
   exact⟨c,by rw[t.HF d hd i hi,e1,e2];omega⟩
  constructor
  ·intro w h
   obtain⟨h1,h2⟩:=h
   refine⟨by rw[st];exact Int.dvd_trans (t.g1 d hd) h1,?_⟩
   obtain⟨q,hq⟩:=h1
   have sp:=(Gd.pos hd).1
   have q1:w d/aH s D d=q:=by rw[hq];exact Int.mul_ediv_cancel_left q (by omega)
   have q2:w d/aH s D' d=q*a:=by
    rw[st,hq,ha,show g d*a*q=g d*(q*a) by grind];exact Int.mul_ediv_cancel_left _ (by omega)
   rw[q2]
   rw[q1] at h2
   refine G.j3 turn (by omega) (λi hi=>?_) (G.add (by omega) (i1 _ h2) (G.mul (q*-(v d)) (by omega) i2))
   obtain⟨c1,hc1⟩:=w1 i hi
   obtain⟨c2,Nj⟩:=w2 i hi
   refine⟨q*(v d*c2-a*c1),?_⟩
   rw[hc1,Nj];grind
  ·refine⟨by rw[st];exact t.g2 d hd,?_⟩
   rw[st,e2]
   refine G.j3 turn (by omega) (λi hi=>?_) (G.mul (u d) (by omega) i2)
   obtain⟨c1,hc1⟩:=w1 i hi
   obtain⟨c2,Nj⟩:=w2 i hi
   refine⟨-(b*c1)-u d*c2,?_⟩
   rw[hc1,Nj];grind
theorem Tk.good(t:Tk n s D D' L u v g)(Gd:Good n s D):Good n s D' where
 sp:=Gd.sp
 hU:=λd hd i hi=>by
  rw[t.G9 d hd i hi]
  have:=Gd.sp i hi
  exact⟨Int.emod_nonneg _ (by omega),Int.emod_lt_of_pos _ this⟩
 pQ:=λd hd i hi=>by
  rw[t.G9 d hd i (by omega),Gd.pQ d hd i hi,t.zero Gd d (by omega) i hi];simp
 dv:=λd hd=>by
  rw[t.step Gd hd];exact Int.dvd_trans (t.g1 d hd) (Gd.dv d hd)
 GG:=λd k hn=>by
  have hd:d<n:=by omega
  have h1:=(t.main Gd (k+1) d hn).1 _ (Gd.turn (i:=d) 1 hn hd)
  have h2:=(t.main Gd k (d+1) (by omega)).1 _ (Gd.turn (i:=d) 1 (by omega) hd)
  have h3:=h1.2
  have ud:U d (1*s d) d=s d:=by rw[U,if_pos rfl,Int.one_mul]
  rw[ud] at h3
  refine G.ext (by omega) (λi hi=>?_) (G.add (by omega) h2 (G.mul (-1) (by omega) h3))
  show U d (1*s d) i+-1*(U d (1*s d) i-s d/aH s D' d*D' d i)=_
  omega
end
variable{W:Nat->bI}
variable{i:Nat}
section
variable{D':Nat->bI}
theorem Good.CF(Gd:Good n s D)(hU:∀ d,d<n->∀ i,i<n->0<=D' d i/\D' d i<s i)(pQ:∀ d,d<n->∀ i,i<d->D' d i=0)(dv:∀ d,d<n->aH s D' d∣s d)
  (h:∀ k d,d+k=n->∀ w,G n s D k d w->G n s D' k d w):Good n s D' where
 sp:=Gd.sp
 hU:=hU
 pQ:=pQ
 dv:=dv
 GG:=λd k hn=>by
  have hd:d<n:=by omega
  have h1:=h (k+1) d hn _ (Gd.turn (i:=d) 1 hn hd)
  have h2:=h k (d+1) (by omega) _ (Gd.turn (i:=d) 1 (by omega) hd)
  have h3:=h1.2
  have ud:U d (1*s d) d=s d:=by rw[U,if_pos rfl,Int.one_mul]
  rw[ud] at h3
  refine G.ext (by omega) (λi hi=>?_) (G.add (by omega) h2 (G.mul (-1) (by omega) h3))
  show U d (1*s d) i+-1*(U d (1*s d) i-s d/aH s D' d*D' d i)=_
  omega
structure Dn (n:Nat) (s:bI) (D:Nat->bI) (f:Nat) (W:Nat->bI):Prop where
 w0:∀ i,i<n->0<=W f i/\W f i<s i
 ws:∀ d,f<=d->d<n->∀ i,i<n->W (d+1) i=(1*W d i+-(W d d/aH s D d)*D d i)%s i
variable{f:Nat}
theorem Dn.kept(h:Dn n s D f W)(Gd:Good n s D):∀ d,f<=d->d<=n->∀ i,i<n->0<=W d i/\W d i<s i:=by
 intro d hf hd i hi
 rcases Nat.lt_or_ge f d with q | q
 ·obtain⟨e,rfl⟩:∃ e,d=e+1:=⟨d-1,by omega⟩
  rw[h.ws e (by omega) (by omega) i hi]
  have:=Gd.sp i hi
  exact⟨Int.emod_nonneg _ (by omega),Int.emod_lt_of_pos _ this⟩
 ·obtain rfl:d=f:=by omega
  exact h.w0 i hi
theorem Dn.ahead(h:Dn n s D f W)(Gd:Good n s D)(hf:f<=d)(hd:d<n)(hi:i<d):W (d+1) i=W d i:=by
 have k:=h.kept Gd d hf (by omega) i (by omega)
 rw[h.ws d hf hd i (by omega),Gd.pQ d hd i hi,Int.mul_zero,Int.add_zero,Int.one_mul,Int.emod_eq_of_lt k.1 k.2]
theorem Dn.at_(h:Dn n s D f W)(Gd:Good n s D)(hf:f<=d)(hd:d<n):W (d+1) d=W d d%aH s D d:=by
 have k:=h.kept Gd d hf (by omega) d hd
 have p:=Gd.pos hd
 rw[h.ws d hf hd d hd]
 have e:=Int.emod_def (W d d) (aH s D d)
 have q0:=Int.emod_nonneg (W d d) (show aH s D d≠0 by omega)
 have q1:=Int.emod_lt_of_pos (W d d) p.1
 by_cases z:D d d=0
 ·have st:aH s D d=s d:=by unfold aH;rw[if_pos z]
  rw[z,st,Int.emod_eq_of_lt k.1 k.2,Int.mul_zero,Int.add_zero,Int.one_mul,Int.emod_eq_of_lt k.1 k.2]
 ·have st:aH s D d=D d d:=by unfold aH;rw[if_neg z]
  rw[← st,show 1*W d d+-(W d d/aH s D d)*aH s D d=W d d%aH s D d by rw[e];grind]
  exact Int.emod_eq_of_lt q0 (by omega)
theorem Dn.low(h:Dn n s D f W)(Gd:Good n s D):∀ d,f<=d->d<=n->∀ e,f<=e->e<d->0<=W d e/\W d e<aH s D e:=by
 intro d
 induction d with
 | zero=>intro _ _ e _ he;omega
 | succ d ih =>
  intro hf hd e he hed
  rcases Nat.lt_or_ge e d with q | q
  ·rw[h.ahead Gd (by omega) (by omega) q];exact ih (by omega) (by omega) e he q
  ·obtain rfl:e=d:=by omega
   have p:=Gd.pos (show e<n by omega)
   rw[h.at_ Gd he (by omega)]
   exact⟨Int.emod_nonneg _ (by omega),Int.emod_lt_of_pos _ p.1⟩
theorem Dn.front(h:Dn n s D f W)(Gd:Good n s D):∀ d,f<=d->d<=n->∀ i,i<f->W d i=W f i:=by
 intro d
 induction d with
 | zero=>intro h1 _ i hi;omega
 | succ d ih =>
  intro hf hd i hi
  rcases Nat.lt_or_ge d f with q | q
  ·rw[show d+1=f by omega]
  ·rw[h.ahead Gd q (by omega) (by omega)];exact ih q (by omega) i hi
theorem Dn.run(h:Dn n s D f W)(Gd:Good n s D):∀ k d,f<=d->d+k=n->G n s D k d (W d)->∀ i,i<n->W n i=0
 | 0,d,hf,hn,g,i,hi=>by
  rw[Nat.add_zero] at hn
  subst hn
  have k:=h.kept Gd d hf (Nat.le_refl _) i hi
  exact hV k.1 k.2 (g i hi)
 | k+1,d,hf,hn,g,i,hi=>by
  refine h.run Gd k (d+1) (by omega) (by omega) (Gd.j3 (by omega) (λj hj=>?_) g.2) i hi
  rw[h.ws d hf (by omega) j hj]
  have:=cY (1*W d j+-(W d d/aH s D d)*D d j) (s j)
  rw[show 1*W d j+-(W d d/aH s D d)*D d j=W d j-W d d/aH s D d*D d j by grind] at this
  rw[show 1*W d j+-(W d d/aH s D d)*D d j=W d j-W d d/aH s D d*D d j by grind]
  exact this
theorem Dn.away(h:Dn n s D f W)(Gd:Good n s D):∀ d,f<=d->d<=n->∀ k,f+k=n->G n s D k f λi=>W f i-W d i:=by
 intro d
 induction d with
 | zero =>
  intro hf _ k hn
  obtain rfl:f=0:=by omega
  exact G.ext hn (λi _=>by omega) (G.zero hn)
 | succ d ih =>
  intro hf hd k hn
  rcases Nat.lt_or_ge d f with q | q
  ·rw[show d+1=f by omega]
   exact G.ext hn (λi _=>by omega) (G.zero hn)
  ·refine Gd.j3 hn (λi hi=>?_) (G.add hn (ih q (by omega) k hn) (G.mul (W d d/aH s D d) hn (Gd.row (show d<n by omega) hn q)))
   rw[h.ws d q (by omega) i hi]
   have:=ly (1*W d i+-(W d d/aH s D d)*D d i) (s i)
   obtain⟨c,hc⟩:=this
   exact⟨c,by rw[← hc];grind⟩
theorem G.small(Gd:Good n s D):∀ k d (v:bI),d+k=n->(∀ i,i<n->0<=v i/\v i<s i)->(∀ i,d<=i->i<n->v i<aH s D i)->G n s D k d v->∀ i,i<n->v i=0
 | 0,d,v,hn,h0,_,g,i,hi=>hV (h0 i hi).1 (h0 i hi).2 (g i hi)
 | k+1,d,v,hn,h0,h1,g,i,hi=>by
  have z:v d=0:=hV (h0 d (by omega)).1 (h1 d (Nat.le_refl _) (by omega)) g.1
  refine G.small Gd k (d+1) v (by omega) h0 (λj hj=>h1 j (by omega)) (G.ext (by omega) (λj hj=>?_) g.2) i hi
  rw[z];simp
theorem sF(Gd:Good n s D)(W:Nat->Nat->bI)(hW:∀ d,d<n->Dn n s D (d+1) (W d))(h0:∀ d,d<n->∀ i,i<n->W d (d+1) i=D d i)(hD:∀ d,d<n->∀ i,i<n->D' d i=W d n i) :
  Good n s D'/\(∀ d,d<n->aH s D' d=aH s D d)/\(∀ d,d<n->∀ e,d<e->e<n->D' d e<aH s D e)/\(∀ d,d<n->D' d d=0->∀ i,i<n->D' d i=0)/\(∀ k d,d+k=n->∀ w,G n s D k d w->G n s D' k d w):=by
 have dg:∀ d,d<n->∀ i,i<=d->D' d i=D d i:=λd hd i hi=>by
  rw[hD d hd i (by omega),(hW d hd).front Gd n (by omega) (Nat.le_refl _) i (by omega),h0 d hd i (by omega)]
 have st:∀ d,d<n->aH s D' d=aH s D d:=λd hd=>by
  unfold aH;rw[dg d hd d (Nat.le_refl _)]
 have jQ:∀ k d,d+k=n->∀ w,G n s D k d w->G n s D' k d w:=by
  intro k
  induction k with
  | zero=>intro d _ w h;exact h
  | succ k ih =>
   intro d hn w h
   have hd:d<n:=by omega
   refine⟨by rw[st d hd];exact h.1,ih (d+1) (by omega) _ ?_⟩
   rw[st d hd]
   refine G.ext (by omega) (λi hi=>?_) (G.add (by omega) h.2 (G.mul (w d/aH s D d) (by omega) ((hW d hd).away Gd n (by omega) (Nat.le_refl _) k (by omega))))
   show w i-w d/aH s D d*D d i+w d/aH s D d*(W d (d+1) i-W d n i)=_
   rw[h0 d hd i hi,hD d hd i hi];grind
 have good:Good n s D':=Gd.CF (λd hd i hi=>by rw[hD d hd i hi];exact(hW d hd).kept Gd n (by omega) (Nat.le_refl _) i hi) (λd hd i hi=>by rw[dg d hd i (by omega)];exact Gd.pQ d hd i hi) (λd hd=>by rw[st d hd];exact Gd.dv d hd) jQ
 have lt:∀ d,d<n->∀ e,d<e->e<n->D' d e<aH s D e:=λd hd e he hen=>by
  rw[hD d hd e hen];exact((hW d hd).low Gd n (by omega) (Nat.le_refl _) e (by omega) hen).2
 refine⟨good,st,lt,λd hd z=>?_,jQ⟩
 have h1:=good.own (d:=d) (k:=n-d-1) (by omega)
 have h2:=h1.2
 refine G.small good (n-d-1) (d+1) (D' d) (by omega) (good.hU d hd) (λi h1 h2=>by rw[st i h2];exact lt d hd i (by omega) h2) (G.ext (by omega) (λi hi=>?_) h2)
 rw[z];simp
end
def bg:Nat->(Nat->Int)->Int
 | 0,_=>0
 | m+1,f=>bg m f+f m
theorem fy(a b:Int)(f g h:Nat->Int):∀ m,(∀ l,l<m->h l=a*f l+b*g l)->bg m h=a*bg m f+b*bg m g
 | 0,_=>by simp[bg]
 | m+1,e=>by
  rw[bg,bg,bg,fy a b f g h m λl hl=>e l (by omega),e m (by omega)];grind
theorem bp{f g:Nat->Int}:∀ {m:Nat},(∀ l,l<m->f l=g l)->bg m f=bg m g
 | 0,_=>rfl
 | m+1,e=>by rw[bg,bg,bp λl hl=>e l (by omega),e m (by omega)]
theorem dr:∀ m,bg m (λ_=>0)=0
 | 0=>rfl
 | m+1=>by rw[bg,dr m];rfl
theorem du(k:Nat)(a:Int):∀ m,k<m->∀ f:Nat->Int,(∀ l,l<m->f l=if l=k then a else 0)->bg m f=a
 | 0,h,_,_=>by omega
 | m+1,h,f,e=>by
  rw[bg]
  by_cases z:k=m
  ·subst z
   rw[bp (g:=λ_=>0) λl hl=>by rw[e l (by omega),if_neg (by omega)],dr,e k (by omega),if_pos rfl];omega
  ·rw[du k a m (by omega) f λl hl=>e l (by omega),e m (by omega),if_neg (by omega)];omega
def Led(n:Nat)(s:bI)(m:Nat)(A:Nat->bI)(v P:bI):Prop:=∀ i,i<n->s i∣v i-bg m λl=>P l*A l i
variable{A:Nat->bI}{m:Nat}
theorem Led.mix{w x P Q R:bI}(h1:Led n s m A v P)(h2:Led n s m A w Q)(hx:∀ i,i<n->s i∣x i-(a*v i+b*w i))(hR:∀ l,l<m->R l=a*P l+b*Q l):Led n s m A x R:=λi hi=>by
 obtain⟨c1,e1⟩:=h1 i hi
 obtain⟨c2,e2⟩:=h2 i hi
 obtain⟨c3,e3⟩:=hx i hi
 rw[fy a b (λl=>P l*A l i) (λl=>Q l*A l i) (λl=>R l*A l i) m λl hl=>by rw[hR l hl];grind]
 exact⟨a*c1+b*c2+c3,by grind⟩
def aA:Nat->(Nat->Int)->Int
 | 0,_=>1
 | m+1,f=>aA m f*f m
theorem pF{f g h:Nat->Int}:∀ {m:Nat},(∀ l,l<m->f l=g l*h l)->aA m f=aA m g*aA m h
 | 0,_=>rfl
 | m+1,e=>by rw[aA,aA,aA,pF λl hl=>e l (by omega),e m (by omega)];grind
theorem bX{f g:Nat->Int}:∀ {m:Nat},(∀ l,l<m->f l=g l)->aA m f=aA m g
 | 0,_=>rfl
 | m+1,e=>by rw[aA,aA,bX λl hl=>e l (by omega),e m (by omega)]
theorem dm{f:Nat->Int}:∀ {m:Nat},(∀ l,l<m->0<f l)->0<aA m f
 | 0,_=>(by decide:(0:Int)<1)
 | m+1,e=>Int.mul_pos (dm λl hl=>e l (by omega)) (e m (by omega))
def vf(xs:List Int):bI:=λi=>xs.getD i 0
variable{xs:List Int}
theorem bc(h:i<xs.length):vf xs i=xs[i]:=by
 unfold vf;rw[List.getD_eq_getElem?_getD,List.getElem?_eq_getElem h];rfl
theorem nV(h:xs.length<=i):vf xs i=0:=by
 unfold vf;rw[List.getD_eq_getElem?_getD,List.getElem?_eq_none h];rfl
def mq(xs:List Int)(a:Int)(ys:List Int)(b:Int):List Int:=(xs.zip ys).map λz=>a*z.1+b*z.2
def wV(xs sizes:List Int):List Int:=(xs.zip sizes).map λz=>z.1%z.2
variable{ys:List Int}
theorem bL:(mq xs a ys b).length=min xs.length ys.length:=by simp[mq]
theorem jo:(wV xs ys).length=min xs.length ys.length:=by simp[wV]
theorem eQ(h1:i<xs.length)(h2:i<ys.length):vf (mq xs a ys b) i=a*vf xs i+b*vf ys i:=by
 rw[bc (by rw[bL];omega),bc h1,bc h2]
 simp[mq]
theorem jh(h1:i<xs.length)(h2:i<ys.length):vf (wV xs ys) i=vf xs i%vf ys i:=by
 rw[bc (by rw[jo];omega),bc h1,bc h2]
 simp[wV]
theorem qR(hl:xs.length=ys.length)(h:∀ i,i<xs.length->vf xs i=vf ys i):xs=ys:=by
 refine List.ext_getElem hl λi h1 h2=>?_
 have:=h i h1
 rwa [bc h1,bc h2] at this
theorem eV(n:Nat)(i:Nat):vf (List.replicate n 0) i=0:=by
 rcases Nat.lt_or_ge i n with h | h
 ·rw[bc (by simpa using h)];simp
 ·rw[nV (by simpa using h)]
def Bd(B:Nat)(xs:List Int):Prop:=∀ x∈xs,x.natAbs<2^B
theorem Bd.mono{B C:Nat}(h:Bd B xs)(hc:B<=C):Bd C xs:=λx hx=>Nat.lt_of_lt_of_le (h x hx) (Nat.pow_le_pow_right (by decide) hc)
theorem Bd.vf{B:Nat}{xs:List Int}(h:Bd B xs)(i:Nat):(vf xs i).natAbs<2^B:=by
 rcases Nat.lt_or_ge i xs.length with q | q
 ·rw[bc q];exact h _ (List.getElem_mem q)
 ·rw[nV q];exact Nat.two_pow_pos B
theorem uN{A B:Nat}(ha:a.natAbs<2^A)(hb:b.natAbs<2^B):(a*b).natAbs<2^(A+B):=by
 rw[Int.natAbs_mul,Nat.pow_add]
 have h0:0<2^A:=Nat.two_pow_pos A
 have h1:0<2^B:=Nat.two_pow_pos B
 exact Nat.mul_lt_mul_of_lt_of_le ha (Nat.le_of_lt hb) h1
theorem Gq{A:Nat}(ha:a.natAbs<2^A)(hb:b.natAbs<2^A):(a+b).natAbs<2^(A+1):=by
 rw[Nat.pow_succ];omega
theorem Bd.mix{A B:Nat}(hx:Bd B xs)(hy:Bd B ys)(ha:a.natAbs<2^A)(hb:b.natAbs<2^A):Bd (A+B+1) (mq xs a ys b):=by
 intro z hz
 obtain⟨w,hw,rfl⟩:=List.mem_map.mp hz
 have:=List.of_mem_zip (a:=w.1) (b:=w.2) hw
 exact Gq (uN ha (hx _ this.1)) (uN hb (hy _ this.2))
abbrev Row:=List Int×List Int
def row(rows:List Row)(d:Nat):Row:=rows.getD d ([],[])
def DD(rows:List Row):Nat->bI:=λd=>vf (row rows d).1
def PP(rows:List Row):Nat->bI:=λd=>vf (row rows d).2
structure Wf (n m:Nat) (rows:List Row):Prop where
 len:rows.length=n
 l1:∀ r∈rows,r.1.length=n
 l2:∀ r∈rows,r.2.length=m
variable{rows:List Row}
theorem eM(h:d<rows.length):row rows d=rows[d]:=by
 unfold row;rw[List.getD_eq_getElem?_getD,List.getElem?_eq_getElem h];rfl
theorem Wf.lT(w:Wf n m rows)(h:d<n):(row rows d).1.length=n:=by
 rw[eM (by rw[w.len];exact h)];exact w.l1 _ (List.getElem_mem _)
theorem Wf.at2(w:Wf n m rows)(h:d<n):(row rows d).2.length=m:=by
 rw[eM (by rw[w.len];exact h)];exact w.l2 _ (List.getElem_mem _)
def oO(sizes:List Int)(r:Row)(a:Int)(q:Row)(b:Int):Row:=(wV (mq r.1 a q.1 b) sizes,mq r.2 a q.2 b)
def aB(c:Int->Int->Int×Int)(sizes:List Int)(rows:List Row)(left:Row):Nat->Row
 | 0=>left
 | d+1 =>
  let l:=aB c sizes rows left d
  let st:=aH (vf sizes) (DD rows) d
  let nt:=vf l.1 d
  oO sizes l (st/(Int.gcd st nt:Nat)) (row rows d) (-(nt/(Int.gcd st nt:Nat)))
def dM(c:Int->Int->Int×Int)(sizes:List Int)(rows:List Row)(left:Row)(d:Nat):Row :=
 let l:=aB c sizes rows left d
 let st:=aH (vf sizes) (DD rows) d
 let nt:=vf l.1 d
 oO sizes (row rows d) (c st nt).1 l (c st nt).2
def cA(c:Int->Int->Int×Int)(sizes:List Int)(rows:List Row)(left:Row)(n:Nat):List Row:=(List.range n).map (dM c sizes rows left)
variable{left:Row}{sizes:List Int}{c:Int->Int->Int×Int}
theorem cN(w:Wf n m rows)(hs:sizes.length=n)(h1:left.1.length=n)(h2:left.2.length=m):∀ d,d<=n->(aB c sizes rows left d).1.length=n/\(aB c sizes rows left d).2.length=m
 | 0,_=>⟨h1,h2⟩
 | d+1,hd=>by
  obtain⟨i1,i2⟩:=cN w hs h1 h2 d (by omega)
  have e1:=w.lT (d:=d) (by omega);have e2:=w.at2 (d:=d) (by omega)
  simp only[aB,oO]
  rw[jo,bL,bL]
  exact⟨by omega,by omega⟩
theorem jH(h:d<n):row (cA c sizes rows left n) d=dM c sizes rows left d:=by
 rw[eM (by simp[cA,h])];simp[cA]
theorem A0(w:Wf n m rows)(hs:sizes.length=n)(h1:left.1.length=n)(h2:left.2.length=m):Wf n m (cA c sizes rows left n):=by
 have key:∀ d,d<n->(dM c sizes rows left d).1.length=n/\(dM c sizes rows left d).2.length=m:=λd hd=>by
  obtain⟨i1,i2⟩:=cN (c:=c) w hs h1 h2 d (by omega)
  have e1:=w.lT (d:=d) hd;have e2:=w.at2 (d:=d) hd
  simp only[dM,oO]
  rw[jo,bL,bL]
  exact⟨by omega,by omega⟩
 refine⟨by simp[cA],λr hr=>?_,λr hr=>?_⟩
 ·obtain⟨d,hd,rfl⟩:=List.mem_map.mp hr
  exact(key d (List.mem_range.mp hd)).1
 ·obtain⟨d,hd,rfl⟩:=List.mem_map.mp hr
  exact(key d (List.mem_range.mp hd)).2
theorem fO(h:0<a):0<(Int.gcd a b:Int):=by
 have:=Int.gcd_pos_of_ne_zero_left b (show a≠0 by omega);omega
theorem Hq(w:Wf n m rows)(hs:sizes.length=n)(h1:left.1.length=n)(h2:left.2.length=m)(Gd:Good n (vf sizes) (DD rows))(h0:∀ i,i<n->0<=vf left.1 i/\vf left.1 i<vf sizes i)
  (hc:∀ d,d<n->(c (aH (vf sizes) (DD rows) d) (vf (aB c sizes rows left d).1 d)).1*aH (vf sizes) (DD rows) d+(c (aH (vf sizes) (DD rows) d) (vf (aB c sizes rows left d).1 d)).2*vf (aB c sizes rows left d).1 d=(Int.gcd (aH (vf sizes) (DD rows) d) (vf (aB c sizes rows left d).1 d):Nat)) :
  Tk n (vf sizes) (DD rows) (DD (cA c sizes rows left n)) (λd=>vf (aB c sizes rows left d).1) (λd=>(c (aH (vf sizes) (DD rows) d) (vf (aB c sizes rows left d).1 d)).1) (λd=>(c (aH (vf sizes) (DD rows) d) (vf (aB c sizes rows left d).1 d)).2) (λd=>(Int.gcd (aH (vf sizes) (DD rows) d) (vf (aB c sizes rows left d).1 d):Nat)) where
 gp:=λd hd=>fO (Gd.pos hd).1
 bz:=hc
 g1:=λd hd=>Int.gcd_dvd_left ..
 g2:=λd hd=>Int.gcd_dvd_right ..
 G9:=λd hd i hi=>by
  obtain⟨i1,i2⟩:=cN (c:=c) w hs h1 h2 d (by omega)
  have e1:=w.lT (d:=d) hd
  show vf (row (cA c sizes rows left n) d).1 i=_
  rw[jH hd]
  simp only[dM,oO]
  rw[jh (by rw[bL];omega) (by omega),eQ (by omega) (by omega)]
  rfl
 HF:=λd hd i hi=>by
  obtain⟨i1,i2⟩:=cN (c:=c) w hs h1 h2 d (by omega)
  have e1:=w.lT (d:=d) hd
  simp only[aB,oO]
  rw[jh (by rw[bL];omega) (by omega),eQ (by omega) (by omega)]
  rfl
 l0:=h0
def CB(c:Int->Int->Int×Int):Prop:=∀ a b:Int,0<a->a<=360->0<=b->b<=360->(c a b).1*a+(c a b).2*b=(Int.gcd a b:Nat)/\(c a b).1.natAbs<2^20/\(c a b).2.natAbs<2^20
theorem jj(h:0<a)(h2:a<=360):0<a/(Int.gcd a b:Nat)/\a/(Int.gcd a b:Nat)<=360:=by
 have g:=fO (b:=b) h
 obtain⟨q,hq⟩:((Int.gcd a b:Nat):Int)∣a:=Int.gcd_dvd_left ..
 have e:a/(Int.gcd a b:Nat)=q:=by
  have:((Int.gcd a b:Nat):Int)≠0:=by omega
  exact Int.ediv_eq_of_eq_mul_right this hq
 rw[e]
 have q0:0<q:=by
  rcases Int.lt_or_le 0 q with z | z
  ·exact z
  ·have:=Int.mul_nonpos_of_nonneg_of_nonpos (Int.le_of_lt g) z;omega
 refine⟨q0,?_⟩
 have:1*q<=(Int.gcd a b:Nat)*q:=Int.mul_le_mul_of_nonneg_right (by omega) (by omega)
 omega
theorem kJ(h:0<a)(h1:0<=b)(h2:b<=360):0<=b/(Int.gcd a b:Nat)/\b/(Int.gcd a b:Nat)<=360:=by
 have g:=fO (b:=b) h
 exact⟨Int.ediv_nonneg h1 (by omega),Int.le_trans (Int.ediv_le_self _ h1) h2⟩
def Zf(k m:Nat)(P:bI):Prop:=∀ l,k<=l->l<m->P l=0
structure St (n m:Nat) (sizes:List Int) (A:Nat->bI) (k:Nat) (rows:List Row):Prop where
 wf:Wf n m rows
 hs:sizes.length=n
 sm:∀ i,i<n->vf sizes i<=360
 gd:Good n (vf sizes) (DD rows)
 led:∀ d,d<n->Led n (vf sizes) m A (DD rows d) (PP rows d)
 zf:∀ d,d<n->Zf k m (PP rows d)
 bd:∀ d,d<n->Bd (150*k+1) (row rows d).2
 cl:∀ l,l<k->G n (vf sizes) (DD rows) n 0 (A l)
structure Lv (n m:Nat) (sizes:List Int) (A:Nat->bI) (k:Nat) (left:Row):Prop where
 l1:left.1.length=n
 l2:left.2.length=m
 km:k<m
 at_:∀ i,i<n->vf left.1 i=A k i
 hU:∀ i,i<n->0<=A k i/\A k i<vf sizes i
 un:∀ l,l<m->vf left.2 l=if l=k then 1 else 0
theorem jI(h:St n m sizes A k rows)(L:Lv n m sizes A k left):∀ d,d<=n->∀ i,i<n->0<=vf (aB c sizes rows left d).1 i/\vf (aB c sizes rows left d).1 i<vf sizes i
 | 0,_,i,hi=>by show 0<=vf left.1 i/\vf left.1 i<vf sizes i;rw[L.at_ i hi];exact L.hU i hi
 | d+1,hd,i,hi=>by
  obtain⟨i1,i2⟩:=cN (c:=c) h.wf h.hs L.l1 L.l2 d (by omega)
  have e1:=h.wf.lT (d:=d) (by omega)
  have hs:=h.hs
  simp only[aB,oO]
  rw[jh (by rw[bL];omega) (by omega)]
  have:=h.gd.sp i hi
  exact⟨Int.emod_nonneg _ (by omega),Int.emod_lt_of_pos _ this⟩
theorem St.tk(h:St n m sizes A k rows)(L:Lv n m sizes A k left)(cb:CB c):Tk n (vf sizes) (DD rows) (DD (cA c sizes rows left n)) (λd=>vf (aB c sizes rows left d).1) (λd=>(c (aH (vf sizes) (DD rows) d) (vf (aB c sizes rows left d).1 d)).1) (λd=>(c (aH (vf sizes) (DD rows) d) (vf (aB c sizes rows left d).1 d)).2) (λd=>(Int.gcd (aH (vf sizes) (DD rows) d) (vf (aB c sizes rows left d).1 d):Nat)) :=
 Hq h.wf h.hs L.l1 L.l2 h.gd (λi hi=>by rw[L.at_ i hi];exact L.hU i hi) λd hd=>by
  have p:=h.gd.pos hd
  have q:=jI (c:=c) h L d (by omega) d hd
  have s:=h.sm d hd
  exact(cb _ _ p.1 (by omega) q.1 (by omega)).1
theorem m9(h:St n m sizes A k rows)(L:Lv n m sizes A k left):∀ d,d<=n->Led n (vf sizes) m A (vf (aB c sizes rows left d).1) (vf (aB c sizes rows left d).2)
 | 0,_=>λi hi=>by
  show vf sizes i∣vf left.1 i-bg m λl=>vf left.2 l*A l i
  rw[L.at_ i hi,du k (A k i) m L.km (λl=>vf left.2 l*A l i) λl hl=>by
   rw[L.un l hl]
   by_cases z:l=k
   ·subst z;rw[if_pos rfl,if_pos rfl,Int.one_mul]
   ·rw[if_neg z,if_neg z,Int.zero_mul]]
  rw[Int.sub_self];exact Int.dvd_zero _
 | d+1,hd=>by
  obtain⟨i1,i2⟩:=cN (c:=c) h.wf h.hs L.l1 L.l2 d (by omega)
  have e1:=h.wf.lT (d:=d) (by omega);have e2:=h.wf.at2 (d:=d) (by omega)
  have hs:=h.hs
  refine Led.mix (a:=aH (vf sizes) (DD rows) d/(Int.gcd (aH (vf sizes) (DD rows) d) (vf (aB c sizes rows left d).1 d):Nat)) (b:=-(vf (aB c sizes rows left d).1 d/(Int.gcd (aH (vf sizes) (DD rows) d) (vf (aB c sizes rows left d).1 d):Nat))) (m9 h L d (by omega)) (h.led d (by omega)) (λi hi=>?_) λl hl=>?_
  ·simp only[aB,oO]
   rw[jh (by rw[bL];omega) (by omega),eQ (by omega) (by omega)]
   exact cY _ _
  ·simp only[aB,oO]
   rw[eQ (by omega) (by omega)];rfl
theorem qP(h:St n m sizes A k rows)(L:Lv n m sizes A k left):∀ d,d<=n->Zf (k+1) m (vf (aB c sizes rows left d).2)/\vf (aB c sizes rows left d).2 k=aA d λe=>aH (vf sizes) (DD rows) e/(Int.gcd (aH (vf sizes) (DD rows) e) (vf (aB c sizes rows left e).1 e):Nat)
 | 0,_=>⟨λl h1 h2=>by show vf left.2 l=0;rw[L.un l h2,if_neg (by omega)],by show vf left.2 k=1;rw[L.un k L.km,if_pos rfl]⟩
 | d+1,hd=>by
  obtain⟨i1,i2⟩:=cN (c:=c) h.wf h.hs L.l1 L.l2 d (by omega)
  have e2:=h.wf.at2 (d:=d) (by omega)
  obtain⟨j1,j2⟩:=qP h L d (by omega)
  have z:=h.zf d (by omega)
  have km:=L.km
  constructor
  ·intro l h1 h2
   simp only[aB,oO]
   rw[eQ (by omega) (by omega),j1 l h1 h2,show vf (row rows d).2 l=0 from z l (by omega) h2];simp
  ·rw[aA,← j2]
   simp only[aB,oO]
   rw[eQ (by omega) (by omega),show vf (row rows d).2 k=0 from z k (Nat.le_refl _) km]
   grind
theorem mO(h:St n m sizes A k rows)(L:Lv n m sizes A k left)(hn:n<=6):∀ d,d<=n->Bd (150*k+1+11*d) (aB c sizes rows left d).2
 | 0,_=>λx hx=>by
  have hx:x∈left.2:=hx
  obtain⟨i,hi,rfl⟩:=List.mem_iff_getElem.mp hx
  have hm:i<m:=by rw[← L.l2];exact hi
  have e:=L.un i hm
  rw[bc hi] at e
  show (left.2[i]).natAbs<_
  rw[e]
  have:2^1<=2^(150*k+1+11*0):=Nat.pow_le_pow_right (by decide) (by omega)
  refine Nat.lt_of_lt_of_le ?_ this
  split
  ·decide
  ·decide
 | d+1,hd=>by
  have p:=h.gd.pos (show d<n by omega)
  have s:=h.sm d (by omega)
  have q:=jI (c:=c) h L d (by omega) d (by omega)
  have a1:=jj (b:=vf (aB c sizes rows left d).1 d) p.1 (by omega)
  have a2:=kJ (b:=vf (aB c sizes rows left d).1 d) p.1 q.1 (by omega)
  have:=Bd.mix (A:=9+1) (mO h L hn d (by omega)) ((h.bd d (by omega)).mono (show 150*k+1<=150*k+1+11*d by omega)) (a:=aH (vf sizes) (DD rows) d/(Int.gcd (aH (vf sizes) (DD rows) d) (vf (aB c sizes rows left d).1 d):Nat)) (b:=-(vf (aB c sizes rows left d).1 d/(Int.gcd (aH (vf sizes) (DD rows) d) (vf (aB c sizes rows left d).1 d):Nat))) (by omega) (by omega)
  exact this.mono (by omega)
theorem St.next(h:St n m sizes A k rows)(L:Lv n m sizes A k left)(cb:CB c)(hn:n<=6):St n m sizes A (k+1) (cA c sizes rows left n):=by
 have T:=h.tk L cb
 have hs:=h.hs
 refine⟨A0 h.wf h.hs L.l1 L.l2,h.hs,h.sm,T.good h.gd,λd hd=>?_,λd hd=>?_,λd hd=>?_,λl hl=>?_⟩
 ·obtain⟨i1,i2⟩:=cN (c:=c) h.wf h.hs L.l1 L.l2 d (by omega)
  have e1:=h.wf.lT (d:=d) hd;have e2:=h.wf.at2 (d:=d) hd
  unfold DD PP
  rw[jH hd]
  refine Led.mix (a:=(c (aH (vf sizes) (DD rows) d) (vf (aB c sizes rows left d).1 d)).1) (b:=(c (aH (vf sizes) (DD rows) d) (vf (aB c sizes rows left d).1 d)).2) (h.led d hd) (m9 (c:=c) h L d (by omega)) (λi hi=>?_) λl hl=>?_
  ·simp only[dM,oO]
   rw[jh (by rw[bL];omega) (by omega),eQ (by omega) (by omega)]
   exact cY _ _
  ·simp only[dM,oO]
   rw[eQ (by omega) (by omega)];rfl
 ·obtain⟨i1,i2⟩:=cN (c:=c) h.wf h.hs L.l1 L.l2 d (by omega)
  have e2:=h.wf.at2 (d:=d) hd
  intro l h1 h2
  unfold PP
  rw[jH hd]
  simp only[dM,oO]
  rw[eQ (by omega) (by omega),(qP (c:=c) h L d (by omega)).1 l h1 h2,show vf (row rows d).2 l=0 from h.zf d hd l (by omega) h2];simp
 ·rw[jH hd]
  have p:=h.gd.pos hd
  have s:=h.sm d hd
  have q:=jI (c:=c) h L d (by omega) d hd
  have b:=cb (aH (vf sizes) (DD rows) d) (vf (aB c sizes rows left d).1 d) p.1 (by omega) q.1 (by omega)
  have:=Bd.mix (A:=20) ((h.bd d hd).mono (show 150*k+1<=150*k+1+11*d by omega)) (mO (c:=c) h L hn d (by omega)) b.2.1 b.2.2
  exact this.mono (by omega)
 ·rcases Nat.lt_or_ge l k with q | q
  ·exact(T.main h.gd n 0 (by omega)).1 _ (h.cl l q)
  ·obtain rfl:l=k:=by omega
   exact G.ext (by omega) (λi hi=>L.at_ i hi) (T.main h.gd n 0 (by omega)).2
def aS(idle:List (List Int))(k:Nat)(P:List Int):Nat->List Int
 | 0=>P
 | c+1 =>
  let z:=aS idle k P c
  let r:=idle.getD (k-1-c) []
  mq z 1 r (-(vf z (k-1-c)/vf r (k-1-c)))
def II(idle:List (List Int)):Nat->bI:=λj=>vf (idle.getD j [])
structure w4 (n m:Nat) (s:bI) (A:Nat->bI) (k:Nat) (idle:List (List Int)):Prop where
 len:idle.length=k
 l2:∀ j,j<k->(idle.getD j []).length=m
 pos:∀ j,j<k->0<II idle j j
 le:∀ j,j<k->II idle j j<2^60
 zero:∀ j,j<k->∀ l,j<l->l<m->II idle j l=0
 nf:∀ j,j<k->∀ l,l<j->0<=II idle j l/\II idle j l<II idle l l
 mK:∀ j,j<k->Led n s m A (λ_=>0) (II idle j)
variable{idle:List (List Int)}
variable{j:Nat}
section
variable{P:List Int}
theorem w4.bd(h:w4 n m s A k idle)(hj:j<k)(hm:k<=m):Bd 60 (idle.getD j []):=λx hx=>by
 obtain⟨l,hl,rfl⟩:=List.mem_iff_getElem.mp hx
 rw[h.l2 j hj] at hl
 have e:II idle j l=(idle.getD j [])[l]'(by rw[h.l2 j hj];exact hl):=bc _
 rw[← e]
 rcases Nat.lt_or_ge l j with q | q
 ·have h1:=h.nf j hj l q
  have h2:=h.le l (by omega)
  omega
 ·rcases Nat.lt_or_ge j l with q2 | q2
  ·rw[h.zero j hj l q2 hl];exact Nat.two_pow_pos _
  ·obtain rfl:l=j:=by omega
   have h1:=h.pos l hj;have h2:=h.le l hj
   omega
theorem span_len(h:w4 n m s A k idle)(hP:P.length=m):∀ c,c<=k->(aS idle k P c).length=m
 | 0,_=>hP
 | c+1,hc=>by
  simp only[aS]
  rw[bL,span_len h hP c (by omega),h.l2 _ (by omega)];omega
theorem mI(h:w4 n m s A k idle)(hP:P.length=m){c l:Nat}(hc:c<k)(hl:l<m):vf (aS idle k P (c+1)) l=vf (aS idle k P c) l-vf (aS idle k P c) (k-1-c)/II idle (k-1-c) (k-1-c)*II idle (k-1-c) l:=by
 simp only[aS]
 rw[eQ (by rw[span_len h hP c (by omega)];exact hl) (by rw[h.l2 _ (by omega)];exact hl)]
 unfold II
 grind
theorem rV(h:w4 n m s A k idle)(hP:P.length=m):∀ c,c<=k->∀ l,k<=l->l<m->vf (aS idle k P c) l=vf P l
 | 0,_,_,_,_=>rfl
 | c+1,hc,l,h1,h2=>by
  rw[mI h hP (by omega) h2,h.zero _ (by omega) l (by omega) h2,rV h hP c (by omega) l h1 h2];simp
theorem rj(h:w4 n m s A k idle)(hP:P.length=m)(hm:k<=m):∀ c,c<=k->∀ l,k-c<=l->l<k->0<=vf (aS idle k P c) l/\vf (aS idle k P c) l<II idle l l
 | 0,_,l,h1,h2=>by omega
 | c+1,hc,l,h1,h2=>by
  rw[mI h hP (by omega) (by omega)]
  rcases Nat.lt_or_ge (k-1-c) l with q | q
  ·rw[h.zero _ (by omega) l q (by omega),Int.mul_zero,Int.sub_zero]
   exact rj h hP hm c (by omega) l (by omega) h2
  ·obtain rfl:l=k-1-c:=by omega
   have p:=h.pos (k-1-c) (by omega)
   have e:=Int.emod_def (vf (aS idle k P c) (k-1-c)) (II idle (k-1-c) (k-1-c))
   rw[Int.mul_comm (vf (aS idle k P c) (k-1-c)/_),← e]
   exact⟨Int.emod_nonneg _ (by omega),Int.emod_lt_of_pos _ p⟩
theorem om(h:w4 n m s A k idle)(hP:P.length=m){v:bI}(hv:Led n s m A v (vf P)):∀ c,c<=k->Led n s m A v (vf (aS idle k P c))
 | 0,_=>hv
 | c+1,hc=>by
  refine Led.mix (a:=1) (b:=-(vf (aS idle k P c) (k-1-c)/II idle (k-1-c) (k-1-c))) (om h hP hv c (by omega)) (h.mK (k-1-c) (by omega)) (λi hi=>?_) λl hl=>?_
  ·rw[Int.mul_zero,Int.add_zero,Int.one_mul,Int.sub_self];exact Int.dvd_zero _
  ·rw[mI h hP (by omega) hl];grind
theorem wt(h:w4 n m s A k idle)(hP:P.length=m)(hm:k<=m){B:Nat}(hB:60<=B)(hb:Bd B P):∀ c,c<=k->Bd (B+62*c) (aS idle k P c)
 | 0,_=>hb
 | c+1,hc=>by
  have ih:=wt h hP hm hB hb c (by omega)
  intro x hx
  obtain⟨l,hl,rfl⟩:=List.mem_iff_getElem.mp hx
  rw[span_len h hP (c+1) hc] at hl
  rw[← bc,mI h hP (by omega) hl]
  have p:=h.pos (k-1-c) (by omega)
  have q1:(vf (aS idle k P c) (k-1-c)/II idle (k-1-c) (k-1-c)).natAbs<2^(B+62*c+1):=by
   have h1:=ih.vf (k-1-c)
   have h2:=Int.natAbs_ediv_le_natAbs (vf (aS idle k P c) (k-1-c)) (II idle (k-1-c) (k-1-c))
   rw[Nat.pow_succ];omega
  have q2:(II idle (k-1-c) l).natAbs<2^60:=(h.bd (j:=k-1-c) (by omega) hm).vf l
  have q3:=uN q1 q2
  have q4:=ih.vf l
  have q5:2^(B+62*c)<=2^(B+62*c+1+60):=Nat.pow_le_pow_right (by decide) (by omega)
  have q6:(2:Nat)^(B+62*(c+1))=2^(B+62*c+1+60)*2:=by rw[← Nat.pow_succ];congr 1
  rw[q6];omega
end
theorem Tk.order{s:bI}{D D' L:Nat->bI}{u v g:Nat->Int}(t:Tk n s D D' L u v g)(Gd:Good n s D):∀ (k d:Nat) (x:Int),d+k=n->G n s D k d (λi=>x*L d i)->aA n (λe=>aH s D e/g e)∣x*aA d (λe=>aH s D e/g e)
 | 0,d,x,hn,h=>by
  obtain rfl:d=n:=by omega
  exact Int.dvd_mul_left _ _
 | k+1,d,x,hn,h=>by
  have hd:d<n:=by omega
  obtain⟨a,ha⟩:=t.g1 d hd
  obtain⟨b,hb⟩:=t.g2 d hd
  have gp:=t.gp d hd
  have sp:=(Gd.pos hd).1
  have e1:aH s D d/g d=a:=by rw[ha];exact Int.mul_ediv_cancel_left a (by omega)
  have e2:L d d/g d=b:=by rw[hb];exact Int.mul_ediv_cancel_left b (by omega)
  have bz:u d*a+v d*b=1:=by
   have:=t.bz d hd
   rw[ha,hb,show u d*(g d*a)+v d*(g d*b)=g d*(u d*a+v d*b) by grind] at this
   have h2:g d*(u d*a+v d*b)=g d*1:=by omega
   exact Int.eq_of_mul_eq_mul_left (by omega) h2
  obtain⟨q,hq⟩:=h.1
  have hax:a∣x:=by
   have h3:g d*(x*b)=g d*(a*q):=by
    have:x*L d d=aH s D d*q:=hq
    rw[hb,ha] at this;grind
   have h4:x*b=a*q:=Int.eq_of_mul_eq_mul_left (by omega) h3
   exact⟨u d*x+v d*q,by
    have:x=x*(u d*a+v d*b):=by rw[bz,Int.mul_one]
    rw[this]
    have:x*(u d*a+v d*b)=a*(u d*x)+v d*(x*b):=by grind
    rw[this,h4];grind⟩
  obtain⟨y,hy⟩:=hax
  have Ld:q=b*y:=by
   have h3:g d*(a*q)=g d*(a*(b*y)):=by
    have:x*L d d=aH s D d*q:=hq
    rw[hb,ha,hy] at this;grind
   have ap:a≠0:=by intro z;rw[z,Int.mul_zero] at ha;omega
   exact Int.eq_of_mul_eq_mul_left ap (Int.eq_of_mul_eq_mul_left (by omega) h3)
  have h2:=h.2
  have q1:x*L d d/aH s D d=q:=by
   show x*L d d/aH s D d=q
   rw[show x*L d d=aH s D d*q from hq];exact Int.mul_ediv_cancel_left q (by omega)
  have:=t.order Gd k (d+1) y (by omega) (Gd.j3 (by omega) (λi hi=>?_) h2)
  ·rw[aA,e1] at this
   rw[hy,show a*y*aA d (λe=>aH s D e/g e)=y*(aA d (λe=>aH s D e/g e)*a) by grind]
   exact this
  ·show s i∣y*L (d+1) i-(x*L d i-x*L d d/aH s D d*D d i)
   rw[q1,t.HF d hd i hi,e1,e2]
   obtain⟨z,hz⟩:=cY (a*L d i+-b*D d i) (s i)
   refine⟨y*z,?_⟩
   have:(a*L d i+-b*D d i)%s i=a*L d i+-b*D d i+s i*z:=by omega
   rw[this,hy,Ld];grind
theorem G.sum(Gd:Good n (vf sizes) (DD rows)){P:bI}:∀ k',(∀ l,l<k'->G n (vf sizes) (DD rows) n 0 (A l))->G n (vf sizes) (DD rows) n 0 (λi=>bg k' λl=>P l*A l i)
 | 0,_=>G.zero (by omega)
 | k'+1,h=>G.ext (by omega) (λi _=>rfl) (G.add (by omega) (G.sum Gd k' λl hl=>h l (by omega)) (G.mul (P k') (by omega) (h k' (by omega))))
def lO(m k:Nat):List Int:=(List.range m).map λl=>if l=k then 1 else 0
theorem tD{l:Nat}(h:l<m):vf (lO m k) l=if l=k then 1 else 0:=by
 rw[bc (by simp[lO,h])];simp[lO]
def AA(Ls:List (List Int)):Nat->bI:=λl=>vf (Ls.getD l [])
def bJ(Ls:List (List Int))(m k:Nat):Row:=(Ls.getD k [],lO m k)
def RK(c:Int->Int->Int×Int)(sizes:List Int)(Ls:List (List Int))(n m:Nat):Nat->List Row×List (List Int)
 | 0=>(List.replicate n (List.replicate n 0,List.replicate m 0),[])
 | k+1 =>
  (cA c sizes (RK c sizes Ls n m k).1 (bJ Ls m k) n,(RK c sizes Ls n m k).2++[aS (RK c sizes Ls n m k).2 k (aB c sizes (RK c sizes Ls n m k).1 (bJ Ls m k) n).2 k])
structure GF (n m:Nat) (sizes:List Int) (Ls:List (List Int)):Prop where
 len:Ls.length=m
 at_:∀ l,l<m->(Ls.getD l []).length=n
 hU:∀ l,l<m->∀ i,i<n->0<=AA Ls l i/\AA Ls l i<vf sizes i
structure yn (n m:Nat) (sizes:List Int) (Ls:List (List Int)) (k:Nat) (r:List Row×List (List Int)):Prop where
 st:St n m sizes (AA Ls) k r.1
 mK:w4 n m (vf sizes) (AA Ls) k r.2
 pr:aA k (λj=>II r.2 j j)*aA n (aH (vf sizes) (DD r.1))=aA n (vf sizes)
 ord:∀ j,j<k->∀ P:bI,Zf (j+1) m P->Led n (vf sizes) m (AA Ls) (λ_=>0) P->II r.2 j j∣P j
variable{x:List Int}
section
variable{Ls:List (List Int)}
theorem hG(h:j<idle.length):II (idle++[x]) j=II idle j:=by
 unfold II
 rw[List.getD_eq_getElem?_getD,List.getElem?_append_left h,← List.getD_eq_getElem?_getD]
theorem jb:II (idle++[x]) idle.length=vf x:=by
 unfold II
 rw[List.getD_eq_getElem?_getD,List.getElem?_append_right (Nat.le_refl _)];simp
theorem AE(h:j<idle.length):(idle++[x]).getD j []=idle.getD j []:=by
 rw[List.getD_eq_getElem?_getD,List.getElem?_append_left h,← List.getD_eq_getElem?_getD]
theorem A7:(idle++[x]).getD idle.length []=x:=by
 rw[List.getD_eq_getElem?_getD,List.getElem?_append_right (Nat.le_refl _)];simp
theorem oK{f:Nat->Int}{k:Nat}:∀ {m:Nat},k<m->(∀ l,k<l->l<m->f l=0)->bg m f=bg k f+f k
 | 0,h,_=>by omega
 | m+1,h,e=>by
  rw[bg]
  by_cases z:k=m
  ·subst z;rfl
  ·rw[oK (m:=m) (by omega) λl h1 h2=>e l h1 (by omega),e m (by omega) (by omega)];omega
theorem rQ:∀ {n:Nat} {f:Nat->Int},(∀ i,i<n->0<f i/\f i<=360)->aA n f<=360^n
 | 0,f,_=>by simp[aA]
 | n+1,f,h=>by
  rw[aA,Int.pow_succ]
  exact Int.mul_le_mul (rQ λi hi=>h i (by omega)) (h n (by omega)).2 (by have:=(h n (by omega)).1;omega) (Int.pow_nonneg (by decide))
theorem JL(h:n<=6):(360:Int)^n<=360^6:=by
 have:n=0\/n=1\/n=2\/n=3\/n=4\/n=5\/n=6:=by omega
 rcases this with rfl | rfl | rfl | rfl | rfl | rfl | rfl <;> decide
theorem yn.next{r:List Row×List (List Int)}(h:yn n m sizes Ls k r)(LL:GF n m sizes Ls)(cb:CB c)(hn:n<=6)(hk:k<m) :
  yn n m sizes Ls (k+1) (cA c sizes r.1 (bJ Ls m k) n,r.2++[aS r.2 k (aB c sizes r.1 (bJ Ls m k) n).2 k]):=by
 have L:Lv n m sizes (AA Ls) k (bJ Ls m k):=⟨LL.at_ k hk,by simp[bJ,lO],hk,λi hi=>rfl,LL.hU k hk,λl hl=>tD hl⟩
 have T:=h.st.tk L cb
 have ll:=cN (c:=c) h.st.wf h.st.hs L.l1 L.l2 n (Nat.le_refl _)
 have zf:=qP (c:=c) h.st L n (Nat.le_refl _)
 have led:=m9 (c:=c) h.st L n (Nat.le_refl _)
 have l0:=T.zero h.st.gd n (Nat.le_refl _)
 have il:r.2.length=k:=h.mK.len
 have out:=rV h.mK ll.2 k (Nat.le_refl _)
 have jk:vf (aS r.2 k (aB c sizes r.1 (bJ Ls m k) n).2 k) k=aA n λe=>aH (vf sizes) (DD r.1) e/(Int.gcd (aH (vf sizes) (DD r.1) e) (vf (aB c sizes r.1 (bJ Ls m k) e).1 e):Nat):=by
  rw[out k (Nat.le_refl _) hk];exact zf.2
 have pos:∀ e,e<n->0<aH (vf sizes) (DD r.1) e/(Int.gcd (aH (vf sizes) (DD r.1) e) (vf (aB c sizes r.1 (bJ Ls m k) e).1 e):Nat):=λe he=>by
  have p:=h.st.gd.pos he
  have s:=h.st.sm e he
  exact(jj p.1 (by omega)).1
 have pr:aA (k+1) (λj=>II (r.2++[aS r.2 k (aB c sizes r.1 (bJ Ls m k) n).2 k]) j j)*aA n (aH (vf sizes) (DD (cA c sizes r.1 (bJ Ls m k) n)))=aA n (vf sizes):=by
  rw[aA,show II (r.2++[aS r.2 k (aB c sizes r.1 (bJ Ls m k) n).2 k]) k=vf (aS r.2 k (aB c sizes r.1 (bJ Ls m k) n).2 k) by rw[← il];exact jb]
  rw[bX (g:=λj=>II r.2 j j) λj hj=>by rw[hG (by omega)],← h.pr,jk]
  rw[bX (g:=λd=>((Int.gcd (aH (vf sizes) (DD r.1) d) (vf (aB c sizes r.1 (bJ Ls m k) d).1 d):Nat):Int)) λd hd=>T.step h.st.gd hd]
  rw[pF (f:=aH (vf sizes) (DD r.1)) (g:=λd=>((Int.gcd (aH (vf sizes) (DD r.1) d) (vf (aB c sizes r.1 (bJ Ls m k) d).1 d):Nat):Int)) (h:=λe=>aH (vf sizes) (DD r.1) e/(Int.gcd (aH (vf sizes) (DD r.1) e) (vf (aB c sizes r.1 (bJ Ls m k) e).1 e):Nat)) λd hd=>(Int.mul_ediv_cancel' (Int.gcd_dvd_left ..)).symm]
  grind
 have jpos:0<vf (aS r.2 k (aB c sizes r.1 (bJ Ls m k) n).2 k) k:=by rw[jk];exact dm pos
 have St':=h.st.next L cb hn
 have jle:vf (aS r.2 k (aB c sizes r.1 (bJ Ls m k) n).2 k) k<2^60:=by
  have b:aA n (vf sizes)<=360^n:=rQ λi hi=>⟨h.st.gd.sp i hi,h.st.sm i hi⟩
  have b2:(360:Int)^n<=360^6:=JL hn
  have b3:(360:Int)^6<2^60:=by decide
  rw[aA,show II (r.2++[aS r.2 k (aB c sizes r.1 (bJ Ls m k) n).2 k]) k=vf (aS r.2 k (aB c sizes r.1 (bJ Ls m k) n).2 k) by rw[← il];exact jb] at pr
  have p1:0<aA k (λj=>II (r.2++[aS r.2 k (aB c sizes r.1 (bJ Ls m k) n).2 k]) j j):=dm λj hj=>by rw[hG (by omega)];exact h.mK.pos j hj
  have p2:0<aA n (aH (vf sizes) (DD (cA c sizes r.1 (bJ Ls m k) n))):=dm λd hd=>(St'.gd.pos hd).1
  generalize aA k (λj=>II (r.2++[aS r.2 k (aB c sizes r.1 (bJ Ls m k) n).2 k]) j j)=a at *
  generalize aA n (aH (vf sizes) (DD (cA c sizes r.1 (bJ Ls m k) n)))=b' at *
  generalize vf (aS r.2 k (aB c sizes r.1 (bJ Ls m k) n).2 k) k=x at *
  have e1:1*x<=a*x:=Int.mul_le_mul_of_nonneg_right (by omega) (by omega)
  have e2:a*x*1<=a*x*b':=Int.mul_le_mul_of_nonneg_left (by omega) (by omega)
  omega
 refine⟨St',⟨by simp[il],λj hj=>?_,λj hj=>?_,λj hj=>?_,λj hj l h1 h2=>?_,λj hj l hl=>?_,λj hj=>?_⟩,pr,λj hj P hz hP=>?_⟩
 all_goals
  rcases Nat.lt_or_ge j k with q | q
 ·rw[AE (by omega)];exact h.mK.l2 j q
 ·obtain rfl:j=r.2.length:=by omega
  rw[A7];exact span_len h.mK ll.2 k (Nat.le_refl _)
 ·rw[hG (by omega)];exact h.mK.pos j q
 ·obtain rfl:j=r.2.length:=by omega
  rw[jb,il];exact jpos
 ·rw[hG (by omega)];exact h.mK.le j q
 ·obtain rfl:j=r.2.length:=by omega
  rw[jb,il];exact jle
 ·rw[hG (by omega)];exact h.mK.zero j q l h1 h2
 ·obtain rfl:j=r.2.length:=by omega
  rw[jb,out l (by omega) h2];exact zf.1 l (by omega) h2
 ·rw[hG (by omega),hG (by omega)];exact h.mK.nf j q l hl
 ·obtain rfl:j=r.2.length:=by omega
  rw[jb,hG (by omega)];exact rj h.mK ll.2 (by omega) k (Nat.le_refl _) l (by omega) (by omega)
 ·rw[hG (by omega)];exact h.mK.mK j q
 ·obtain rfl:j=r.2.length:=by omega
  rw[jb]
  refine om h.mK ll.2 (λi hi=>?_) k (Nat.le_refl _)
  have:=led i hi
  rw[show vf (aB c sizes r.1 (bJ Ls m k) n).1 i=0 from l0 i hi] at this
  exact this
 ·rw[hG (by omega)];exact h.ord j q P hz hP
 ·obtain rfl:j=k:=by omega
  rw[show II (r.2++[aS r.2 j (aB c sizes r.1 (bJ Ls m j) n).2 j]) j=vf (aS r.2 j (aB c sizes r.1 (bJ Ls m j) n).2 j) by rw[← il];exact jb,jk]
  have:=T.order h.st.gd n 0 (P j) (by omega) ?_
  ·rwa [aA,Int.mul_one] at this
  ·refine h.st.gd.j3 (by omega) (λi hi=>?_) (G.mul (-1) (by omega) (G.sum (A:=AA Ls) (P:=P) h.st.gd j h.st.cl))
   have e:=hP i hi
   rw[oK hk λl h1 h2=>by rw[hz l (by omega) h2,Int.zero_mul]] at e
   obtain⟨x,hx⟩:=e
   have hx:(0:Int)-(bg j (λl=>P l*AA Ls l i)+P j*AA Ls j i)=vf sizes i*x:=hx
   show vf sizes i∣P j*AA Ls j i - -1*bg j λl=>P l*AA Ls l i
   exact⟨-x,by rw[Int.mul_neg];omega⟩
theorem yn.start(hs:sizes.length=n)(hp:∀ i,i<n->0<vf sizes i/\vf sizes i<=360):yn n m sizes Ls 0 (List.replicate n (List.replicate n 0,List.replicate m 0),[]):=by
 have rw0:∀ d,d<n->row (List.replicate n (List.replicate n 0,List.replicate m 0)) d=(List.replicate n 0,List.replicate m 0):=λd hd=>by
  rw[eM (by simpa using hd)];simp
 have D0:∀ d,d<n->∀ i,DD (List.replicate n (List.replicate n 0,List.replicate m 0)) d i=0:=λd hd i=>by
  unfold DD;rw[rw0 d hd];exact eV n i
 have P0:∀ d,d<n->∀ i,PP (List.replicate n (List.replicate n 0,List.replicate m 0)) d i=0:=λd hd i=>by
  unfold PP;rw[rw0 d hd];exact eV m i
 have st:∀ d,d<n->aH (vf sizes) (DD (List.replicate n (List.replicate n 0,List.replicate m 0))) d=vf sizes d:=λd hd=>by
  unfold aH;rw[if_pos (D0 d hd d)]
 refine⟨⟨⟨by simp,λr hr=>by rw[List.eq_of_mem_replicate hr];simp,λr hr=>by rw[List.eq_of_mem_replicate hr];simp⟩,hs,λi hi=>(hp i hi).2,⟨λi hi=>(hp i hi).1,λd hd i hi=>?_,λd hd i hi=>D0 d hd i,λd hd=>by rw[st d hd];exact Int.dvd_refl _,λd k hn=>?_⟩,λd hd i hi=>?_,λd hd l _ _=>P0 d hd l,λd hd=>?_,λl hl=>by omega⟩,⟨rfl,λj hj=>by omega,λj hj=>by omega,λj hj=>by omega,λj hj=>by omega,λj hj=>by omega,λj hj=>by omega⟩,?_,λj hj=>by omega⟩
 ·rw[D0 d hd i];have:=(hp i hi).1;omega
 ·exact G.ext (by omega) (λi hi=>by rw[D0 d (by omega) i,Int.mul_zero]) (G.zero (by omega))
 ·rw[D0 d hd i,bp (g:=λ_=>0) λl hl=>by rw[P0 d hd l,Int.zero_mul],dr];exact Int.dvd_zero _
 ·rw[rw0 d hd]
  intro x hx
  rw[List.eq_of_mem_replicate hx];exact Nat.two_pow_pos _
 ·rw[aA,Int.one_mul];exact bX λd hd=>st d hd
theorem yn.all(hs:sizes.length=n)(hp:∀ i,i<n->0<vf sizes i/\vf sizes i<=360)(LL:GF n m sizes Ls)(cb:CB c)(hn:n<=6):∀ k,k<=m->yn n m sizes Ls k (RK c sizes Ls n m k)
 | 0,_=>yn.start hs hp
 | k+1,hk=>(yn.all hs hp LL cb hn k (by omega)).next LL cb hn (by omega)
end
theorem pG(h:b∣a)(h1:-b<a)(h2:a<b):a=0:=by
 obtain⟨c,rfl⟩:=h
 rcases Int.lt_trichotomy c 0 with q | q | q
 ·have:b*c<=b*(-1):=Int.mul_le_mul_of_nonneg_left (by omega) (by omega)
  omega
 ·rw[q,Int.mul_zero]
 ·have:b*1<=b*c:=Int.mul_le_mul_of_nonneg_left (by omega) (by omega)
  omega
theorem G.diff(Gd:Good n s D):∀ k d (v:bI),d+k=n->(∀ i,i<n->-(s i)<v i/\v i<s i)->(∀ i,d<=i->i<n->-(aH s D i)<v i/\v i<aH s D i)->G n s D k d v->∀ i,i<n->v i=0
 | 0,d,v,hn,h0,_,g,i,hi=>pG (g i hi) (h0 i hi).1 (h0 i hi).2
 | k+1,d,v,hn,h0,h1,g,i,hi=>by
  have z:=pG g.1 (h1 d (Nat.le_refl _) (by omega)).1 (h1 d (Nat.le_refl _) (by omega)).2
  refine G.diff Gd k (d+1) v (by omega) h0 (λi hi=>h1 i (by omega)) (G.ext (by omega) (λi _=>?_) g.2) i hi
  show v i-v d/aH s D d*D d i=v i
  rw[z];simp
def eB(n:Nat)(s:bI)(Q:Int)(w v:bI):Int:=bg n λi=>w i*v i*(Q/s i)
variable{u:bI}{Q:Int}
variable{Kz:Nat}
section
variable{D:Nat->bI}{w:bI}
theorem kN(a b:Int){x:bI}(h:∀ i,i<n->x i=a*v i+b*u i):eB n s Q w x=a*eB n s Q w v+b*eB n s Q w u :=
 fy a b _ _ _ n λi hi=>by rw[h i hi];grind
theorem sE{f:Nat->Int}{q:Int}:∀ {m:Nat},(∀ l,l<m->q∣f l)->q∣bg m f
 | 0,_=>Int.dvd_zero _
 | m+1,h=>Int.dvd_add (sE λl hl=>h l (by omega)) (h m (by omega))
theorem wo(hq:∀ i,i<n->s i∣Q)(h:∀ i,i<n->s i∣v i):Q∣eB n s Q w v:=sE λi hi=>by
 obtain⟨c,hc⟩:=h i hi
 obtain⟨e,he⟩:=hq i hi
 by_cases z:s i=0
 ·rw[hc,z];simp
 ·rw[hc,he,Int.mul_ediv_cancel_left _ z]
  exact⟨w i*c,by grind⟩
theorem ue(hq:∀ i,i<n->s i∣Q)(h:∀ i,i<n->s i∣v i-u i):Q∣eB n s Q w v-eB n s Q w u:=by
 have:=kN (s:=s) (Q:=Q) (w:=w) (n:=n) 1 (-1) (v:=v) (u:=u) (x:=λi=>v i-u i) λi _=>by omega
 have h2:=wo (w:=w) hq h
 rw[this] at h2
 rw[show eB n s Q w v-eB n s Q w u=1*eB n s Q w v+-1*eB n s Q w u by omega]
 exact h2
theorem tP(hq:∀ i,i<n->s i∣Q):∀ (k d:Nat) (v:bI),d+k=n->(∀ b,d<=b->b<n->Q∣eB n s Q w (D b))->G n s D k d v->Q∣eB n s Q w v
 | 0,d,v,_,_,g=>wo hq g
 | k+1,d,v,hn,hD,g=>by
  have h1:=tP hq k (d+1) _ (by omega) (λb h1 h2=>hD b (by omega) h2) g.2
  have h2:=hD d (Nat.le_refl _) (by omega)
  have e:=kN (s:=s) (Q:=Q) (w:=w) (n:=n) 1 (v d/aH s D d) (v:=λi=>v i-v d/aH s D d*D d i) (u:=D d) (x:=v) λi _=>by omega
  rw[e]
  exact Int.dvd_add (Int.dvd_trans h1 (Int.dvd_mul_left _ _)) (Int.dvd_trans h2 (Int.dvd_mul_left _ _))
theorem Cc{c:Nat}(hc:c<n){x:Int}{w':bI}(h0:w c=0)(h1:w' c=x)(h2:∀ i,i<n->i≠c->w' i=w i):eB n s Q w' v=eB n s Q w v+x*v c*(Q/s c):=by
 have e1:eB n s Q w' v=1*eB n s Q w v+1*bg n λi=>if i=c then x*v c*(Q/s c) else 0:=fy 1 1 _ _ _ n λi hi=>by
  by_cases z:i=c
  ·rw[z,h1,h0];simp
  ·rw[h2 i hi z];simp[z]
 have e2:=du c (x*v c*(Q/s c)) n hc (λi=>if i=c then x*v c*(Q/s c) else 0) λ_ _=>rfl
 rw[e1,e2];omega
theorem sZ(h:∀ i,i<n->w i*v i=0):eB n s Q w v=0:=by
 unfold eB
 rw[bp (g:=λ_=>0) λi hi=>by rw[h i hi];simp,dr]
def dU(s:bI)(D:Nat->bI)(d:Nat):Int:=s d/aH s D d
theorem gO(g:Good n s D)(h:d<n):dU s D d*aH s D d=s d/\0<dU s D d/\dU s D d<=s d:=by
 have p:=g.pos h
 obtain⟨c,hc⟩:=g.dv d h
 have e:dU s D d=c:=by unfold dU;rw[hc,Int.mul_ediv_cancel_left _ (by omega)]
 have sp:=g.sp d h
 have c0:0<c:=by
  rcases Int.lt_trichotomy c 0 with q | q | q
  ·have:=Int.mul_neg_of_pos_of_neg p.1 q;omega
  ·rw[q] at hc;omega
  ·exact q
 refine⟨by rw[e,hc,Int.mul_comm],by omega,?_⟩
 rw[e]
 have:1*c<=aH s D d*c:=Int.mul_le_mul_of_nonneg_right (by omega) (by omega)
 omega
structure Wk (n:Nat) (s:bI) (D:Nat->bI) (Q:Int) (Kz a:Nat) (w:bI):Prop where
 beh:∀ i,Kz<i->i<n->w i=0
 at_:w Kz=dU s D Kz%s Kz
 ah:∀ i,a<=i->i<Kz->0<=w i/\w i<dU s D i
 no:∀ i,i<a->w i=0
 kill:∀ b,a<=b->b<n->Q∣eB n s Q w (D b)
theorem Wk.start(g:Good n s D)(hq:∀ i,i<n->s i∣Q)(hd:Kz<n){w:bI}(h:∀ i,i<n->w i=if i=Kz then dU s D Kz%s Kz else 0):Wk n s D Q Kz Kz w where
 beh:=λi h1 h2=>by rw[h i h2,if_neg (by omega)]
 at_:=by rw[h Kz hd,if_pos rfl]
 ah:=λi h1 h2=>by omega
 no:=λi hi=>by rw[h i (by omega),if_neg (by omega)]
 kill:=λb h1 h2=>by
  by_cases z:b=Kz
  ·subst z
   obtain⟨f1,f2,f3⟩:=gO g h2
   obtain⟨e,he⟩:=hq b h2
   obtain⟨x,hx⟩:=g.diag h2
   obtain⟨y,hy⟩:=cY (dU s D b) (s b)
   have sp:=g.sp b h2
   have e1:eB n s Q w (D b)=1*bg n (λi=>if i=b then (dU s D b%s b)*D b b*(Q/s b) else 0)+0*0:=by
    have:=fy 1 0 (λi=>if i=b then (dU s D b%s b)*D b b*(Q/s b) else 0) (λ_=>0) (λi=>w i*D b i*(Q/s i)) n λi hi=>by
     rw[h i hi]
     by_cases z:i=b
     ·subst z;simp
     ·simp[z]
    rw[show eB n s Q w (D b)=bg n λi=>w i*D b i*(Q/s i) from rfl,this];omega
   rw[e1,du b _ n h2 _ λ_ _=>rfl,he,Int.mul_ediv_cancel_left _ (by omega)]
   have hy':dU s D b%s b=dU s D b+s b*y:=by omega
   have hx':D b b=aH s D b+s b*x:=by omega
   refine⟨1+dU s D b*x+y*D b b,?_⟩
   rw[hy',hx']
   generalize dU s D b=F at *
   generalize aH s D b=T at *
   generalize s b=S at *
   subst f1
   grind
  ·rw[sZ λi hi=>?_]
   ·exact Int.dvd_zero _
   ·rcases Nat.lt_or_ge i b with q | q
    ·rw[g.pQ b h2 i q];simp
    ·rw[h i hi,if_neg (by omega)];simp
theorem Wk.next(g:Good n s D)(hQ:0<Q)(hq:∀ i,i<n->s i∣Q){c:Nat}(hd:Kz<n){w w':bI}(W:Wk n s D Q Kz (c+1) w)(hc:c<Kz)(h1:w' c=-(eB n s Q w (D c)%Q/(Q/dU s D c))%dU s D c)(h2:∀ i,i<n->i≠c->w' i=w i):Wk n s D Q Kz c w':=by
 obtain⟨f1,f2,f3⟩:=gO g (show c<n by omega)
 obtain⟨e,he⟩:=hq c (by omega)
 have sp:=g.sp c (by omega)
 have sh:Q/dU s D c=aH s D c*e:=by
  rw[he,← f1,Int.mul_assoc,Int.mul_ediv_cancel_left _ (by omega)]
 have hs:Q/s c=e:=by rw[he,Int.mul_ediv_cancel_left _ (by omega)]
 have fQ:dU s D c*(aH s D c*e)=Q:=by rw[← Int.mul_assoc,f1,he]
 have sh0:0<aH s D c*e:=by
  rcases Int.lt_trichotomy (aH s D c*e) 0 with q | q | q
  ·have:=Int.mul_neg_of_pos_of_neg f2 q;omega
  ·rw[q] at fQ;omega
  ·exact q
 have cl:=g.GG c (n-(c+1)) (by omega)
 have k1:=tP (w:=w) hq (n-(c+1)) (c+1) _ (by omega) (λb h1 h2=>W.kill b h1 h2) cl
 rw[kN (s:=s) (Q:=Q) (w:=w) (n:=n) (dU s D c) 0 (v:=D c) (u:=D c) (x:=λi=>s c/aH s D c*D c i) λi _=>by unfold dU;omega] at k1
 obtain⟨x,hx⟩:=k1
 have dv:(aH s D c*e)∣eB n s Q w (D c):=⟨x,by
  have:dU s D c*eB n s Q w (D c)=dU s D c*(aH s D c*e*x):=by
   rw[← Int.mul_assoc,fQ];omega
  exact Int.eq_of_mul_eq_mul_left (by omega) this⟩
 have ed:=Int.emod_def (eB n s Q w (D c)) Q
 have dv2:(aH s D c*e)∣eB n s Q w (D c)%Q:=by
  rw[ed]
  exact Int.dvd_sub dv (Int.dvd_trans ⟨dU s D c,by rw[Int.mul_comm];exact fQ.symm⟩ (Int.dvd_mul_right _ _))
 obtain⟨q,Mv⟩:=dv2
 rw[sh] at h1
 have eq1:eB n s Q w (D c)%Q/(aH s D c*e)=q:=by rw[Mv,Int.mul_ediv_cancel_left _ (by omega)]
 rw[eq1] at h1
 obtain⟨y,hy⟩:=cY (-q) (dU s D c)
 obtain⟨z,hz⟩:=g.diag (show c<n by omega)
 refine⟨λi a b=>?_,?_,λi a b=>?_,λi a=>?_,λb a1 a2=>?_⟩
 ·rw[h2 i b (by omega)];exact W.beh i a b
 ·rw[h2 Kz hd (by omega)];exact W.at_
 ·by_cases q2:i=c
  ·rw[q2,h1]
   exact⟨Int.emod_nonneg _ (by omega),Int.emod_lt_of_pos _ f2⟩
  ·rw[h2 i (by omega) q2];exact W.ah i (by omega) b
 ·rw[h2 i (by omega) (by omega)];exact W.no i (by omega)
 ·rw[Cc (w:=w) (show c<n by omega) (W.no c (by omega)) rfl h2]
  by_cases q2:b=c
  ·subst q2
   rw[hs]
   have e1:w' b=-q+dU s D b*y:=by omega
   have e2:D b b=aH s D b+s b*z:=by omega
   have e3:eB n s Q w (D b)=Q*(eB n s Q w (D b)/Q)+aH s D b*e*q:=by omega
   refine⟨eB n s Q w (D b)/Q+y+w' b*z,?_⟩
   rw[e2]
   generalize eB n s Q w (D b)/Q=p at *
   rw[e3,e1]
   generalize dU s D b=F at *
   generalize aH s D b=T at *
   generalize s b=S at *
   subst f1
   rw[he]
   grind
  ·rw[g.pQ b a2 c (by omega)]
   simp only[Int.mul_zero,Int.zero_mul,Int.add_zero]
   exact W.kill b (by omega) a2
theorem Wk.first(g:Good n s D)(hQ:0<Q)(hq:∀ i,i<n->s i∣Q)(hd:Kz<n){w l:bI}(W:Wk n s D Q Kz 0 w)(l0:∀ i,i<Kz->l i=0)(l1:0<l Kz)(l2:l Kz<aH s D Kz):¬ Q∣eB n s Q w l:=by
 obtain⟨f1,f2,f3⟩:=gO g hd
 obtain⟨e,he⟩:=hq Kz hd
 have sp:=g.sp Kz hd
 have lt:dU s D Kz<s Kz:=by
  rcases Int.lt_or_eq_of_le f3 with q | q
  ·exact q
  ·rw[q] at f1
   have:aH s D Kz=1:=by
    have:s Kz*aH s D Kz=s Kz*1:=by rw[Int.mul_one];exact f1
    exact Int.eq_of_mul_eq_mul_left (by omega) this
   omega
 have wd:w Kz=dU s D Kz:=by rw[W.at_,Int.emod_eq_of_lt (by omega) lt]
 have e1:eB n s Q w l=bg n (λi=>if i=Kz then dU s D Kz*l Kz*e else 0):=bp λi hi=>by
  by_cases z:i=Kz
  ·rw[z,wd,he,Int.mul_ediv_cancel_left _ (by omega)];simp
  ·rcases Nat.lt_or_ge i Kz with q | q
   ·rw[l0 i q];simp[z]
   ·rw[W.beh i (by omega) hi];simp[z]
 rw[e1,du Kz _ n hd _ λ_ _=>rfl]
 rintro⟨c,hc⟩
 have e0:0<e:=by
  rcases Int.lt_trichotomy e 0 with q | q | q
  ·have:=Int.mul_neg_of_pos_of_neg sp q;omega
  ·rw[q] at he;omega
  ·exact q
 have e2:dU s D Kz*e*l Kz=dU s D Kz*e*(aH s D Kz*c):=by
  rw[he,← f1] at hc
  grind
 have e3:l Kz=aH s D Kz*c:=Int.eq_of_mul_eq_mul_left (by
  have:=Int.mul_pos f2 e0;omega) e2
 have:=hV (a:=l Kz) (b:=aH s D Kz) (by omega) l2 ⟨c,e3⟩
 omega
end
theorem eh(w v:bI):eB n s Q w v=eB n s Q v w:=bp λi _=>by rw[Int.mul_comm (w i)]
theorem F0(g:Good n s D)(hd:d<n)(z:∀ i,d<i->i<n->u i=0):eB n s Q u (D d)=u d*D d d*(Q/s d) :=
 du d _ n hd _ λi hi=>by
  by_cases e:i=d
  ·rw[e];simp
  ·rcases Nat.lt_or_ge i d with q | q
   ·rw[g.pQ d hd i q];simp[e]
   ·rw[z i (by omega) hi];simp[e]
theorem xK(hQ:0<Q){x:Int}(hx:0<x)(h:x∣Q):0<Q/x/\Q=x*(Q/x):=by
 obtain⟨c,hc⟩:=h
 have e:Q/x=c:=by rw[hc,Int.mul_ediv_cancel_left _ (by omega)]
 refine⟨?_,by rw[e];exact hc⟩
 rw[e]
 rcases Int.lt_trichotomy c 0 with q | q | q
 ·have:=Int.mul_neg_of_pos_of_neg hx q;omega
 ·rw[q] at hc;omega
 ·exact q
theorem Cz(g:Good n s D)(hQ:0<Q)(hq:∀ i,i<n->s i∣Q)(hd:d<n)(z:∀ i,d<i->i<n->u i=0)(k:Q∣eB n s Q u (D d)):dU s D d∣u d:=by
 obtain⟨f1,f2,f3⟩:=gO g hd
 have p:=g.pos hd
 by_cases h0:D d d=0
 ·have e1:aH s D d=s d:=by unfold aH;rw[if_pos h0]
  have e2:dU s D d=1:=by
   have:dU s D d*s d=1*s d:=by rw[e1] at f1;omega
   exact Int.eq_of_mul_eq_mul_right (by have:=g.sp d hd;omega) this
  rw[e2];exact Int.one_dvd _
 ·have e1:D d d=aH s D d:=by unfold aH;rw[if_neg h0]
  rw[F0 g hd z,e1] at k
  obtain⟨e0,eq⟩:=xK hQ (g.sp d hd) (hq d hd)
  obtain⟨c,hc⟩:=k
  generalize Q/s d=e at *
  refine⟨c,?_⟩
  have:aH s D d*e*u d=aH s D d*e*(dU s D d*c):=by
   rw[eq,← f1] at hc
   grind
  exact Int.eq_of_mul_eq_mul_left (by have:=Int.mul_pos p.1 e0;omega) this
theorem vC(hq:∀ i,i<n->s i∣Q){P w:bI}(hA:∀ l,l<m->Q∣eB n s Q w (A l))(h:∀ i,i<n->s i∣v i-bg m λl=>P l*A l i):Q∣eB n s Q w v:=by
 have c1:=ue (n:=n) (s:=s) (Q:=Q) (w:=w) hq h
 have key:∀ k,k<=m->Q∣eB n s Q w (λi=>bg k λd=>P d*A d i):=λk=>by
  induction k with
  | zero =>
   intro _
   rw[sZ λi _=>by simp[bg]];exact Int.dvd_zero _
  | succ k ih =>
   intro hm
   have l1:=kN (n:=n) (s:=s) (Q:=Q) (w:=w) 1 (P k) (v:=λi=>bg k λd=>P d*A d i) (u:=A k) (x:=λi=>bg (k+1) λd=>P d*A d i) λi _=>by simp[bg]
   rw[l1]
   exact Int.dvd_add (Int.dvd_mul_of_dvd_right (ih (by omega))) (Int.dvd_mul_of_dvd_right (hA k (by omega)))
 have:=Int.dvd_add c1 (key m (Nat.le_refl _))
 rw[Int.sub_add_cancel] at this
 exact this
theorem z8(hq:∀ i,i<n->s i∣Q)(hW:∀ d,d<n->Wk n s D Q d 0 (W d)){t:bI}(h:∀ i,i<n->s i∣u i-bg n λd=>t d*W d i){b:Nat}(hb:b<n):Q∣eB n s Q u (D b):=by
 rw[eh]
 exact vC hq (λd hd=>by rw[eh];exact(hW d hd).kill b (Nat.zero_le _) hb) h
section
variable{D':Nat->bI}
theorem iP(hq:∀ i,i<n->s i∣Q){x y:bI}(h:∀ i,i<n->s i∣u i-(a*x i+b*y i))(hx:Q∣eB n s Q x v)(hy:Q∣eB n s Q y v):Q∣eB n s Q u v:=by
 rw[eh] at hx hy ⊢
 have c:=ue (n:=n) (s:=s) (Q:=Q) (w:=v) hq h
 rw[kN a b (v:=x) (u:=y) (x:=λi=>a*x i+b*y i) λ_ _=>rfl] at c
 have:=Int.dvd_add c (Int.dvd_add (Int.dvd_mul_of_dvd_right (a:=Q) (b:=a) hx) (Int.dvd_mul_of_dvd_right (b:=b) hy))
 rwa [Int.sub_add_cancel] at this
theorem j5(g:Good n s D)(hQ:0<Q)(hq:∀ i,i<n->s i∣Q)(hW:∀ d,d<n->Wk n s D Q d 0 (W d)):∀ j,j<=n->∀ u:bI,(∀ i,j<=i->i<n->u i=0)->(∀ b,b<n->Q∣eB n s Q u (D b))->∃ t:bI,(∀ d,j<=d->t d=0)/\∀ i,i<n->s i∣u i-bg n λd=>t d*W d i
 | 0,_,u,z,_=>⟨λ_=>0,λ_ _=>rfl,λi hi=>by
   rw[z i (by omega) hi,bp (g:=λ_=>0) λd _=>by simp,dr];exact⟨0,by simp⟩⟩
 | j+1,hj,u,z,k=>by
  have hjn:j<n:=by omega
  obtain⟨q,Mv⟩:=Cz g hQ hq hjn (λi h1 h2=>z i (by omega) h2) (k j hjn)
  have w:=hW j hjn
  have eu:∀ i,i<n->s i∣(if i<j then u i-q*W j i else 0)-(1*u i+(-q)*W j i):=λi hi=>by
   rcases Nat.lt_trichotomy i j with c | c | c
   ·rw[if_pos c];exact⟨0,by rw[Int.neg_mul];omega⟩
   ·subst c
    rw[if_neg (by omega),w.at_,Mv]
    obtain⟨x,hx⟩:=ly (dU s D i) (s i)
    refine⟨-(q*x),?_⟩
    rw[show dU s D i%s i=dU s D i-s i*x by omega]
    generalize dU s D i=r
    grind
   ·rw[if_neg (by omega),z i (by omega) hi,w.beh i c hi];exact⟨0,by simp⟩
  obtain⟨t,t0,ht⟩:=j5 g hQ hq hW j (by omega) (λi=>if i<j then u i-q*W j i else 0) (λi h1 _=>if_neg (by omega)) λb hb=>iP hq eu (k b hb) (w.kill b (Nat.zero_le _) hb)
  refine⟨λd=>if d=j then q else t d,λd hd=>by show (if d=j then q else t d)=0;rw[if_neg (by omega)];exact t0 d (by omega),λi hi=>?_⟩
  have e:bg n (λd=>(if d=j then q else t d)*W d i)=1*bg n (λd=>t d*W d i)+1*bg n (λd=>if d=j then q*W j i else 0):=fy 1 1 _ _ _ n λd hd=>by
   by_cases x:d=j
   ·subst x;simp[t0 d (Nat.le_refl _)]
   ·simp[x]
  rw[du j (q*W j i) n hjn (λd=>if d=j then q*W j i else 0) λ_ _=>rfl] at e
  obtain⟨a,ha⟩:=eu i hi
  obtain⟨b,hb⟩:=ht i hi
  refine⟨b-a,?_⟩
  rw[Int.mul_sub,← ha,← hb,e,Int.neg_mul]
  omega
theorem BW(g:Good n s D)(hQ:0<Q)(hq:∀ i,i<n->s i∣Q)(hW:∀ d,d<n->Wk n s D Q d 0 (W d)){J:Nat->bI}(pos:∀ j,j<n->0<J j j)(zero:∀ j,j<n->∀ l,j<l->l<n->J j l=0)(mK:∀ j,j<n->Led n s n W (λ_=>0) (J j))
  (ord:∀ j,j<n->∀ P:bI,Zf (j+1) n P->Led n s n W (λ_=>0) P->J j j∣P j):∀ j,j<n->J j j=aH s D j:=λj hj=>by
 have w:=hW j hj
 obtain⟨f1,f2,f3⟩:=gO g hj
 have p:=g.pos hj
 obtain⟨x,hx⟩:=ly (dU s D j) (s j)
 refine Int.dvd_antisymm (by have:=pos j hj;omega) (by omega) ?_ ?_
 ·have eu:∀ i,i<n->s i∣(if i<j then aH s D j*W j i else 0)-(aH s D j*W j i+0*W j i):=λi hi=>by
   rcases Nat.lt_trichotomy i j with c | c | c
   ·rw[if_pos c];exact⟨0,by omega⟩
   ·subst c
    rw[if_neg (by omega),w.at_]
    refine⟨aH s D i*x-1,?_⟩
    rw[show dU s D i%s i=dU s D i-s i*x by omega]
    grind
   ·rw[if_neg (by omega),w.beh i c hi];exact⟨0,by simp⟩
  obtain⟨t,t0,ht⟩:=j5 g hQ hq hW j (by omega) (λi=>if i<j then aH s D j*W j i else 0) (λi h1 _=>if_neg (by omega)) λb hb=>iP hq eu (w.kill b (Nat.zero_le _) hb) (w.kill b (Nat.zero_le _) hb)
  have:=ord j hj (λd=>(if d=j then aH s D j else 0)-t d) (λl h1 _=>by show (if l=j then aH s D j else 0)-t l=0;rw[if_neg (by omega),t0 l (by omega)];rfl) λi hi=>by
   have e:bg n (λd=>((if d=j then aH s D j else 0)-t d)*W d i)=(-1)*bg n (λd=>t d*W d i)+1*bg n (λd=>if d=j then aH s D j*W j i else 0):=fy (-1) 1 _ _ _ n λd hd=>by
    by_cases y:d=j
    ·subst y;simp[t0 d (Nat.le_refl _)]
    ·simp[y,Int.neg_mul]
   rw[du j (aH s D j*W j i) n hj (λd=>if d=j then aH s D j*W j i else 0) λ_ _=>rfl] at e
   obtain⟨a,ha⟩:=eu i hi
   obtain⟨b,hb⟩:=ht i hi
   refine⟨a-b,?_⟩
   show 0-bg n (λd=>((if d=j then aH s D j else 0)-t d)*W d i)=_
   rw[Int.mul_sub,← ha,← hb,e]
   omega
  simp only[if_pos,t0 j (Nat.le_refl _),Int.sub_zero] at this
  exact this
 ·obtain⟨y,hy⟩:=mK j hj j hj
  rw[du j (J j j*W j j) n hj _ λl hl=>by
   rcases Nat.lt_trichotomy l j with c | c | c
   ·rw[(hW l hl).beh j c hj,if_neg (by omega)];simp
   ·subst c;rw[if_pos rfl]
   ·rw[zero j hj l c hl,if_neg (by omega)];simp] at hy
  rw[w.at_,show dU s D j%s j=dU s D j-s j*x by omega] at hy
  refine⟨J j j*x-y,?_⟩
  have:dU s D j*J j j=dU s D j*(aH s D j*(J j j*x-y)):=by
   rw[← Int.mul_assoc,f1];grind
  exact Int.eq_of_mul_eq_mul_left (by omega) this
theorem ou(g':Good n s D')(h:∀ d,d<n->G n s D' n 0 (D d)):∀ k d (v:bI),d+k=n->G n s D k d v->G n s D' n 0 v
 | 0,d,v,_,hv=>g'.j3 (by omega) (λi hi=>by rw[Int.sub_zero];exact hv i hi) (G.zero (by omega))
 | k+1,d,v,hn,hv=>by
  have a:=ou g' h k (d+1) _ (by omega) hv.2
  exact G.ext (by omega) (λi _=>by omega) (G.add (by omega) a (G.mul (v d/aH s D d) (by omega) (h d (by omega))))
theorem G.at_{j:Nat}:∀ {k d:Nat} {v:bI},G n s D k d v->(∀ i,d<=i->i<j->v i=0)->d<=j->j<d+k->aH s D j∣v j
 | 0,d,v,_,_,h1,h2=>by omega
 | k+1,d,v,g,h0,h1,h2=>by
  rcases Nat.lt_or_eq_of_le h1 with q | q
  ·have z:=h0 d (Nat.le_refl _) q
   have e:(λi=>v i-v d/aH s D d*D d i)=v:=by funext i;rw[z];simp
   have g2:=g.2
   rw[e] at g2
   exact G.at_ g2 (λi a b=>h0 i (by omega) b) (by omega) (by omega)
  ·subst q;exact g.1
theorem vB(g:Good n s D)(g':Good n s D')(h:∀ d,d<n->G n s D n 0 (D' d))(hd:d<n):aH s D d∣aH s D' d:=by
 have a:=G.at_ (h d hd) (j:=d) (λi _ hi=>g'.pQ d hd i hi) (Nat.zero_le _) (by omega)
 have e:aH s D' d=if D' d d=0 then s d else D' d d:=rfl
 rw[e]
 split
 ·exact g.dv d hd
 ·exact a
theorem uC(g:Good n s D)(g':Good n s D')(h:∀ d,d<n->G n s D n 0 (D' d))(h':∀ d,d<n->G n s D' n 0 (D d)):∀ d,d<n->aH s D d=aH s D' d:=λd hd =>
 Int.dvd_antisymm (by have:=g.pos hd;omega) (by have:=g'.pos hd;omega) (vB g g' h hd) (vB g' g h' hd)
end
end Rg
namespace uu
open PySem L2 PyProof.Rows Rg
local macro_rules | `(tactic| dsimp? [$ts,*])=>`(tactic| simp only[cI,bu,aC,j9,ar,sW,tW,retS,bo,tq,kK,lh,au,M.aE,M.bind_some,M.bind_none,M.yV,M.bind_assoc,ae,aj,ai,aa,ao,CH,Cm,El,FC,Gb,FZ,Fm,Ej,EC,Fs,Ez,Ep,F2,ES,FV,E7,fE,k6,D_,G4,EM,AF,Kh,xn,jP,HR,kd,BK,itemsOf,kn,BR,CV,xJ,Br,BN,yt,A3,Am,Bs,C9,Ab,rZ,zc,fx,dC,vJ,Fp,List.length_cons,List.length_nil,List.map_cons,List.map_nil,List.cons_append,List.nil_append,List.replicate,List.getElem?_cons_zero,List.getElem?_cons_succ,List.getElem?_nil,List.set_cons_zero,List.set_cons_succ,List.set_nil,Nat.reduceAdd,Nat.reduceSub,if_true,if_false,Bool.not_true,Bool.not_false,Bool.false_eq_true,ite_true,ite_false,reduceIte,reduceCtorEq,Nat.sub_self,kb,dw,cO,Option.map_some,Option.map_none,DM,F_,FU,BX,Cn,Ct,D6,Dc,B0,CN,o_,List.any_cons,List.any_nil,String.reduceBEq,Bool.or_false,Bool.or_true,Bool.true_or,Bool.false_or,Bool.and_true,Bool.and_false,Bool.true_and,Bool.false_and,CT,Cq,Fy,FP,Cp,BL,CO,BJ,zT,zz,iQ,sL,List.foldl_cons,List.foldl_nil,rC,av trivial,$(⟨ts.elemsAndSeps⟩),*])
theorem lj(i:Int):eX [.int i]=M.ok (.bl true):=by rfl
variable{p:PV}{α:Type}
theorem vU{inj:α->PV}{h:α->Bool}(xs:List α)(n:Int)(hp:p=.tup (xs.map inj)\/p=.lst (xs.map inj))(H:∀ a∈xs,eX [inj a]=M.ok (.bl (h a)))(hz:xs.length<=sizeLine):fw [p,.int n]=M.ok (.bl (decide ((xs.length:Int)=n)&&xs.all h)):=by
 have key:bP (bW 0) none (ai eX (aa (ae 0) ao)) (xs.map inj) [none]=M.ok (xs.map λa=>.bl (h a)):=gX xs λa ha=>by dsimp? [H a ha]
 have key2:rW [.lst (xs.map λa=>.bl (h a))]=M.ok (.bl (xs.all h)):=by
  have:=rS (xs.map h)
  rw[List.map_map] at this
  rw[show (λa=>PV.bl (h a))=PV.bl∘h from rfl,this]
  simp[List.all_map]
 unfold fw jr
 rcases hp with rfl | rfl
 all_goals
  dsimp? [List.length_map]
  by_cases e:(xs.length:Int)=n
  ·simp only[e,decide_true,Bool.not_true,M.aE,Bool.false_eq_true,if_false,sW,Bool.true_and]
   dsimp? [List.length_map,av hz,key,key2]
  ·simp only[e,decide_false,Bool.not_false,M.aE,if_true,tW,Bool.false_and]
   dsimp? []
theorem yx(xs:List Int)(n:Int)(hz:xs.length<=sizeLine):fw [tI xs,.int n]=M.ok (.bl (decide ((xs.length:Int)=n))):=by
 exact(vU (p:=tI xs) (h:=λ_=>true) xs n (.inl rfl) (λa _=>lj a) hz).trans (by rw[List.all_eq_true.mpr λ_ _=>rfl,Bool.and_true])
theorem D7(xs:List Int)(n:Int)(hz:xs.length<=sizeLine):fw [lI xs,.int n]=M.ok (.bl (decide ((xs.length:Int)=n))):=by
 exact(vU (p:=lI xs) (h:=λ_=>true) xs n (.inr rfl) (λa _=>lj a) hz).trans (by rw[List.all_eq_true.mpr λ_ _=>rfl,Bool.and_true])
theorem HN{f:List Int->PV}(hf:f=tI\/f=lI)(xs:List Int)(n:Int)(hz:xs.length<=sizeLine):fw [f xs,.int n]=M.ok (.bl (decide ((xs.length:Int)=n))):=by
 rcases hf with rfl | rfl
 ·exact yx xs n hz
 ·exact D7 xs n hz
theorem HI{f:List Int->PV}(hf:f=tI\/f=lI)(xs:List Int):bR (f xs)=some (xs.map PV.int):=by rcases hf with rfl | rfl <;> rfl
theorem within_int(x a b:Int):c6 [.int x,.int a,.int b]=M.ok (.bl (decide (a<=x/\x<=b))):=by
 unfold c6 dQ
 dsimp? [lj]
 by_cases h:a<=x
 ·simp only[h,decide_true,if_true,true_and];dsimp? []
 ·simp only[h,decide_false,false_and];dsimp? []
theorem ik{xs:List PV}(h:bR p=some xs):qN p=M.ok (.int xs.length):=by
 cases p <;> first | (cases h;rfl) | cases h
theorem o3(xs:List Int)(hp:bR p=some (xs.map PV.int))(h1:1<=xs.length)(h6:xs.length<=6)(hx:∀ x∈xs,2<=x/\x<=360):fX [p]=M.ok .cy:=by
 unfold fX fS
 have a1:¬ (6:Int)<xs.length:=by omega
 have a2:¬ (xs.length:Int)=0:=by omega
 dsimp? [a1,a2,decide_false,ik hp,List.length_map,rm xs hp]
 refine eP xs.zipIdx (λzs env=>(∃ b c,env=[some (.sh p),b,c])/\∀ z∈zs,2<=z.1/\z.1<=360) ⟨⟨_,_,rfl⟩,λz hz=>hx z.1 (List.fst_mem_of_mem_zipIdx hz)⟩ ?_ ?_
 ·rintro⟨a,i⟩ r env ⟨⟨b,c,rfl⟩,hz⟩
  have ha:=hz (a,i) List.mem_cons_self
  refine⟨_,[some (.sh p),some (.sh (.int i)),some (.sh (.int a))],rfl,?_,⟨_,_,rfl⟩,λz MM=>hz z (List.mem_cons_of_mem _ MM)⟩
  dsimp? [within_int,ha,and_self,decide_true]
 ·rintro Ky ⟨⟨b,c,rfl⟩,_⟩;rfl
theorem nr{f:List Int->PV}(hf:f=tI\/f=lI)(n:Nat)(xs:List (List Int))(h8:xs.length<=8)(hx:∀ x∈xs,x.length=n)(hn:n<=100):e_ [.lst (xs.map f),.int n]=M.ok .cy:=by
 unfold e_ fb
 have a1:¬ (8:Int)<xs.length:=by omega
 dsimp? [a1,decide_false,List.length_map,mS]
 refine eP xs.zipIdx (λzs env=>(∃ b c,env=[some (.sh (.lst (xs.map f))),some (.sh (.int n)),b,c])/\∀ z∈zs,z.1.length=n) ⟨⟨_,_,rfl⟩,λz hz=>hx z.1 (List.fst_mem_of_mem_zipIdx hz)⟩ ?_ ?_
 ·rintro⟨a,i⟩ r env ⟨⟨b,c,rfl⟩,hz⟩
  have ha:a.length=n:=hz (a,i) List.mem_cons_self
  refine⟨_,[some (.sh (.lst (xs.map f))),some (.sh (.int n)),some (.sh (.int i)),some (.sh (f a))],rfl,?_,⟨_,_,rfl⟩,λz MM=>hz z (List.mem_cons_of_mem _ MM)⟩
  dsimp? [HN hf a n (aT (by omega)),ha,decide_true]
 ·rintro Ky ⟨⟨b,c,rfl⟩,_⟩;rfl
theorem nq(n:Nat)(p:PV):(List.replicate n [p]).flatten=List.replicate n p:=by
 induction n with
 | zero=>rfl
 | succ n ih=>rw[List.replicate_succ,List.flatten_cons,ih];rfl
theorem mul_one(p:PV)(n:Nat)(h8:n<=1000):ck (.tup [p]) (.int (n:Int))=M.ok (.tup (List.replicate n p)):=by
 have h2:[p].length*(n:Int).toNat<=sizeLine:=by
  rw[Int.toNat_natCast]
  exact aT (by show 1*n<=1000;omega)
 have h3:(n:Int)<2^63:=Int.lt_of_le_of_lt (Int.ofNat_le.mpr h8) (by decide)
 have h4:-(2^63)<=(n:Int):=Int.le_trans (by decide) (Int.natCast_nonneg n)
 rw[ck,av ⟨rfl,h4,h3,h2⟩,Int.toNat_natCast,nq]
theorem jy(xs:List PV)(h8:xs.length<=8):fW [.lst xs,.cy]=M.ok (tI (List.replicate xs.length 1)):=by
 unfold fW fY
 dsimp? [zr,pZ,mul_one (.int 1) xs.length (by omega)]
 rw[tI,List.map_replicate]
def vy(xs sizes:List Int):List Int:=(xs.zip sizes).map λz=>z.1%z.2
theorem sD(p q:PV)(xs sizes:List Int)(hp:bR p=some (xs.map PV.int))(hq:bR q=some (sizes.map PV.int))(hs:∀ s∈sizes,0<s)(hz:xs.length<=1000):jE [p,q]=M.ok (tI (vy xs sizes)):=by
 have key:bP (cP 0 1) none (aj cQ (ae 0) (ae 1)) ((xs.zip sizes).map λz=>.tup [.int z.1,.int z.2]) [none,none]=M.ok ((xs.zip sizes).map λz=>.int (z.1%z.2)):=by
  refine kf (p:=λz:Int×Int=>PV.int z.1) (q:=λz:Int×Int=>PV.int z.2) (xs.zip sizes) λz hz=>?_
  have:=hs z.2 (List.of_mem_zip (a:=z.1) (b:=z.2) hz).2
  dsimp? [aP this]
 unfold jE kI
 have hl:(xs.zip sizes).length<=sizeLine:=by rw[List.length_zip];exact aT (Nat.le_trans (Nat.min_le_left _ _) hz)
 dsimp? [ip xs sizes hp hq,List.length_map,av hl,key]
 rw[tI,vy,List.map_map];rfl
theorem uK(a b c:PV):aQ (.tup [a,b,c]) (.int 0)=M.ok a:=bw (j:=0) rfl rfl
theorem Gi(a b c:PV):aQ (.tup [a,b,c]) (.int 1)=M.ok b:=bw (j:=1) rfl rfl
theorem Fx(a b c:PV):aQ (.tup [a,b,c]) (.int 2)=M.ok c:=bw (j:=2) rfl rfl
theorem pP(a b:Int)(ha:a.natAbs<2^60)(hb:b.natAbs<2^60):∃ s t,fm [.int a,.int b]=M.ok (.tup [.int (Int.gcd a b),.int s,.int t])/\s*a+t*b=Int.gcd a b/\s.natAbs<=b.natAbs+1/\t.natAbs<=a.natAbs+(b.natAbs+1)*a.natAbs+b.natAbs+1:=by
 let J:af->Prop:=λenv=>∃ r s t r' s' t' x y,env=[some (.sh (.int a)),some (.sh (.int b)),some (.sh ((PV.tup [PV.int r,PV.int s,PV.int t]))),some (.sh ((PV.tup [PV.int r',PV.int s',PV.int t']))),x,y]/\Eu.St a b r s t r' s' t'
 let m:af->Nat:=λenv=>match env with
  | [_,_,_,some (.sh (.tup [.int r,_,_])),_,_]=>r.natAbs
  | _=>0
 have hk:(b.natAbs+1)*a.natAbs<=2^60*2^60:=Nat.mul_le_mul (by omega) (by omega)
 have hk2:(2:Nat)^60*2^60=2^120:=by decide
 have start:J [some (.sh (.int a)),some (.sh (.int b)),some (.sh ((PV.tup [PV.int a,PV.int 1,PV.int 0]))),some (.sh ((PV.tup [PV.int b,PV.int 0,PV.int 1]))),none,none]:=⟨_,_,_,_,_,_,_,_,rfl,Eu.start a b⟩
 have loop:=xw (u:=fE (aj qi (aj aQ (ae 3) (λ_=>M.ok (.int 0))) (λ_=>M.ok (.int 0)))) (b:=(ar (bo 4 (aj bB (aj aQ (ae 2) (λ_=>M.ok (.int 0))) (aj aQ (ae 3) (λ_=>M.ok (.int 0)))))
  (ar (bo 5 (j4 (aa (aj mf (aj aQ (ae 2) (λ_=>M.ok (.int 0))) (aj ck (ae 4) (aj aQ (ae 3) (λ_=>M.ok (.int 0))))) (aa (aj mf (aj aQ (ae 2) (λ_=>M.ok (.int 1))) (aj ck (ae 4) (aj aQ (ae 3) (λ_=>M.ok (.int 1))))) (aa (aj mf (aj aQ (ae 2) (λ_=>M.ok (.int 2))) (aj ck (ae 4) (aj aQ (ae 3) (λ_=>M.ok (.int 2))))) ao)))))
  (ar (bo 2 (ae 3))
  (ar (bo 3 (ae 5))
  au))))) J m ?_ _ start
 ·obtain⟨Ky,e1,⟨r,s,t,r',s',t',x,y,rfl,st⟩,e2⟩:=loop
  have hr':r'=0:=by
   revert e2
   dsimp? [uK]
   intro e2
   have:(!decide (r'=0))=false:=by injection e2 with e2;injection e2
   simpa using this
  subst hr'
  obtain⟨d1,d2⟩:=Eu.done st
  have hg:(r.natAbs:Int)=Int.gcd a b:=by
   have h1:r.natAbs∣Int.gcd a b:=Int.dvd_gcd (Int.natAbs_dvd.mpr d1) (Int.natAbs_dvd.mpr d2)
   have h2:((Int.gcd a b:Nat):Int)∣r:=by
    rw[st.c0]
    exact Int.dvd_add (Int.dvd_trans (Int.gcd_dvd_left ..) (Int.dvd_mul_left _ _)) (Int.dvd_trans (Int.gcd_dvd_right ..) (Int.dvd_mul_left _ _))
   have h3:Int.gcd a b∣r.natAbs:=Int.ofNat_dvd_left.mp h2
   rw[Nat.dvd_antisymm h1 h3]
  unfold fm jl
  dsimp? []
  rw[e1]
  dsimp? [uK,Gi,Fx]
  by_cases hneg:r<0
  ·refine⟨-s,-t,?_,?_,by rw[Int.natAbs_neg];exact st.b0,by rw[Int.natAbs_neg];exact st.d0⟩
   ·simp only[hneg,decide_true,if_true];dsimp? []
    rw[show -r=(Int.gcd a b:Int) by omega]
   ·have:=st.c0
    rw[Int.neg_mul,Int.neg_mul];omega
  ·refine⟨s,t,?_,?_,st.b0,st.d0⟩
   ·simp only[hneg,decide_false,Bool.false_eq_true,if_false];dsimp? []
    rw[show r=(Int.gcd a b:Int) by omega]
   ·have:=st.c0;omega
 ·rintro env ⟨r,s,t,r',s',t',x,y,rfl,st⟩
  by_cases h0:r'=0
  ·refine .inl ?_
   dsimp? [uK]
   simp[h0]
  ·refine .inr ⟨?_,?_⟩
   ·dsimp? [uK]
    simp[h0]
   ·obtain⟨Na,lt⟩:=Eu.turn st h0
    have b1:=st.m1;have b0:=st.m0;have c1:=st.b1;have c2:=st.d1;have c3:=Na.m1
    have q1:(r.fdiv r').natAbs<=r.natAbs+1:=by
     obtain⟨f1,f2,f3⟩:=Eu.pU r r' h0
     generalize r.fdiv r'=q at *
     have e:q*r'=r-(r-q*r'):=by omega
     have e2:(q*r').natAbs<=r.natAbs+(r-q*r').natAbs:=by omega
     rw[Int.natAbs_mul] at e2
     have:q.natAbs*1<=q.natAbs*r'.natAbs:=Nat.mul_le_mul_left _ (by omega)
     rcases Nat.lt_or_ge (r.natAbs+1) q.natAbs with h | h
     ·have h5:(r.natAbs+2)*r'.natAbs<=q.natAbs*r'.natAbs:=Nat.mul_le_mul_right _ (by omega)
      have h6:r.natAbs*1<=r.natAbs*r'.natAbs:=Nat.mul_le_mul_left _ (by omega)
      rw[Nat.add_mul] at h5
      omega
     ·exact h
    have q2:(r.fdiv r').natAbs<2^200:=by omega
    refine⟨[some (.sh (.int a)),some (.sh (.int b)),some (.sh ((PV.tup [PV.int r',PV.int s',PV.int t']))),some (.sh ((PV.tup [PV.int (r-r.fdiv r'*r'),PV.int (s-r.fdiv r'*s'),PV.int (t-r.fdiv r'*t')]))),some (.sh (.int (r.fdiv r'))),some (.sh ((PV.tup [PV.int (r-r.fdiv r'*r'),PV.int (s-r.fdiv r'*s'),PV.int (t-r.fdiv r'*t')])))],?_,⟨_,_,_,_,_,_,_,_,rfl,Na⟩,lt⟩
    dsimp? [uK,Gi,Fx,qa h0 (Nat.lt_of_lt_of_le (show r'.natAbs<2^200 by omega) (Nat.pow_le_pow_right (by decide) (by decide))),bj (k:=200) (l:=200) q2 (show r'.natAbs<2^200 by omega),bj (k:=200) (l:=200) q2 (show s'.natAbs<2^200 by omega),bj (k:=200) (l:=200) q2 (show t'.natAbs<2^200 by omega)]
def R(sizes:List Int):Int:=(Lc.yK (sizes.map Int.toNat):Nat)
structure Sz (sizes:List Int):Prop where
 h1:1<=sizes.length
 h6:sizes.length<=6
 hx:∀ x∈sizes,2<=x/\x<=360
variable{sizes:List Int}
theorem uh(h:Sz sizes):0<R sizes:=by
 refine Int.ofNat_lt.mpr (Lc.lcm_pos λn hn=>?_)
 obtain⟨x,hx,rfl⟩:=List.mem_map.mp hn
 have:=h.hx x hx;omega
theorem GJ(h:Sz sizes):R sizes<2^60:=by
 have h1:=Lc.mU 9 (sizes.map Int.toNat) 1 0 (by decide) (by decide) λn hn=>by
  obtain⟨x,hx,rfl⟩:=List.mem_map.mp hn
  have:=h.hx x hx;omega
 have h2:(2:Nat)^(0+9*(sizes.map Int.toNat).length)<=2^54:=Nat.pow_le_pow_right (by decide) (by rw[List.length_map];have:=h.h6;omega)
 have h3:Lc.yK (sizes.map Int.toNat)<=2^54:=Nat.le_trans h1 h2
 unfold R;omega
variable{x:Int}
theorem GP(h:Sz sizes)(hx:x∈sizes):x∣R sizes:=by
 have h1:=Lc.lcm_dvd (ns:=sizes.map Int.toNat) (List.mem_map.mpr ⟨x,hx,rfl⟩)
 have h2:=Int.ofNat_dvd.mpr h1
 rw[Int.toNat_of_nonneg (by have:=h.hx x hx;omega)] at h2
 exact h2
structure Acc (sizes r:List Int) (acc:Nat):Prop where
 pos:0<acc
 le:acc<=2^(9*(6-r.length))
 len:r.length<=6
 val:(r.map Int.toNat).foldl Nat.lcm acc=Lc.yK (sizes.map Int.toNat)
 hU:∀ x∈r,2<=x/\x<=360
theorem Acc.start(h:Sz sizes):Acc sizes sizes 1:=⟨by decide,Nat.one_le_two_pow,h.h6,rfl,h.hx⟩
variable{acc:Nat}
theorem Acc.lt{r:List Int}(h:Acc sizes r acc):acc<2^60:=by
 have h2:(2:Nat)^(9*(6-r.length))<=2^54:=Nat.pow_le_pow_right (by decide) (by omega)
 have:=h.le;omega
theorem Acc.turn{r:List Int}(h:Acc sizes (x::r) acc):Acc sizes r (Nat.lcm acc x.toNat)/\(acc:Int)/(Int.gcd acc x:Nat)*x=(Nat.lcm acc x.toNat:Nat)/\(acc:Int)/(Int.gcd acc x:Nat)<=acc/\0<Int.gcd acc x:=by
 have hx:=h.hU x List.mem_cons_self
 have hp:=h.pos
 obtain⟨n,rfl⟩:=Int.eq_ofNat_of_zero_le (show 0<=x by omega)
 have hg:Int.gcd (acc:Int) (n:Int)=Nat.gcd acc n:=rfl
 refine⟨⟨Nat.lcm_pos hp (by omega),?_,?_,h.val,λy hy=>h.hU y (List.mem_cons_of_mem _ hy)⟩,?_,?_,?_⟩
 ·have h1:Nat.lcm acc n<=acc*n:=Nat.le_of_dvd (Nat.mul_pos hp (by omega)) (Nat.lcm_dvd (Nat.dvd_mul_right ..) (Nat.dvd_mul_left ..))
  have h2:acc*n<=2^(9*(6-(r.length+1)))*2^9:=Nat.mul_le_mul h.le (by omega)
  have hl:r.length+1<=6:=h.len
  rw[← Nat.pow_add,show 9*(6-(r.length+1))+9=9*(6-r.length) by omega] at h2
  exact Nat.le_trans h1 h2
 ·have hl:r.length+1<=6:=h.len
  omega
 ·rw[hg,Int.toNat_natCast,← Lc.Ao];norm_cast
 ·rw[hg]
  exact Int.ofNat_le.mpr (Nat.div_le_self acc (Nat.gcd acc n))
 ·rw[hg];exact Nat.gcd_pos_of_pos_left _ hp
theorem gM(sizes:List Int)(hp:bR p=some (sizes.map PV.int))(h:Sz sizes):e9 [p]=M.ok (.int (R sizes)):=by
 unfold e9 ff
 dsimp? [hp]
 refine eP sizes (λr env=>∃ acc x,env=[some (.sh p),some (.sh (.int (acc:Nat))),x]/\Acc sizes r acc) ⟨1,_,rfl,.start h⟩ ?_ ?_
 ·rintro a r env ⟨acc,x,rfl,A⟩
  obtain⟨A2,e1,e2,e3⟩:=A.turn
  have l1:=A.lt
  have ha:=A.hU a List.mem_cons_self
  obtain⟨s,t,ec,_,_,_⟩:=pP (acc:Int) a (by omega) (by omega)
  have g1:Int.gcd acc a<=acc:=Nat.le_of_dvd A.pos (Int.ofNat_dvd.mp (Int.gcd_dvd_left ..))
  have d0:0<=(acc:Int)/(Int.gcd acc a:Nat):=Int.ediv_nonneg (by omega) (by omega)
  refine⟨_,[some (.sh p),some (.sh (.int (Nat.lcm acc a.toNat:Nat))),some (.sh (.int a))],rfl,?_,_,_,rfl,A2⟩
  dsimp? [ec,uK,aL (i:=(acc:Int)) (show (0:Int)<(Int.gcd acc a:Nat) by omega) (show ((Int.gcd acc a:Nat):Int)<2^64 by omega),bj (k:=64) (l:=64) (show ((acc:Int)/(Int.gcd acc a:Nat)).natAbs<2^64 by omega) (show a.natAbs<2^64 by omega),e1]
 ·rintro Ky ⟨acc,x,rfl,A⟩
  dsimp? []
  have:=A.val
  rw[R,← this];rfl
def oo(sizes:List Int)(levers:List (List Int)):List (Str×PV):=[("dial_sizes", tI sizes),("lever_settings", .tup (levers.map tI)),("lever_prices", tI (List.replicate levers.length 1)),("least_round", .int (R sizes))]
def dN(sizes:List Int)(levers:List (List Int)):PV:=.obj aq (oo sizes levers)
structure Bj (sizes xs:List Int):Prop where
 len:xs.length=sizes.length
 hU:∀ z∈xs.zip sizes,0<=z.1/\z.1<z.2
variable{xs:List Int}
theorem ot(h:Bj sizes xs):vy xs sizes=xs:=by
 obtain⟨hl,hr⟩:=h
 unfold vy
 induction xs generalizing sizes with
 | nil=>rfl
 | cons x r ih =>
  cases sizes with
  | nil=>cases hl
  | cons s t =>
   have h1:=hr (x,s) (by simp)
   rw[List.zip_cons_cons,List.map_cons,ih (Nat.succ.inj hl) λz hz=>hr z (by rw[List.zip_cons_cons];exact List.mem_cons_of_mem _ hz)]
   rw[show ((x,s):Int×Int).1%((x,s):Int×Int).2=x from Int.emod_eq_of_lt h1.1 h1.2]
theorem sO(f:Str)(p:PV):∀ fs:List (Str×PV),(rg f p fs).length<=fs.length+1
 | []=>by simp[rg]
 | (g,q)::r=>by
  have:=sO f p r
  unfold rg
  split
  ·simp
  ·simp;omega
variable{n:Nat}
theorem iD{f:Str}{fs:List (Str×PV)}(h:fs.length<=n):(rg f p fs).length<=n+1:=Nat.le_trans (sO f p fs) (by omega)
theorem iK(a C:Addr)(f:Str)(p:PV)(fs:List (Str×PV))(r:af)(h:fs.length<1000):z6 0 C f p (some (.bd a C fs)::r)=M.ok (.nx (some (.bd a C (rg f p fs))::r)):=by
 show cC _ _=_
 rw[av ⟨rfl,h⟩];rfl
theorem Bq{f:List Int->PV}(hf:f=tI\/f=lI)(sizes:List Int)(levers:List (List Int))(hp:bR p=some (sizes.map PV.int))(h:Sz sizes)(h8:levers.length<=8)(hl:∀ l∈levers,l.length=sizes.length):dy aq cv [.cy] [p,.lst (levers.map f)]=M.ok (dN sizes (levers.map λl=>vy l sizes)):=by
 have key:∀ a,cv a ([p,.lst (levers.map f)]++[.cy])=M.ok (oo sizes (levers.map λl=>vy l sizes)):=by
  intro a
  have e1:bP (bW 0) none (ai jE (aa (ae 0) (aa (ae 1) ao))) (levers.map f) [none,some (.sh p)]=M.ok (levers.map λl=>tI (vy l sizes)):=by
   refine gX levers λl hm=>?_
   have hs:=hl l hm
   have:=sD (f l) p l sizes (HI hf l) hp (λs hs=>by have:=h.hx s hs;omega) (by rw[hs];have:=h.h6;omega)
   dsimp? [this]
  unfold cv iJ
  simp only[qh]
  rw[av (show ([p,PV.lst (levers.map f)]++[PV.cy]).length+1=4 from rfl)]
  simp only[xF,xM]
  dsimp? [hp,ik hp,o3 sizes hp h.h1 h.h6 h.hx,nr hf sizes.length levers h8 hl (by have:=h.h6;omega),ki,hp,ik hp,List.length_map,av (aT (show levers.length<=1000 by omega)),e1,jy _ (show (levers.map f).length<=8 by rw[List.length_map];exact h8),gM sizes hp h]
  rw[iK _ _ _ _ _ _ (by simp)]
  dsimp? [ki,hp,ik hp,List.length_map,av (aT (show levers.length<=1000 by omega)),e1,jy _ (show (levers.map f).length<=8 by rw[List.length_map];exact h8),gM sizes hp h]
  rw[iK _ _ _ _ _ _ (Nat.lt_of_le_of_lt (iD (Nat.zero_le 0)) (by decide))]
  dsimp? [ki,hp,ik hp,List.length_map,av (aT (show levers.length<=1000 by omega)),e1,jy _ (show (levers.map f).length<=8 by rw[List.length_map];exact h8),gM sizes hp h]
  rw[iK _ _ _ _ _ _ (Nat.lt_of_le_of_lt (iD (iD (Nat.zero_le 0))) (by decide))]
  dsimp? [ki,hp,ik hp,List.length_map,av (aT (show levers.length<=1000 by omega)),e1,jy _ (show (levers.map f).length<=8 by rw[List.length_map];exact h8),gM sizes hp h]
  rw[iK _ _ _ _ _ _ (Nat.lt_of_le_of_lt (iD (iD (iD (Nat.zero_le 0)))) (by decide))]
  dsimp? []
  show cC _ _=_
  rw[av ⟨rfl,rfl⟩]
  rw[oo,List.map_map,List.length_map]
  rfl
 unfold dy
 rw[zk key];rfl
theorem zv(sizes:List Int)(levers:List (List Int)):(oo sizes levers).lookup (Str.ofString "dial_sizes")=some (tI sizes):=rfl
theorem xr(sizes:List Int)(levers:List (List Int)):(oo sizes levers).lookup (Str.ofString "lever_settings")=some (.tup (levers.map tI)):=rfl
theorem A5(sizes:List Int)(levers:List (List Int)):(oo sizes levers).lookup (Str.ofString "least_round")=some (.int (R sizes)):=rfl
theorem HP(sizes:List Int)(levers:List (List Int)):(oo sizes levers).lookup (Str.ofString "sizes")=none:=rfl
theorem Hf(sizes:List Int)(levers:List (List Int)):(oo sizes levers).lookup (Str.ofString "levers")=none:=rfl
theorem tm(sizes:List Int)(levers:List (List Int)):aJ [dN sizes levers]=M.ok (tI sizes):=by
 unfold aJ a_
 dsimp? [dX,dN,beq_self_eq_true,zv]
theorem p7(sizes:List Int)(levers:List (List Int)):aX [dN sizes levers]=M.ok (.tup (levers.map tI)):=by
 unfold aX bx
 dsimp? [dX,dN,beq_self_eq_true,xr]
variable{levers:List (List Int)}
theorem mT{g:af->M PV}{env:af}(h:g env=M.ok (dN sizes levers)):bh aq "sizes" aJ g ao env=M.ok (tI sizes):=by
 have:=tm sizes levers
 rw[bh,h,M.aE]
 show cC _ (M.bind (ao env) _)=_
 rw[av ⟨rfl,HP sizes levers⟩]
 exact this
theorem nP{g:af->M PV}{env:af}(h:g env=M.ok (dN sizes levers)):bh aq "levers" aX g ao env=M.ok (.tup (levers.map tI)):=by
 have:=p7 sizes levers
 rw[bh,h,M.aE]
 show cC _ (M.bind (ao env) _)=_
 rw[av ⟨rfl,Hf sizes levers⟩]
 exact this
def Cd(sizes xs:List Int):Bool:=decide ((xs.length:Int)=sizes.length)&&(xs.zip sizes).all λz=>decide (0<=z.1/\z.1<z.2)
theorem C1:Cd sizes xs=true ↔ Bj sizes xs:=by
 unfold Cd
 constructor
 ·intro h
  simp only[Bool.and_eq_true,decide_eq_true_eq,List.all_eq_true] at h
  exact⟨by omega,h.2⟩
 ·intro h
  simp only[Bool.and_eq_true,decide_eq_true_eq,List.all_eq_true]
  exact⟨by rw[h.len],h.hU⟩
theorem yO(x s:Int):∀ env:af,env=[some (.sh (.int x)),some (.sh (.int s))]->kd BQ Cs (λ_=>M.ok (.int 0)) (ae 0) (ae 1) env=M.ok (.bl (decide (0<=x/\x<s))):=by
 rintro env rfl
 dsimp? []
 by_cases h:0<=x
 ·simp only[h,decide_true,if_true,true_and]
  try dsimp? []
 ·simp only[h,decide_false,false_and]
  try dsimp? []
theorem Gp(h:α->Bool)(xs:List α):rW [.lst (xs.map λa=>.bl (h a))]=M.ok (.bl (xs.all h)):=by
 have:=rS (xs.map h)
 rw[List.map_map] at this
 rw[show (λa=>PV.bl (h a))=PV.bl∘h from rfl,this]
 simp[List.all_map]
theorem vd(h:Sz sizes)(xs:List Int)(hz:xs.length<=1000):f6 [dN sizes levers,tI xs]=M.ok (.bl (Cd sizes xs)):=by
 have key:bP (cP 0 1) none (kd BQ Cs (λ_=>M.ok (.int 0)) (ae 0) (ae 1)) ((xs.zip sizes).map λz=>.tup [.int z.1,.int z.2]) [none,none]=M.ok ((xs.zip sizes).map λz=>.bl (decide (0<=z.1/\z.1<z.2))) :=
  kf (p:=λz:Int×Int=>PV.int z.1) (q:=λz:Int×Int=>PV.int z.2) (xs.zip sizes) λz hz=>yO z.1 z.2 _ rfl
 have hl:(xs.zip sizes).length<=sizeLine:=by rw[List.length_zip];exact aT (Nat.le_trans (Nat.min_le_left _ _) hz)
 unfold f6 fN
 dsimp? [mT (sizes:=sizes) (levers:=levers) (g:=ae 0) (env:=[some (.sh (dN sizes levers)),some (.sh (tI xs)),none]) rfl,yx xs sizes.length (aT hz)]
 unfold Cd
 by_cases e:(xs.length:Int)=sizes.length
 ·simp only[e,decide_true,Bool.not_true,Bool.false_eq_true,if_false,Bool.true_and]
  dsimp? [ip (p:=tI xs) (q:=tI sizes) xs sizes rfl rfl,List.length_map,av hl,key,Gp]
 ·simp only[e,decide_false,Bool.not_false,if_true,Bool.false_and]
  dsimp? []
theorem qV(h:Sz sizes)(hs:Bj sizes xs):cG [dN sizes levers,tI xs]=M.ok .cy:=by
 unfold cG c7
 dsimp? [vd (levers:=levers) h xs (by rw[hs.len];have:=h.h6;omega),C1.mpr hs]
variable{ys:List Int}
theorem mQ{z:Int×Int}(h:z∈xs.zip ys):z.1∈xs/\z.2∈ys:=List.of_mem_zip (a:=z.1) (b:=z.2) h
theorem qm(h:Sz sizes)(hs:Bj sizes xs)(hx:x∈xs):0<=x/\x<360:=by
 obtain⟨i,hi,rfl⟩:=List.mem_iff_getElem.mp hx
 have hj:i<sizes.length:=by rw[← hs.len];exact hi
 have:=hs.hU (xs[i],sizes[i]) (by
  rw[List.mem_iff_getElem]
  exact⟨i,by rw[List.length_zip];omega,by rw[List.getElem_zip]⟩)
 have h2:=h.hx sizes[i] (List.getElem_mem hj)
 exact⟨this.1,by have:=this.2;simp only at this;omega⟩
theorem AI(xs sizes:List Int):vy xs sizes=wV xs sizes:=rfl
def cf(a b:Int):Int×Int:=open Classical in if h:∃ p:Int×Int,fm [.int a,.int b]=M.ok (.tup [.int (Int.gcd a b),.int p.1,.int p.2])/\p.1*a+p.2*b=Int.gcd a b/\p.1.natAbs<=b.natAbs+1/\p.2.natAbs<=a.natAbs+(b.natAbs+1)*a.natAbs+b.natAbs+1 then h.choose else (0,0)
theorem Dj(a b:Int)(ha:a.natAbs<2^60)(hb:b.natAbs<2^60):fm [.int a,.int b]=M.ok (.tup [.int (Int.gcd a b),.int (cf a b).1,.int (cf a b).2])/\(cf a b).1*a+(cf a b).2*b=Int.gcd a b/\(cf a b).1.natAbs<=b.natAbs+1/\(cf a b).2.natAbs<=a.natAbs+(b.natAbs+1)*a.natAbs+b.natAbs+1:=by
 have h:∃ p:Int×Int,fm [.int a,.int b]=M.ok (.tup [.int (Int.gcd a b),.int p.1,.int p.2])/\p.1*a+p.2*b=Int.gcd a b/\p.1.natAbs<=b.natAbs+1/\p.2.natAbs<=a.natAbs+(b.natAbs+1)*a.natAbs+b.natAbs+1:=by
  obtain⟨s,t,h⟩:=pP a b ha hb
  exact⟨(s,t),h⟩
 unfold cf
 rw[dif_pos h]
 exact h.choose_spec
theorem wB:CB cf:=λa b h1 h2 h3 h4=>by
 obtain⟨_,e,b1,b2⟩:=Dj a b (by omega) (by omega)
 refine⟨e,by omega,?_⟩
 have:(b.natAbs+1)*a.natAbs<=361*360:=Nat.mul_le_mul (by omega) (by omega)
 omega
def mk(r:Row):PV:=.tup [tI r.1,tI r.2]
theorem oN(r:Row):aQ (mk r) (.int 0)=M.ok (tI r.1):=bw (p:=mk r) (j:=0) rfl rfl
theorem yD(r:Row):aQ (mk r) (.int 1)=M.ok (tI r.2):=bw (p:=mk r) (j:=1) rfl rfl
variable{i:Nat}
theorem j8(h:i<xs.length):aQ (tI xs) (.int (i:Int))=M.ok (.int (vf xs i)) :=
 bw (p:=tI xs) rfl (by rw[List.getElem?_map,List.getElem?_eq_getElem h,bc h];rfl)
variable{d:Nat}{rows:List Row}
theorem ny(h:d<rows.length):aQ (.lst (rows.map mk)) (.int (d:Int))=M.ok (mk (row rows d)) :=
 bw (p:=.lst (rows.map mk)) rfl (by rw[List.getElem?_map,List.getElem?_eq_getElem h,eM h];rfl)
theorem oI{A B:Nat}(p q:PV)(xs ys:List Int)(a b:Int)(hp:bR p=some (xs.map PV.int))(hq:bR q=some (ys.map PV.int))(hx:Bd B xs)(hy:Bd B ys)(ha:a.natAbs<2^A)(hb:b.natAbs<2^A)(hB:B<=9000)(hA:A<=9000)(hz:xs.length<=1000):jA [p,.int a,q,.int b]=M.ok (tI (mq xs a ys b)):=by
 have key:bP (cP 0 1) none (aj dF (aj ck (ae 2) (ae 0)) (aj ck (ae 3) (ae 1))) ((xs.zip ys).map λz=>.tup [.int z.1,.int z.2]) [none,none,some (.sh (.int a)),some (.sh (.int b))]=M.ok ((xs.zip ys).map λz=>.int (a*z.1+b*z.2)):=by
  refine kf (p:=λz:Int×Int=>PV.int z.1) (q:=λz:Int×Int=>PV.int z.2) (xs.zip ys) λz hz=>?_
  have m:=List.of_mem_zip (a:=z.1) (b:=z.2) hz
  dsimp? [bj (k:=A) (l:=B) ha (hx _ m.1) hA hB,bj (k:=A) (l:=B) hb (hy _ m.2) hA hB]
 have hl:(xs.zip ys).length<=sizeLine:=by rw[List.length_zip];exact aT (Nat.le_trans (Nat.min_le_left _ _) hz)
 unfold jA kA
 dsimp? [ip xs ys hp hq,List.length_map,av hl,key]
 rw[tI,mq,List.map_map];rfl
variable{a b:Int}{r:Row}
theorem u9{A B:Nat}{q:Row}(hs:∀ s∈sizes,0<s)(h1:Bd B r.1)(h2:Bd B r.2)(h3:Bd B q.1)(h4:Bd B q.2)(ha:a.natAbs<2^A)(hb:b.natAbs<2^A)(hB:B<=9000)(hA:A<=9000)(z1:r.1.length<=100)(z2:r.2.length<=100):dj [tI sizes,mk r,.int a,mk q,.int b]=M.ok (mk (oO sizes r a q b)):=by
 unfold dj eg
 dsimp? [oN,yD,oI (tI r.1) (tI q.1) r.1 q.1 a b rfl rfl h1 h3 ha hb hB hA (by omega),oI (tI r.2) (tI q.2) r.2 q.2 a b rfl rfl h2 h4 ha hb hB hA (by omega),sD (tI (mq r.1 a q.1 b)) (tI sizes) (mq r.1 a q.1 b) sizes rfl rfl hs (by rw[bL];omega)]
 rfl
variable{m:Nat}
theorem qX(w:Wf n m rows)(hs:sizes.length=n)(hd:d<n):cX [tI sizes,.lst (rows.map mk),.int (d:Int)]=M.ok (.int (aH (vf sizes) (DD rows) d)):=by
 unfold cX dS
 have e1:=w.lT hd
 dsimp? [ny (rows:=rows) (d:=d) (by rw[w.len];exact hd),oN,j8 (xs:=(row rows d).1) (i:=d) (by omega)]
 unfold aH
 by_cases z:DD rows d d=0
 ·have z':vf (row rows d).1 d=0:=z
  simp only[z',z,decide_true,if_true]
  dsimp? [j8 (xs:=sizes) (i:=d) (by omega)]
 ·have z':¬ vf (row rows d).1 d=0:=z
  simp only[z',z,decide_false,Bool.false_eq_true,if_false]
  dsimp? []
  rfl
theorem drop_cons{xs:List α}{a:α}{r:List α}(h:xs.drop d=a::r):d<xs.length/\xs[d]?=some a/\xs.drop (d+1)=r:=by
 have hd:d<xs.length:=by
  rcases Nat.lt_or_ge d xs.length with q | q
  ·exact q
  ·rw[List.drop_eq_nil_of_le q] at h;cases h
 rw[List.drop_eq_getElem_cons hd] at h
 injection h with h1 h2
 exact⟨hd,by rw[List.getElem?_eq_getElem hd,h1],h2⟩
theorem jC(env:af):l5 ao env=M.ok []:=by
 simp only[l5,ao,M.aE]
 exact if_pos (Nat.zero_le _)
theorem wm{f:af->M PV}{env:af}{xs:List PV}(h:env[i]?=some (some (.ow xs)))(hf:f env=M.ok p)(hz:xs.length<1000):nI i f env=M.ok (.nx (env.set i (some (.ow (xs++[p]))))):=by
 unfold nI
 rw[h]
 show M.bind (f env) _=_
 rw[hf,M.aE,if_pos (lK (Nat.le_of_lt hz))]
theorem rH(hl:xs.length=n)(h:∀ i,i<n->0<=vf xs i/\vf xs i<vf sizes i)(hs:∀ i,i<n->vf sizes i<=360):Bd 9 xs:=λx hx=>by
 obtain⟨i,hi,rfl⟩:=List.mem_iff_getElem.mp hx
 have h1:=h i (by omega);have h2:=hs i (by omega)
 rw[bc hi] at h1
 omega
theorem zF(h1:-1000<=a)(h2:a<=1000)(h3:-1000<=b)(h4:b<=1000):xI [.int a,.int b]=M.ok ((List.range (b-a).toNat).map λ(i:Nat)=>.int (a+(i:Int))):=by
 have h:-(2^62)<=a/\a<2^62/\-(2^62)<=b/\b<2^62:=by omega
 show cC (-(2^62)<=a/\a<2^62/\-(2^62)<=b/\b<2^62) _=_
 rw[av h]
variable{A:Nat->bI}{k:Nat}
section
variable{left:Row}
theorem St.Bb(h:St n m sizes A k rows)(hd:d<n):Bd 9 (row rows d).1:=rH (h.wf.lT hd) (λi hi=>h.gd.hU d hd i hi) h.sm
theorem zJ(h:St n m sizes A k rows):∀ s∈sizes,0<s:=λs hs=>by
 obtain⟨i,hi,rfl⟩:=List.mem_iff_getElem.mp hs
 have:=h.gd.sp i (by rw[← h.hs];exact hi)
 rwa [bc hi] at this
theorem yv(h:St n m sizes A k rows)(L:Lv n m sizes A k left)(hn:n<=6)(hm:m<=8):iH [tI sizes,.lst (rows.map mk),mk left]=M.ok (.tup [.lst ((cA cf sizes rows left n).map mk),tI (aB cf sizes rows left n).2]):=by
 have rl:=h.wf.len
 have hkm:=L.km
 unfold iH iG
 dsimp? [jC,mS]
 refine eP rows.zipIdx (λzs env=>∃ d x4 x5 x6 x7 x8,d<=n/\rows.zipIdx.drop d=zs/\env=[some (.sh (tI sizes)),some (.sh (.lst (rows.map mk))),some (.sh (mk (aB cf sizes rows left d))),some (.ow ((cA cf sizes rows left d).map mk)),x4,x5,x6,x7,x8]) ⟨0,none,none,none,none,none,Nat.zero_le _,rfl,rfl⟩ ?_ ?_
 ·rintro⟨a,i⟩ zs env ⟨d,x4,x5,x6,x7,x8,hd,Mt,rfl⟩
  obtain⟨h1,h2,h3⟩:=drop_cons Mt
  rw[List.length_zipIdx,rl] at h1
  have h4:a=row rows d/\i=d:=by
   rw[List.getElem?_zipIdx] at h2
   rw[eM (by rw[rl];exact h1)]
   rw[List.getElem?_eq_getElem (by rw[rl];exact h1)] at h2
   simp at h2
   exact⟨h2.1.symm,h2.2.symm⟩
  obtain⟨rfl,rfl⟩:=h4
  have ll:=cN (c:=cf) h.wf h.hs L.l1 L.l2 i (by omega)
  have lk:=jI (c:=cf) h L i (by omega)
  have lb:=mO (c:=cf) h L hn i (by omega)
  have st:=h.gd.pos h1
  have sm:=h.sm i h1
  have nt:=lk i h1
  have e1:=h.wf.lT h1;have e2:=h.wf.at2 h1
  generalize K4:aH (vf sizes) (DD rows) i=LB at *
  generalize hnt:vf (aB cf sizes rows left i).1 i=nt' at *
  obtain⟨c1,c2,c3,c4⟩:=Dj LB nt' (by omega) (by omega)
  have cb:=wB LB nt' st.1 (by omega) nt.1 (by omega)
  have gp:=fO (b:=nt') st.1
  have gl:(Int.gcd LB nt':Int)<=LB:=Int.le_of_dvd st.1 (Int.gcd_dvd_left ..)
  have a1:=jj (b:=nt') st.1 (by omega)
  have a2:=kJ (b:=nt') st.1 nt.1 (by omega)
  have B1:Bd 1300 (row rows i).1:=(St.Bb h h1).mono (by omega)
  have B2:Bd 1300 (row rows i).2:=(h.bd i h1).mono (by omega)
  have B3:Bd 1300 (aB cf sizes rows left i).1:=(rH ll.1 lk h.sm).mono (by omega)
  have B4:Bd 1300 (aB cf sizes rows left i).2:=lb.mono (by omega)
  have w1:=u9 (A:=20) (sizes:=sizes) (zJ h) B1 B2 B3 B4 cb.2.1 cb.2.2 (by decide) (by decide) (by omega) (by omega)
  have w2:=u9 (A:=20) (sizes:=sizes) (a:=LB/(Int.gcd LB nt':Nat)) (b:=-(nt'/(Int.gcd LB nt':Nat))) (zJ h) B3 B4 B1 B2 (by omega) (by omega) (by decide) (by decide) (by omega) (by omega)
  have ew:dM cf sizes rows left i=oO sizes (row rows i) (cf LB nt').1 (aB cf sizes rows left i) (cf LB nt').2:=by
   simp only[dM,K4,hnt]
  have el:aB cf sizes rows left (i+1)=oO sizes (aB cf sizes rows left i) (LB/(Int.gcd LB nt':Nat)) (row rows i) (-(nt'/(Int.gcd LB nt':Nat))):=by
   simp only[aB,K4,hnt]
  refine⟨_,[some (.sh (tI sizes)),some (.sh (.lst (rows.map mk))),some (.sh (mk (aB cf sizes rows left (i+1)))),some (.ow ((cA cf sizes rows left (i+1)).map mk)),some (.sh (.int i)),some (.sh (mk (row rows i))),some (.sh (.int LB)),some (.sh (.int nt')),some (.sh (.tup [.int (Int.gcd LB nt'),.int (cf LB nt').1,.int (cf LB nt').2]))],rfl,?_,i+1,_,_,_,_,_,by omega,h3,rfl⟩
  have sok:=qX h.wf h.hs h1
  rw[K4] at sok
  have nok:=j8 (xs:=(aB cf sizes rows left i).1) (i:=i) (by omega)
  rw[hnt] at nok
  dsimp? [sok,oN,nok,c1]
  rw[wm (i:=3) rfl (p:=mk (dM cf sizes rows left i)) (by dsimp? [Gi,Fx,w1,ew]) (by simp[cA];omega)]
  dsimp? [uK,aL (i:=LB) gp (by omega),aL (i:=nt') gp (by omega),w2,el]
  rw[cA,cA,List.range_succ,List.map_append,List.map_append]
  rfl
 ·rintro env ⟨d,x4,x5,x6,x7,x8,hd,Mt,rfl⟩
  have Nt:d=n:=by
   have:=congrArg List.length Mt
   rw[List.length_drop,List.length_zipIdx,rl] at this
   simp at this
   omega
  subst Nt
  dsimp? [yD]
def bb(sizes:List Int)(rows:List Row)(r:Row)(f:Nat):Nat->Row
 | 0=>r
 | c+1 =>
  let l:=bb sizes rows r f c
  oO sizes l 1 (row rows (f+c)) (-(vf l.1 (f+c)/aH (vf sizes) (DD rows) (f+c)))
theorem gF(h:St n m sizes A k rows){r:Row}{f:Nat}(h1:r.1.length=n)(h2:r.2.length=m):∀ c,f+c<=n->(bb sizes rows r f c).1.length=n/\(bb sizes rows r f c).2.length=m
 | 0,_=>⟨h1,h2⟩
 | c+1,hc=>by
  obtain⟨i1,i2⟩:=gF h (f:=f) h1 h2 c (by omega)
  have e1:=h.wf.lT (d:=f+c) (by omega);have e2:=h.wf.at2 (d:=f+c) (by omega)
  have hs:=h.hs
  simp only[bb,oO]
  rw[jo,bL,bL]
  exact⟨by omega,by omega⟩
theorem kY(h:St n m sizes A k rows){f:Nat}(h1:r.1.length=n)(h2:r.2.length=m)(h0:∀ i,i<n->0<=vf r.1 i/\vf r.1 i<vf sizes i):Dn n (vf sizes) (DD rows) f (λd=>vf (bb sizes rows r f (d-f)).1) where
 w0:=λi hi=>by rw[Nat.sub_self];exact h0 i hi
 ws:=λd hf hd i hi=>by
  obtain⟨c,rfl⟩:∃ c,d=f+c:=⟨d-f,by omega⟩
  obtain⟨i1,i2⟩:=gF h (f:=f) h1 h2 c (by omega)
  have e1:=h.wf.lT (d:=f+c) (by omega)
  have hs:=h.hs
  show vf (bb sizes rows r f (f+c+1-f)).1 i=_
  rw[show f+c+1-f=c+1 by omega,show f+c-f=c by omega]
  simp only[bb,oO]
  rw[jh (by rw[bL];omega) (by omega),eQ (by omega) (by omega)]
  rfl
theorem qU(h:St n m sizes A k rows){r:Row}{f:Nat}(h1:r.1.length=n)(h2:r.2.length=m){P₀:bI}{B:bI}(hl:Led n (vf sizes) m A (λi=>vf r.1 i-B i) (λl=>vf r.2 l-P₀ l)):∀ c,f+c<=n->Led n (vf sizes) m A (λi=>vf (bb sizes rows r f c).1 i-B i) (λl=>vf (bb sizes rows r f c).2 l-P₀ l)
 | 0,_=>hl
 | c+1,hc=>by
  obtain⟨i1,i2⟩:=gF h (f:=f) h1 h2 c (by omega)
  have e1:=h.wf.lT (d:=f+c) (by omega);have e2:=h.wf.at2 (d:=f+c) (by omega)
  have hs:=h.hs
  refine Led.mix (a:=1) (b:=-(vf (bb sizes rows r f c).1 (f+c)/aH (vf sizes) (DD rows) (f+c))) (qU h (f:=f) h1 h2 hl c (by omega)) (h.led (f+c) (by omega)) (λi hi=>?_) λl hl=>?_
  ·simp only[bb,oO]
   rw[jh (by rw[bL];omega) (by omega),eQ (by omega) (by omega)]
   obtain⟨z,hz⟩:=cY (1*vf (bb sizes rows r f c).1 i+-(vf (bb sizes rows r f c).1 (f+c)/aH (vf sizes) (DD rows) (f+c))*vf (row rows (f+c)).1 i) (vf sizes i)
   refine⟨z,?_⟩
   rw[← hz]
   unfold DD
   grind
  ·simp only[bb,oO]
   rw[eQ (by omega) (by omega)]
   unfold PP
   grind
theorem rB(h:St n m sizes A k rows){r:Row}{f B:Nat}(h1:r.1.length=n)(h2:r.2.length=m)(h0:∀ i,i<n->0<=vf r.1 i/\vf r.1 i<vf sizes i)(hB:150*k+1<=B)(hb:Bd B r.2):∀ c,f+c<=n->Bd (B+11*c) (bb sizes rows r f c).2
 | 0,_=>hb
 | c+1,hc=>by
  have k0:=(kY h (f:=f) h1 h2 h0).kept h.gd (f+c) (by omega) (by omega) (f+c) (by omega)
  rw[show f+c-f=c by omega] at k0
  have sm:=h.sm (f+c) (by omega)
  have p:=h.gd.pos (d:=f+c) (by omega)
  have q:=Int.ediv_le_self (aH (vf sizes) (DD rows) (f+c)) k0.1
  have q0:=Int.ediv_nonneg k0.1 (Int.le_of_lt p.1)
  have:=Bd.mix (A:=10) (rB h (f:=f) h1 h2 h0 hB hb c (by omega)) ((h.bd (f+c) (by omega)).mono (show 150*k+1<=B+11*c by omega)) (a:=1) (b:=-(vf (bb sizes rows r f c).1 (f+c)/aH (vf sizes) (DD rows) (f+c))) (by decide) (by omega)
  exact this.mono (by omega)
theorem oM(h:St n m sizes A k rows){f B:Nat}(hn:n<=6)(hm:m<=8)(h1:r.1.length=n)(h2:r.2.length=m)(h0:∀ i,i<n->0<=vf r.1 i/\vf r.1 i<vf sizes i)(hB:150*k+1<=B)(hB2:B<=8000)(hb:Bd B r.2)(hf:f<=n):eT [tI sizes,.lst (rows.map mk),mk r,.int (f:Int)]=M.ok (mk (bb sizes rows r f (n-f))):=by
 have hs:=h.hs
 have rl:=h.wf.len
 unfold eT h_
 have hU:xI [.int (f:Int),.int (sizes.length:Int)]=M.ok ((List.range (n-f)).map λ(i:Nat)=>.int ((f+i:Nat):Int)):=by
  rw[zF (by omega) (by omega) (by omega) (by omega),hs,show ((n:Int)-(f:Int)).toNat=n-f by omega]
  simp
 dsimp? [hU]
 refine eP (List.range (n-f)) (λzs env=>∃ c x4 x5,c<=n-f/\(List.range (n-f)).drop c=zs/\env=[some (.sh (tI sizes)),some (.sh (.lst (rows.map mk))),some (.sh (mk (bb sizes rows r f c))),some (.sh (.int (f:Int))),x4,x5]) ⟨0,none,none,Nat.zero_le _,rfl,rfl⟩ ?_ ?_
 ·rintro i zs env ⟨c,x4,x5,hc,Mt,rfl⟩
  obtain⟨c1,c2,c3⟩:=drop_cons Mt
  rw[List.length_range] at c1
  obtain rfl:i=c:=by
   rw[List.getElem?_range c1] at c2;exact(Option.some.inj c2).symm
  have Nu:f+i<n:=by omega
  have ll:=gF h (f:=f) h1 h2 i (by omega)
  have lk:=(kY h (f:=f) h1 h2 h0).kept h.gd (f+i) (by omega) (by omega)
  rw[show f+i-f=i by omega] at lk
  have k0:=lk (f+i) Nu
  have sm:=h.sm (f+i) Nu
  have p:=h.gd.pos Nu
  have e1:=h.wf.lT Nu;have e2:=h.wf.at2 Nu
  have B1:Bd 8200 (row rows (f+i)).1:=(St.Bb h Nu).mono (by omega)
  have B2:Bd 8200 (row rows (f+i)).2:=(h.bd _ Nu).mono (by omega)
  have B3:Bd 8200 (bb sizes rows r f i).1:=(rH ll.1 lk h.sm).mono (by omega)
  have B4:Bd 8200 (bb sizes rows r f i).2:=(rB h (f:=f) h1 h2 h0 hB hb i (by omega)).mono (by omega)
  have q:=Int.ediv_le_self (aH (vf sizes) (DD rows) (f+i)) k0.1
  have q0:=Int.ediv_nonneg k0.1 (Int.le_of_lt p.1)
  have w:=u9 (A:=20) (sizes:=sizes) (a:=1) (b:=-(vf (bb sizes rows r f i).1 (f+i)/aH (vf sizes) (DD rows) (f+i))) (zJ h) B3 B4 B1 B2 (by decide) (by omega) (by decide) (by decide) (by omega) (by omega)
  refine⟨_,[some (.sh (tI sizes)),some (.sh (.lst (rows.map mk))),some (.sh (mk (bb sizes rows r f (i+1)))),some (.sh (.int (f:Int))),some (.sh (.int ((f+i:Nat):Int))),some (.sh (.int (vf (bb sizes rows r f i).1 (f+i)/aH (vf sizes) (DD rows) (f+i))))],rfl,?_,i+1,_,_,by omega,c3,rfl⟩
  dsimp? [oN,j8 (xs:=(bb sizes rows r f i).1) (i:=f+i) (by omega),qX h.wf h.hs Nu,aL (i:=vf (bb sizes rows r f i).1 (f+i)) p.1 (by omega),ny (rows:=rows) (d:=f+i) (by omega),w]
  rfl
 ·rintro env ⟨c,x4,x5,hc,Mt,rfl⟩
  have:c=n-f:=by
   have:=congrArg List.length Mt
   rw[List.length_drop,List.length_range] at this
   simp at this
   omega
  subst this
  dsimp? []
end
theorem BY(m k:Nat)(hm:m<=1000):ir [.int (m:Int),.int (k:Int)]=M.ok (tI (lO m k)):=by
 have key:bP (bW 0) none (xn (fE (aj rN (ae 0) (ae 1))) (λ_=>M.ok (.int 1)) (λ_=>M.ok (.int 0))) ((List.range m).map λ(i:Nat)=>.int (i:Int)) [none,some (.sh (.int (k:Int)))]=M.ok ((List.range m).map λ(i:Nat)=>.int (if i=k then 1 else 0)):=by
  refine gX (inj:=λ(i:Nat)=>PV.int (i:Int)) (List.range m) λi hi=>?_
  dsimp? []
  by_cases z:i=k
  ·subst z;simp only[decide_true,if_true]
  ·have z':¬ (i:Int)=(k:Int):=by omega
   simp only[z,z',decide_false,Bool.false_eq_true,if_false]
 unfold ir iF
 dsimp? [gf (n:=(m:Int)) (by omega) (by omega),Int.toNat_natCast,List.length_map,List.length_range,av (aT hm),key]
 rw[tI,lO,List.map_map];rfl
theorem p5{n:Int}(h:0<=n):Builtin.Range.rangeSize (n-1) (-1) (-1)=n:=by
 unfold Builtin.Range.rangeSize
 rw[if_neg (by decide)]
 split
 ·rw[show -(-1:Int)=1 from rfl,Int.ediv_one];omega
 ·omega
theorem CP{n:Int}(h:0<=n)(h2:n<=1000):C3 (n-1) (-1) (-1)=true:=by
 unfold C3 Builtin.Range.small
 have f:∀ x:Int,-(2^40)<x->x<2^40->Builtin.Range.rangeFitsLong x=true:=λx h1 h2=>by
  unfold Builtin.Range.rangeFitsLong
  simp only[Bool.and_eq_true,decide_eq_true_eq]
  omega
 simp only[p5 h,f (n-1) (by omega) (by omega),f (-1) (by decide) (by decide),f n (by omega) (by omega),f (n-1+n*-1) (by omega) (by omega),Bool.and_true,Bool.true_and,Bool.and_self,Bool.and_eq_true,decide_eq_true_eq]
 refine⟨by decide,?_⟩
 rw[if_neg (by decide),f (-1+(-1+1)) (by decide) (by decide),Bool.or_true]
theorem s_(k:Nat)(hk:k<=1000):yh [.int ((k:Int)-1),.int (-1),.int (-1)]=M.ok ((List.range k).map λ(i:Nat)=>.int ((k:Int)-1+(i:Int)*-1)):=by
 show cC (C3 ((k:Int)-1) (-1) (-1)=true) _=_
 rw[av (CP (by omega) (by omega)),p5 (by omega),Int.toNat_natCast]
variable{j:Nat}{idle:List (List Int)}
theorem Cu(h:j<idle.length):aQ (.lst (idle.map tI)) (.int (j:Int))=M.ok (tI (idle.getD j [])) :=
 bw (p:=.lst (idle.map tI)) rfl (by rw[List.getElem?_map,List.getElem?_eq_getElem h,List.getD_eq_getElem?_getD,List.getElem?_eq_getElem h];rfl)
theorem sG{B:Nat}{s:bI}{P:List Int}(h:w4 n m s A k idle)(hP:P.length=m)(hm:m<=8)(hk:k<=m)(hB:60<=B)(hB2:B<=8000)(hb:Bd B P):gk [tI P,.lst (idle.map tI)]=M.ok (tI (aS idle k P k)):=by
 have il:=h.len
 unfold gk gi
 dsimp? [List.length_map,il,s_ k (by omega)]
 refine eP (List.range k) (λzs env=>∃ c x2 x3,c<=k/\(List.range k).drop c=zs/\env=[some (.sh (tI (aS idle k P c))),some (.sh (.lst (idle.map tI))),x2,x3]) ⟨0,none,none,Nat.zero_le _,rfl,rfl⟩ ?_ ?_
 ·rintro i zs env ⟨c,x2,x3,hc,Mt,rfl⟩
  obtain⟨c1,c2,c3⟩:=drop_cons Mt
  rw[List.length_range] at c1
  obtain rfl:i=c:=by
   rw[List.getElem?_range c1] at c2;exact(Option.some.inj c2).symm
  have hj:k-1-i<k:=by omega
  have ej:(k:Int)-1+(i:Int)*-1=((k-1-i:Nat):Int):=by omega
  have sl:=span_len h hP i (by omega)
  have rl:=h.l2 (k-1-i) hj
  have p:=h.pos (k-1-i) hj
  have pl60:=h.le (k-1-i) hj
  have zb:=wt h hP hk hB hb i (by omega)
  have B1:Bd 8600 (aS idle k P i):=zb.mono (by omega)
  have B2:Bd 8600 (idle.getD (k-1-i) []):=(h.bd hj hk).mono (by omega)
  have q:(-(vf (aS idle k P i) (k-1-i)/vf (idle.getD (k-1-i) []) (k-1-i))).natAbs<2^8600:=by
   rw[Int.natAbs_neg]
   exact Nat.lt_of_le_of_lt (Int.natAbs_ediv_le_natAbs ..) (B1.vf _)
  have w:=oI (A:=8600) (tI (aS idle k P i)) (tI (idle.getD (k-1-i) [])) (aS idle k P i) (idle.getD (k-1-i) []) 1 (-(vf (aS idle k P i) (k-1-i)/vf (idle.getD (k-1-i) []) (k-1-i))) rfl rfl B1 B2 (Nat.one_lt_two_pow (by decide)) q (by decide) (by decide) (by omega)
  refine⟨_,[some (.sh (tI (aS idle k P (i+1)))),some (.sh (.lst (idle.map tI))),some (.sh (.int ((k-1-i:Nat):Int))),some (.sh (tI (idle.getD (k-1-i) [])))],rfl,?_,i+1,_,_,by omega,c3,rfl⟩
  rw[ej]
  dsimp? [Cu (idle:=idle) (j:=k-1-i) (by omega),j8 (xs:=aS idle k P i) (i:=k-1-i) (by omega),j8 (xs:=idle.getD (k-1-i) []) (i:=k-1-i) (by omega),aL (i:=vf (aS idle k P i) (k-1-i)) (j:=vf (idle.getD (k-1-i) []) (k-1-i)) p (by show II idle (k-1-i) (k-1-i)<2^64;omega),w]
  rfl
 ·rintro env ⟨c,x2,x3,hc,Mt,rfl⟩
  have:c=k:=by
   have:=congrArg List.length Mt
   rw[List.length_drop,List.length_range] at this
   simp at this
   omega
  subst this
  dsimp? []
variable{Ls:List (List Int)}
theorem jG(h:sizes.length<=6):gb [dN sizes Ls]=M.ok (tI (List.replicate sizes.length 0)):=by
 unfold gb ig
 dsimp? [mT (sizes:=sizes) (levers:=Ls) (g:=ae 0) (env:=[some (.sh (dN sizes Ls))]) rfl,mul_one (.int 0) sizes.length (by omega)]
 rw[tI,List.map_replicate]
theorem lY(hm:Ls.length<=8)(xs:List Int):e7 [dN sizes Ls,tI xs]=M.ok (mk (xs,List.replicate Ls.length 0)):=by
 unfold e7 gC
 dsimp? [nP (sizes:=sizes) (levers:=Ls) (g:=ae 0) (env:=[some (.sh (dN sizes Ls)),some (.sh (tI xs))]) rfl,List.length_map,mul_one (.int 0) Ls.length (by omega)]
 rw[mk,tI,tI,List.map_replicate]
theorem Cy(hm:Ls.length<=8)(hk:k<Ls.length):fg [dN sizes Ls,.int (k:Int)]=M.ok (mk (bJ Ls Ls.length k)):=by
 have e:aQ (.tup (Ls.map tI)) (.int (k:Int))=M.ok (tI (Ls.getD k [])):=bw (p:=.tup (Ls.map tI)) rfl (by rw[List.getElem?_map,List.getElem?_eq_getElem hk,List.getD_eq_getElem?_getD,List.getElem?_eq_getElem hk];rfl)
 unfold fg fc
 dsimp? [nP (sizes:=sizes) (levers:=Ls) (g:=ae 0) (env:=[some (.sh (dN sizes Ls)),some (.sh (.int (k:Int))),none]) rfl,List.length_map,e,BY Ls.length k (by omega)]
 rfl
theorem yG:∀ xs:List Int,oJ (tI xs)=true:=by
 intro xs
 have:∀ ys:List Int,la (ys.map PV.int)=true:=by
  intro ys
  induction ys with
  | nil=>rfl
  | cons a r ih=>simp[la,oJ,ih]
 exact this xs
theorem Hi(x y:PV):aQ (.tup [x,y]) (.int 0)=M.ok x:=bw (j:=0) rfl rfl
theorem G8(x y:PV):aQ (.tup [x,y]) (.int 1)=M.ok y:=bw (j:=1) rfl rfl
def lB(sizes:List Int)(rows:List Row)(n:Nat):List Row:=(List.range n).map λd=>bb sizes rows (row rows d) (d+1) (n-(d+1))
def tR(V:PV)(rows:List Row)(idle:List (List Int)):List (Str×PV):=[("vault", V),("made_rows", .lst (rows.map mk)),("idle_rows", .lst (idle.map tI))]
theorem z_(hn1:1<=sizes.length)(hn:sizes.length<=6)(hm:Ls.length<=8)(hp:∀ i,i<sizes.length->0<vf sizes i/\vf sizes i<=360)(LL:GF sizes.length Ls.length sizes Ls) :
  dy az cL [] [dN sizes Ls]=M.ok (.obj az (tR (dN sizes Ls) (lB sizes (RK cf sizes Ls sizes.length Ls.length Ls.length).1 sizes.length) (RK cf sizes Ls sizes.length Ls.length Ls.length).2)):=by
 have all:=λk hk=>yn.all (c:=cf) rfl hp LL wB hn k hk
 have key:∀ a,cL a ([dN sizes Ls]++[])=M.ok (tR (dN sizes Ls) (lB sizes (RK cf sizes Ls sizes.length Ls.length Ls.length).1 sizes.length) (RK cf sizes Ls sizes.length Ls.length Ls.length).2):=by
  intro a
  have e1:bP (bW 0) none (ai e7 (aa (ae 1) (aa (ai gb (aa (ae 1) ao)) ao))) (sizes.map PV.int) [none,some (.sh (dN sizes Ls))]=M.ok ((List.replicate sizes.length ((List.replicate sizes.length (0:Int)),(List.replicate Ls.length (0:Int)))).map mk):=by
   rw[gX (h:=λ_=>mk (List.replicate sizes.length 0,List.replicate Ls.length 0)) sizes λx _=>by dsimp? [jG (Ls:=Ls) hn,lY (sizes:=sizes) hm (List.replicate sizes.length 0)]]
   congr 1
   rw[List.map_const',List.map_replicate]
  have e2:bP (cP 0 1) none (ai eT (aa (ae 2) (aa (ae 3) (aa (ae 1) (aa (aj dF (ae 0) (λ_=>M.ok (.int 1))) ao))))) ((RK cf sizes Ls sizes.length Ls.length Ls.length).1.zipIdx.map λz=>.tup [.int (z.2:Int),mk z.1]) [none,none,some (.sh (tI sizes)),some (.sh (.lst ((RK cf sizes Ls sizes.length Ls.length Ls.length).1.map mk)))]=M.ok ((lB sizes (RK cf sizes Ls sizes.length Ls.length Ls.length).1 sizes.length).map mk):=by
   have I:=all Ls.length (Nat.le_refl _)
   generalize RK cf sizes Ls sizes.length Ls.length Ls.length=rk at *
   have rl:=I.st.wf.len
   rw[kf (p:=λz:Row×Nat=>PV.int (z.2:Int)) (q:=λz:Row×Nat=>mk z.1) (h:=λz:Row×Nat=>mk (bb sizes rk.1 z.1 (z.2+1) (sizes.length-(z.2+1)))) rk.1.zipIdx λz hz=>?_]
   ·congr 1
    rw[lB,List.map_map]
    refine List.ext_getElem (by simp[rl]) λi h1 h2=>?_
    have hi:i<rk.1.length:=by simpa using h1
    simp[eM hi]
   ·obtain⟨i,hi,e⟩:=List.mem_iff_getElem.mp hz
    rw[List.length_zipIdx] at hi
    rw[List.getElem_zipIdx] at e
    have ez:z=(row rk.1 i,i):=by rw[← e,eM hi];simp
    subst ez
    have hin:i<sizes.length:=by omega
    have:=oM (f:=i+1) (B:=150*Ls.length+1) I.st hn hm (I.st.wf.lT hin) (I.st.wf.at2 hin) (λj hj=>I.st.gd.hU i hin j hj) (Nat.le_refl _) (by omega) (I.st.bd i hin) (by omega)
    rw[show ((i+1:Nat):Int)=(i:Int)+1 by omega] at this
    dsimp? [this]
  have zl:sizes.length<=sizeLine:=aT (by omega)
  have I:=all Ls.length (Nat.le_refl _)
  have rl:=I.st.wf.len
  unfold cL iT
  simp only[qh]
  rw[av (show ([dN sizes Ls]++([]:List PV)).length+1=2 from rfl)]
  simp only[xF,xM]
  dsimp? [mT (sizes:=sizes) (levers:=Ls) (g:=ae 1) (env:=[some (.bd a az []),some (.sh (dN sizes Ls)),none,none,none,none,none]) rfl,List.length_map,av zl,e1,jC,nP (sizes:=sizes) (levers:=Ls) (g:=ae 1) (env:=[some (.bd a az []),some (.sh (dN sizes Ls)),some (.sh (tI sizes)),some (.sh (.lst ((List.replicate sizes.length ((List.replicate sizes.length (0:Int)),(List.replicate Ls.length (0:Int)))).map mk))),some (.ow []),none,none]) rfl,gf (n:=(Ls.length:Int)) (by omega) (by omega),Int.toNat_natCast]
  refine eP (List.range Ls.length) (λzs env=>∃ k x5 x6,k<=Ls.length/\(List.range Ls.length).drop k=zs/\env=[some (.bd a az []),some (.sh (dN sizes Ls)),some (.sh (tI sizes)),some (.sh (.lst ((RK cf sizes Ls sizes.length Ls.length k).1.map mk))),some (.ow ((RK cf sizes Ls sizes.length Ls.length k).2.map tI)),x5,x6]) ⟨0,none,none,Nat.zero_le _,rfl,rfl⟩ ?_ ?_
  ·rintro i zs env ⟨k,x5,x6,hk,Mt,rfl⟩
   obtain⟨c1,c2,c3⟩:=drop_cons Mt
   rw[List.length_range] at c1
   obtain rfl:i=k:=by
    rw[List.getElem?_range c1] at c2;exact(Option.some.inj c2).symm
   have J:=all i hk
   have L:Lv sizes.length Ls.length sizes (AA Ls) i (bJ Ls Ls.length i):=⟨LL.at_ i c1,by simp[bJ,lO],c1,λj hj=>rfl,LL.hU i c1,λl hl=>tD hl⟩
   have tk:=yv J.st L hn hm
   have ll:=cN (c:=cf) J.st.wf J.st.hs L.l1 L.l2 sizes.length (Nat.le_refl _)
   have lb:=mO (c:=cf) J.st L hn sizes.length (Nat.le_refl _)
   have sp:=sG (B:=1400) J.mK ll.2 hm (by omega) (by decide) (by decide) (lb.mono (by omega))
   have il:=J.mK.len
   refine⟨_,[some (.bd a az []),some (.sh (dN sizes Ls)),some (.sh (tI sizes)),some (.sh (.lst ((RK cf sizes Ls sizes.length Ls.length (i+1)).1.map mk))),some (.ow ((RK cf sizes Ls sizes.length Ls.length (i+1)).2.map tI)),some (.sh (.int (i:Int))),some (.sh (.tup [.lst ((cA cf sizes (RK cf sizes Ls sizes.length Ls.length i).1 (bJ Ls Ls.length i) sizes.length).map mk),tI (aB cf sizes (RK cf sizes Ls sizes.length Ls.length i).1 (bJ Ls Ls.length i) sizes.length).2]))],rfl,?_,i+1,_,_,by omega,c3,rfl⟩
   dsimp? [Cy (sizes:=sizes) hm c1,tk,Hi]
   rw[wm (i:=4) rfl (p:=tI (aS (RK cf sizes Ls sizes.length Ls.length i).2 i (aB cf sizes (RK cf sizes Ls sizes.length Ls.length i).1 (bJ Ls Ls.length i) sizes.length).2 i)) (by
    dsimp? [uc,ownAt,G8,sp]
    exact av (yG _)) (by simp[il];omega)]
   dsimp? [RK,List.map_append]
  ·rintro env ⟨k,x5,x6,hk,Mt,rfl⟩
   have:k=Ls.length:=by
    have:=congrArg List.length Mt
    rw[List.length_drop,List.length_range] at this
    simp at this
    omega
   subst this
   dsimp? [ki]
   rw[iK _ _ _ _ _ _ (by simp)]
   dsimp? [ki,mS,List.length_map,List.length_zipIdx,rl,av zl,e2]
   rw[iK _ _ _ _ _ _ (Nat.lt_of_le_of_lt (iD (Nat.zero_le 0)) (by decide))]
   dsimp? [ki]
   rw[iK _ _ _ _ _ _ (Nat.lt_of_le_of_lt (iD (iD (Nat.zero_le 0))) (by decide))]
   dsimp? []
   show cC _ _=_
   rw[av ⟨rfl,rfl⟩]
   rfl
 unfold dy
 rw[zk key];rfl
theorem kB(h:d<n):row (lB sizes rows n) d=bb sizes rows (row rows d) (d+1) (n-(d+1)):=by
 rw[eM (by simp[lB,h])];simp[lB]
theorem F9(h:St n m sizes A m rows)(hn:n<=6)(hA:∀ i,A m i=0):St n m sizes A (m+1) (lB sizes rows n):=by
 have hl:∀ d,d<n->(bb sizes rows (row rows d) (d+1) (n-(d+1))).1.length=n/\(bb sizes rows (row rows d) (d+1) (n-(d+1))).2.length=m:=λd hd=>gF h (h.wf.lT hd) (h.wf.at2 hd) _ (by omega)
 have lg:=sF (D':=DD (lB sizes rows n)) h.gd (λd e=>vf (bb sizes rows (row rows d) (d+1) (e-(d+1))).1) (λd hd=>kY h (h.wf.lT hd) (h.wf.at2 hd) λi hi=>h.gd.hU d hd i hi) (λd hd i hi=>by
  show vf (bb sizes rows (row rows d) (d+1) (d+1-(d+1))).1 i=_
  rw[Nat.sub_self];rfl) λd hd i hi=>by
  unfold DD;rw[kB hd]
 refine⟨⟨by simp[lB],λr hr=>?_,λr hr=>?_⟩,h.hs,h.sm,lg.1,λd hd=>?_,λd hd l h1 h2=>by omega,λd hd=>?_,λl hl=>?_⟩
 ·obtain⟨d,hd,rfl⟩:=List.mem_map.mp hr
  exact(hl d (List.mem_range.mp hd)).1
 ·obtain⟨d,hd,rfl⟩:=List.mem_map.mp hr
  exact(hl d (List.mem_range.mp hd)).2
 ·unfold DD PP
  rw[kB hd]
  have:=qU h (f:=d+1) (h.wf.lT hd) (h.wf.at2 hd) (P₀:=λ_=>0) (B:=λ_=>0) (by
   have q:=h.led d hd
   intro i hi
   have:=q i hi
   simp only[Int.sub_zero];exact this) (n-(d+1)) (by omega)
  intro i hi
  have:=this i hi
  simp only[Int.sub_zero] at this
  exact this
 ·rw[kB hd]
  exact(rB h (f:=d+1) (h.wf.lT hd) (h.wf.at2 hd) (λi hi=>h.gd.hU d hd i hi) (Nat.le_refl _) (h.bd d hd) (n-(d+1)) (by omega)).mono (by omega)
 ·rcases Nat.lt_or_ge l m with q | q
  ·exact lg.2.2.2.2 n 0 (by omega) _ (h.cl l q)
  ·obtain rfl:l=m:=by omega
   exact G.ext (by omega) (λi _=>(hA i).symm) (G.zero (by omega))
def jf(sizes:List Int)(Ls:List (List Int))(R:List Row)(idle:List (List Int)):PV:=.obj az (tR (dN sizes Ls) R idle)
section
variable{R:List Row}
theorem GV:(tR (dN sizes Ls) R idle).lookup (Str.ofString "vault")=some (dN sizes Ls):=rfl
theorem HB:(tR (dN sizes Ls) R idle).lookup (Str.ofString "made_rows")=some (.lst (R.map mk)):=rfl
theorem Jb:(tR (dN sizes Ls) R idle).lookup (Str.ofString "idle_rows")=some (.lst (idle.map tI)):=rfl
theorem IU:(tR (dN sizes Ls) R idle).lookup (Str.ofString "brought_down")=none:=rfl
theorem IX{g:af->M PV}{env:af}(h:g env=M.ok (jf sizes Ls R idle)):dX (λc=>c==az) "vault" g env=M.ok (dN sizes Ls):=by
 rw[dX,h,M.aE]
 show cC _ (eZ (List.lookup _ _))=_
 rw[av (beq_self_eq_true _),GV];rfl
theorem Ki{g:af->M PV}{env:af}(h:g env=M.ok (jf sizes Ls R idle)):dX (λc=>c==az) "made_rows" g env=M.ok (.lst (R.map mk)):=by
 rw[dX,h,M.aE]
 show cC _ (eZ (List.lookup _ _))=_
 rw[av (beq_self_eq_true _),HB];rfl
theorem J8{g:af->M PV}{env:af}(h:g env=M.ok (jf sizes Ls R idle)):dX (λc=>c==az) "idle_rows" g env=M.ok (.lst (idle.map tI)):=by
 rw[dX,h,M.aE]
 show cC _ (eZ (List.lookup _ _))=_
 rw[av (beq_self_eq_true _),Jb];rfl
theorem vK(S:Sz sizes)(hm:Ls.length<=8)(h:St sizes.length Ls.length sizes A k R)(hk:k<=9)(hx:Bj sizes xs)(h0:∀ i,i<sizes.length->0<=vf xs i/\vf xs i<vf sizes i) :
  bH [jf sizes Ls R idle,tI xs]=M.ok (mk (bb sizes R (xs,List.replicate Ls.length 0) 0 sizes.length)):=by
 have lo:=oM (f:=0) (B:=150*k+1) (r:=(xs,List.replicate Ls.length 0)) h S.h6 hm hx.len (by simp) h0 (Nat.le_refl _) (by omega) (λx hx=>by rw[List.eq_of_mem_replicate hx];exact Nat.two_pow_pos _) (Nat.zero_le _)
 rw[Nat.sub_zero] at lo
 unfold bH cu
 dsimp? [IX (sizes:=sizes) (Ls:=Ls) (R:=R) (idle:=idle) (g:=ae 0) (env:=[some (.sh (jf sizes Ls R idle)),some (.sh (tI xs))]) rfl,Ki (sizes:=sizes) (Ls:=Ls) (R:=R) (idle:=idle) (g:=ae 0) (env:=[some (.sh (jf sizes Ls R idle)),some (.sh (tI xs))]) rfl,qV (levers:=Ls) S hx,lY (sizes:=sizes) hm xs,mT (sizes:=sizes) (levers:=Ls) (g:=dX (λc=>c==az) "vault" (ae 0)) (env:=[some (.sh (jf sizes Ls R idle)),some (.sh (tI xs))]) (IX (R:=R) (idle:=idle) rfl),show eT [tI sizes,.lst (R.map mk),mk (xs,List.replicate Ls.length 0),.int 0]=_ from lo]
end
def n_(xs:List Int):List Int:=xs.map λx=>-x
theorem EN(xs:List Int)(i:Nat):vf (n_ xs) i=-vf xs i:=by
 rcases Nat.lt_or_ge i xs.length with h | h
 ·rw[bc (by simpa [n_] using h),bc h];simp[n_]
 ·rw[nV (by simpa [n_] using h),nV h];rfl
theorem EK{B:Nat}(h:Bd B xs):Bd B (n_ xs):=λx hx=>by
 obtain⟨y,hy,rfl⟩:=List.mem_map.mp hx
 rw[Int.natAbs_neg];exact h y hy
section
variable{R:List Row}
def told(sizes:List Int)(Ls:List (List Int))(R:List Row)(idle:List (List Int))(xs:List Int):List Int:=aS idle Ls.length (n_ (bb sizes R (xs,List.replicate Ls.length 0) 0 sizes.length).2) Ls.length
theorem zC(S:Sz sizes)(hm:Ls.length<=8)(h:St sizes.length Ls.length sizes A k R)(hk:k<=9)(I:w4 sizes.length Ls.length (vf sizes) A Ls.length idle)(hx:Bj sizes xs)(h0:∀ i,i<sizes.length->0<=vf xs i/\vf xs i<vf sizes i)(hg:G sizes.length (vf sizes) (DD R) sizes.length 0 (vf xs)) :
  bQ [jf sizes Ls R idle,tI xs]=M.ok (tI (told sizes Ls R idle xs))/\(told sizes Ls R idle xs).length=Ls.length/\Led sizes.length (vf sizes) Ls.length A (vf xs) (vf (told sizes Ls R idle xs))/\∀ l,l<Ls.length->0<=vf (told sizes Ls R idle xs) l/\vf (told sizes Ls R idle xs) l<II idle l l:=by
 have l6:=S.h6
 have r2:(List.replicate Ls.length (0:Int)).length=Ls.length:=by simp
 have ll:=gF h (f:=0) (r:=(xs,List.replicate Ls.length 0)) hx.len r2 sizes.length (by omega)
 have dn:=kY h (f:=0) (r:=(xs,List.replicate Ls.length 0)) hx.len r2 h0
 have z:=dn.run h.gd sizes.length 0 (Nat.le_refl _) (by omega) (by rw[Nat.sub_self];exact hg)
 rw[Nat.sub_zero] at z
 have nz:(bb sizes R (xs,List.replicate Ls.length 0) 0 sizes.length).1=List.replicate sizes.length 0:=qR (by rw[ll.1];simp) λi hi=>by rw[z i (by omega),eV]
 have b:=rB h (f:=0) (B:=150*k+1) (r:=(xs,List.replicate Ls.length 0)) hx.len r2 h0 (Nat.le_refl _) (λx hx=>by rw[List.eq_of_mem_replicate hx];exact Nat.two_pow_pos _) sizes.length (by omega)
 have nl:(n_ (bb sizes R (xs,List.replicate Ls.length 0) 0 sizes.length).2).length=Ls.length:=by rw[n_,List.length_map];exact ll.2
 have sp:=sG (B:=1500) I nl hm (Nat.le_refl _) (by decide) (by decide) (EK (b.mono (by omega)))
 have led:=qU h (f:=0) (r:=(xs,List.replicate Ls.length 0)) hx.len r2 (P₀:=λ_=>0) (B:=vf xs) (by
  intro i hi
  rw[bp (g:=λ_=>0) λl hl=>by
   show (vf (List.replicate Ls.length 0) l-0)*A l i=0
   rw[eV];simp,dr]
  show vf sizes i∣vf xs i-vf xs i-0
  rw[Int.sub_self];exact Int.dvd_zero _) sizes.length (by omega)
 have led2:Led sizes.length (vf sizes) Ls.length A (vf xs) (vf (n_ (bb sizes R (xs,List.replicate Ls.length 0) 0 sizes.length).2)):=by
  refine Led.mix (a:=-1) (b:=0) led led (λi hi=>?_) λl hl=>?_
  ·rw[z i hi]
   exact⟨0,by omega⟩
  ·rw[EN];omega
 refine⟨?_,span_len I nl _ (Nat.le_refl _),om I nl led2 _ (Nat.le_refl _),λl hl=>rj I nl (Nat.le_refl _) _ (Nat.le_refl _) l (by omega) hl⟩
 have dk:=vK (idle:=idle) S hm h hk hx h0
 have md:∀ y,bh az "brought_down" bH (ae 0) (aa (ae 1) ao) [some (.sh (jf sizes Ls R idle)),some (.sh (tI xs)),y]=M.ok (mk (bb sizes R (xs,List.replicate Ls.length 0) 0 sizes.length)):=λy=>by
  show M.bind (M.ok (jf sizes Ls R idle)) _=_
  rw[M.aE]
  show cC _ (M.bind (M.ok [tI xs]) _)=_
  rw[av ⟨rfl,IU⟩,M.aE]
  exact dk
 have cm:bP (bW 0) none (jP (ae 0)) ((bb sizes R (xs,List.replicate Ls.length 0) 0 sizes.length).2.map PV.int) [none]=M.ok ((bb sizes R (xs,List.replicate Ls.length 0) 0 sizes.length).2.map λx=>.int (-x)):=gX _ λx _=>by dsimp? []
 have lz:(bb sizes R (xs,List.replicate Ls.length 0) 0 sizes.length).2.length<=sizeLine:=by rw[ll.2];exact aT (by omega)
 have en:PV.tup ((bb sizes R (xs,List.replicate Ls.length 0) 0 sizes.length).2.map λx=>PV.int (-x))=tI (n_ (bb sizes R (xs,List.replicate Ls.length 0) 0 sizes.length).2):=by rw[tI,n_,List.map_map];rfl
 unfold bQ cH
 dsimp? [md,oN,yD,IX (sizes:=sizes) (Ls:=Ls) (R:=R) (idle:=idle) (g:=ae 0) (env:=[some (.sh (jf sizes Ls R idle)),some (.sh (tI xs)),some (.sh (mk (bb sizes R (xs,List.replicate Ls.length 0) 0 sizes.length)))]) rfl,jG (Ls:=Ls) l6,nz,qZ,decide_true,J8 (sizes:=sizes) (Ls:=Ls) (R:=R) (idle:=idle) (g:=ae 0) (env:=[some (.sh (jf sizes Ls R idle)),some (.sh (tI xs)),some (.sh (mk (bb sizes R (xs,List.replicate Ls.length 0) 0 sizes.length)))]) rfl,List.length_map,av lz,cm,en,sp]
 rfl
end
def oQ(sizes xs ys:List Int)(t:Int):List Int:=(xs.zip (ys.zip sizes)).map λz=>(z.1+t*z.2.1)%z.2.2
variable{t:Int}
theorem tQ(h1:xs.length=sizes.length)(h2:ys.length=sizes.length):(oQ sizes xs ys t).length=sizes.length:=by
 simp[oQ];omega
theorem Ai(h1:xs.length=sizes.length)(h2:ys.length=sizes.length)(hi:i<sizes.length):vf (oQ sizes xs ys t) i=(vf xs i+t*vf ys i)%vf sizes i:=by
 rw[bc (by rw[tQ h1 h2];exact hi),bc (by omega),bc (by omega),bc hi]
 simp[oQ]
theorem sJ(p:PV)(n:Nat)(h8:n<=1000):ck (.lst [p]) (.int (n:Int))=M.ok (.lst (List.replicate n p)):=by
 have h2:[p].length*(n:Int).toNat<=sizeLine:=by
  rw[Int.toNat_natCast]
  exact aT (by show 1*n<=1000;omega)
 have h3:(n:Int)<2^63:=Int.lt_of_le_of_lt (Int.ofNat_le.mpr h8) (by decide)
 have h4:-(2^63)<=(n:Int):=Int.le_trans (by decide) (Int.natCast_nonneg n)
 rw[ck,av ⟨h4,h3,h2⟩,Int.toNat_natCast,nq]
theorem Bt(h:b∈List.replicate n a):b=a:=List.eq_of_mem_replicate h
theorem pick(l:List Int)(c:Int)(n:Nat)(hn:l.length=n)(h0:0<n):∃ x,x∈l/\aQ (.lst (l.map PV.int)) (.int (c%(n:Int)))=M.ok (.int x):=by
 have h1:0<=c%(n:Int):=Int.emod_nonneg _ (by omega)
 have h2:c%(n:Int)<n:=Int.emod_lt_of_pos _ (by omega)
 obtain⟨j,hj⟩:=Int.eq_ofNat_of_zero_le h1
 have hj':j<l.length:=by omega
 refine⟨l[j],List.getElem_mem _,?_⟩
 rw[hj]
 exact bw (p:=.lst (l.map PV.int)) (j:=j) rfl (by rw[List.getElem?_map,List.getElem?_eq_getElem hj'];rfl)
theorem two{c:Int}:c%2=0\/c%2=1:=by omega
theorem yU(h:i<xs.length):aQ (lI xs) (.int (i:Int))=M.ok (.int (vf xs i)) :=
 bw (p:=lI xs) rfl (by rw[List.getElem?_map,List.getElem?_eq_getElem h,bc h];rfl)
variable{l:Nat}
theorem getD_at{β:Type}(f:α->β){xs:List α}{a:α}{b:β}(h:l<xs.length):(xs.map f).getD l b=f (xs.getD l a):=by
 rw[List.getD_eq_getElem?_getD,List.getD_eq_getElem?_getD,List.getElem?_map,List.getElem?_eq_getElem h];rfl
theorem getD_mem{xs:List α}{a:α}(h:l<xs.length):xs.getD l a∈xs:=by
 rw[List.getD_eq_getElem?_getD,List.getElem?_eq_getElem h];exact List.getElem_mem h
variable{raw:List (List Int)}
theorem A9(S:Sz sizes)(hr:∀ l∈raw,l.length=sizes.length/\Bd 200 l):GF sizes.length raw.length sizes (raw.map λl=>vy l sizes)/\∀ l,l<raw.length->∀ i,i<sizes.length->AA (raw.map λl=>vy l sizes) l i=vf (raw.getD l []) i%vf sizes i:=by
 have e:∀ l,l<raw.length->∀ i,i<sizes.length->AA (raw.map λl=>vy l sizes) l i=vf (raw.getD l []) i%vf sizes i:=λl hl i hi=>by
  unfold AA
  rw[getD_at (a:=[]) _ hl,AI,jh (by rw[(hr _ (getD_mem hl)).1];exact hi) hi]
 refine⟨⟨by simp,λl hl=>?_,λl hl i hi=>?_⟩,e⟩
 ·rw[getD_at (a:=[]) _ hl,AI,jo,(hr _ (getD_mem hl)).1];omega
 ·rw[e l hl i hi]
  have:=S.hx _ (List.getElem_mem hi)
  rw[← bc hi] at this
  exact⟨Int.emod_nonneg _ (by omega),Int.emod_lt_of_pos _ (by omega)⟩
theorem kE(S:Sz sizes):∀ i,i<sizes.length->0<vf sizes i/\vf sizes i<=360:=λi hi=>by
 have:=S.hx _ (List.getElem_mem hi)
 rw[← bc hi] at this
 omega
theorem qy(h:xs.length=sizes.length)(h0:∀ i,i<sizes.length->0<=vf xs i/\vf xs i<vf sizes i):Bj sizes xs:=⟨h,λz hz=>by
 obtain⟨i,hi,rfl⟩:=List.mem_iff_getElem.mp hz
 rw[List.length_zip] at hi
 have:=h0 i (by omega)
 rw[bc (by omega),bc (by omega)] at this
 simpa using this⟩
def jW(ns:List Int)(a b:Nat):List Int:=(ns.drop (HT.de ns.length 0 (some (a:Int)))).take (HT.de ns.length ns.length (some (b:Int))-HT.de ns.length 0 (some (a:Int)))
theorem vS(ns:List Int)(a b:Nat):HL (.iU (ns.map PV.int)) (some (a:Int)) (some (b:Int))=M.ok (.lst ((jW ns a b).map PV.int)):=by
 show M.ok (PV.lst (oU (ns.map PV.int) _ _))=_
 rw[oU,jW,List.map_take,List.map_drop,List.length_map]
theorem wG(ns:List Int)(a b:Nat):(jW ns a b).length<=b-a:=by
 unfold jW
 rw[List.length_take,List.length_drop,HT.v8,HT.v8]
 omega
theorem vm{z:Int×Nat}(h:z∈xs.zipIdx):z.2<xs.length:=by
 obtain⟨i,hi,rfl⟩:=List.mem_iff_getElem.mp h
 simp at hi ⊢;exact hi
theorem Fn(Ls:List (List Int))(i:Nat):AA Ls Ls.length i=0:=by
 unfold AA
 rw[List.getD_eq_getElem?_getD,List.getElem?_eq_none (Nat.le_refl _)]
 exact nV (Nat.zero_le _)
section
variable{R:List Row}
theorem uH{m:Str}{sem:List PV->M PV}{x:M (List PV)}(h:(tR (dN sizes Ls) R idle).lookup m=none):pO az m sem (jf sizes Ls R idle) x=x.bind λps=>sem (jf sizes Ls R idle::ps):=jv h
theorem Ic:CU (λc=>c==az) "vault" (jf sizes Ls R idle)=M.ok (dN sizes Ls):=sY (beq_self_eq_true _) GV
theorem IM:CU (λc=>c==az) "made_rows" (jf sizes Ls R idle)=M.ok (.lst (R.map mk)):=sY (beq_self_eq_true _) HB
theorem Gz:pO aq "sizes" aJ (dN sizes Ls) (M.ok [])=M.ok (tI sizes):=(jv (fl:=oo sizes Ls) rfl).trans (tm sizes Ls)
def lst(sizes:List Int)(Ls:List (List Int))(R:List Row)(xs:List Int):List Int:=(bb sizes R (xs,List.replicate Ls.length 0) 0 sizes.length).1
theorem pT(h:St sizes.length Ls.length sizes A k R)(hl:xs.length=sizes.length)(h0:∀ i,i<sizes.length->0<=vf xs i/\vf xs i<vf sizes i) :
  (lst sizes Ls R xs).length=sizes.length/\(∀ i,i<sizes.length->0<=vf (lst sizes Ls R xs) i/\vf (lst sizes Ls R xs) i<aH (vf sizes) (DD R) i)/\(∀ i,i<sizes.length->0<=vf (lst sizes Ls R xs) i/\vf (lst sizes Ls R xs) i<vf sizes i)/\G sizes.length (vf sizes) (DD R) sizes.length 0 (λi=>vf xs i-vf (lst sizes Ls R xs) i):=by
 have r2:(List.replicate Ls.length (0:Int)).length=Ls.length:=by simp
 have ll:=gF h (f:=0) (r:=(xs,List.replicate Ls.length 0)) hl r2 sizes.length (by omega)
 have dn:=kY h (f:=0) (r:=(xs,List.replicate Ls.length 0)) hl r2 h0
 exact⟨ll.1,λi hi=>dn.low h.gd sizes.length (Nat.zero_le _) (Nat.le_refl _) i (Nat.zero_le _) hi,λi hi=>dn.kept h.gd sizes.length (Nat.zero_le _) (Nat.le_refl _) i hi,dn.away h.gd sizes.length (Nat.zero_le _) (Nat.le_refl _) sizes.length (by omega)⟩
def i8(sizes:List Int)(R:List Row):List Int:=(List.range sizes.length).map λd=>aH (vf sizes) (DD R) d
theorem dG:(i8 sizes R).length=sizes.length:=by simp[i8]
theorem mF(h:i<sizes.length):vf (i8 sizes R) i=aH (vf sizes) (DD R) i:=by
 rw[bc (by rw[dG];exact h)];simp[i8]
theorem je(S:Sz sizes)(h:St sizes.length Ls.length sizes A k R):bO [jf sizes Ls R idle]=M.ok (tI (i8 sizes R)):=by
 have l6:=S.h6
 have key:bP (bW 0) none (ai cX (aa (ae 2) (aa (dX (λc=>c==az) "made_rows" (ae 1)) (aa (ae 0) ao)))) ((List.range sizes.length).map λ(i:Nat)=>.int (i:Int)) [none,some (.sh (jf sizes Ls R idle)),some (.sh (tI sizes))]=M.ok ((List.range sizes.length).map λd=>.int (aH (vf sizes) (DD R) d)):=by
  refine gX (inj:=λ(i:Nat)=>PV.int (i:Int)) (List.range sizes.length) λi hi=>?_
  dsimp? [jw,IM,qX h.wf h.hs (List.mem_range.mp hi)]
 unfold bO dE
 dsimp? [jw,Ic,b_,Gz,gf (n:=(sizes.length:Int)) (by omega) (by omega),Int.toNat_natCast,List.length_map,List.length_range,av (aT (show sizes.length<=1000 by omega)),key]
 rw[tI,i8,List.map_map];rfl
theorem za(S:Sz sizes)(hm:Ls.length<=8)(h:St sizes.length Ls.length sizes A k R)(hk:k<=9)(hl:xs.length=sizes.length)(h0:∀ i,i<sizes.length->0<=vf xs i/\vf xs i<vf sizes i)(hn:lst sizes Ls R xs≠List.replicate sizes.length 0) :
  bQ [jf sizes Ls R idle,tI xs]=M.ok .cy:=by
 have dk:=vK (idle:=idle) S hm h hk (qy hl h0) h0
 unfold bQ cH
 dsimp? [b_,uH (m := "brought_down") rfl,dk,oN,jw,Ic,jG (Ls:=Ls) S.h6,qZ]
 simp only[show ¬ (bb sizes R (xs,List.replicate Ls.length 0) 0 sizes.length).1=List.replicate sizes.length 0 from hn,decide_false]
 dsimp? []
end
section
variable{R:List Row}
theorem zO(S:Sz sizes):∀ i,i<sizes.length->0<=vf (List.replicate sizes.length 0) i/\vf (List.replicate sizes.length 0) i<vf sizes i:=λi hi=>by rw[eV];have:=kE S i hi;omega
theorem vx(S:Sz sizes){F:List Int}(h:F.length=sizes.length)(k:∀ i,i<sizes.length->0<=vf F i/\vf F i<vf sizes i):Bd 200 F:=λx hx=>by
 obtain⟨i,hi,rfl⟩:=List.mem_iff_getElem.mp hx
 have h2:=k i (by omega)
 rw[bc hi] at h2
 have:=kE S i (by omega)
 omega
theorem vv(S:Sz sizes)(h1:xs.length=sizes.length)(h2:ys.length=sizes.length):(oQ sizes xs ys t).length=sizes.length/\(∀ i,i<sizes.length->0<=vf (oQ sizes xs ys t) i/\vf (oQ sizes xs ys t) i<vf sizes i)/\∀ i,i<sizes.length->vf sizes i∣vf (oQ sizes xs ys t) i-(vf xs i+t*vf ys i) :=
 ⟨tQ h1 h2,λi hi=>by
  rw[Ai h1 h2 hi]
  have:=kE S i hi
  exact⟨Int.emod_nonneg _ (by omega),Int.emod_lt_of_pos _ (by omega)⟩,λi hi=>by rw[Ai h1 h2 hi];exact cY _ _⟩
structure gz (ns:List Int) (sizes:List Int) (raw Ls:List (List Int)) (R:List Row) (idle:List (List Int)):Prop where
 S:Sz sizes
 hr:∀ l∈raw,l.length=sizes.length/\Bd 200 l
 eL:Ls=raw.map λl=>vy l sizes
 hm:raw.length=Ls.length
 m8:Ls.length<=8
 eA:∀ l,l<raw.length->∀ i,i<sizes.length->AA Ls l i=vf (raw.getD l []) i%vf sizes i
 LL:GF sizes.length Ls.length sizes Ls
 st:St sizes.length Ls.length sizes (AA Ls) (Ls.length+1) R
 I:w4 sizes.length Ls.length (vf sizes) (AA Ls) Ls.length idle
 pr:aA Ls.length (λj=>II idle j j)*aA sizes.length (aH (vf sizes) (DD R))=aA sizes.length (vf sizes)
 ord:∀ j,j<Ls.length->∀ P:bI,Zf (j+1) Ls.length P->Led sizes.length (vf sizes) Ls.length (AA Ls) (λ_=>0) P->II idle j j∣P j
 low:∀ d,d<sizes.length->∀ e,d<e->e<sizes.length->DD R d e<aH (vf sizes) (DD R) e
 nul:∀ d,d<sizes.length->DD R d d=0->∀ i,i<sizes.length->DD R d i=0
 Bk:∀ {p:PV} {f:List Int->PV},(f=tI\/f=lI)->bR p=some (sizes.map PV.int)->dy aq cv [.cy] [p,.lst (raw.map f)]=M.ok (dN sizes Ls)
 DB:dy az cL [] [dN sizes Ls]=M.ok (jf sizes Ls R idle)
theorem gz.get(ns:List Int)(S:Sz sizes)(r8:raw.length<=8)(hr:∀ l∈raw,l.length=sizes.length/\Bd 200 l):∃ Ls R idle,gz ns sizes raw Ls R idle:=by
 have l6:=S.h6
 have sp:=kE S
 obtain⟨LL,eA⟩:=A9 S hr
 have Bk:=λ{p:PV} {f:List Int->PV} (hf:f=tI\/f=lI) hp=>Bq (p:=p) hf sizes raw hp S r8 λl h=>(hr l h).1
 have hm:raw.length=(raw.map λl=>vy l sizes).length:=by simp
 generalize hLs:(raw.map λl=>vy l sizes)=Ls at *
 rw[hm] at LL r8
 have K:=yn.all (c:=cf) rfl sp LL wB l6 Ls.length (Nat.le_refl _)
 have DB:=z_ S.h1 l6 r8 sp LL
 generalize RK cf sizes Ls sizes.length Ls.length Ls.length=rk at *
 have h:=K.st
 have hl:∀ d,d<sizes.length->(bb sizes rk.1 (row rk.1 d) (d+1) (sizes.length-(d+1))).1.length=sizes.length:=λd hd=>(gF h (h.wf.lT hd) (h.wf.at2 hd) _ (by omega)).1
 have lg:=sF (D':=DD (lB sizes rk.1 sizes.length)) h.gd (λd e=>vf (bb sizes rk.1 (row rk.1 d) (d+1) (e-(d+1))).1) (λd hd=>kY h (h.wf.lT hd) (h.wf.at2 hd) λi hi=>h.gd.hU d hd i hi) (λd hd i hi=>by
  show vf (bb sizes rk.1 (row rk.1 d) (d+1) (d+1-(d+1))).1 i=_
  rw[Nat.sub_self];rfl) (λd hd i hi=>by unfold DD;rw[kB hd])
 refine⟨Ls,lB sizes rk.1 sizes.length,rk.2,S,hr,hLs.symm,hm,r8,eA,LL,F9 K.st l6 (Fn Ls),K.mK,?_,K.ord,?_,?_,Bk,DB⟩
 ·rw[bX (f:=aH (vf sizes) (DD (lB sizes rk.1 sizes.length))) (g:=aH (vf sizes) (DD rk.1)) lg.2.1]
  exact K.pr
 ·intro d hd e h1 h2
  rw[lg.2.1 e h2]
  exact lg.2.2.1 d hd e h1 h2
 ·exact lg.2.2.2.1
end
theorem yd(sizes:List Int)(levers:List (List Int)):cF [dN sizes levers]=M.ok (.int (R sizes)):=by
 unfold cF c8
 dsimp? [dX,dN,beq_self_eq_true,A5]
theorem J3:pO aq "around" cF (dN sizes Ls) (M.ok [])=M.ok (.int (R sizes)):=(jv (fl:=oo sizes Ls) rfl).trans (yd sizes Ls)
def Ij(sizes ws xs:List Int):Int:=((((ws.zip sizes).map λz=>z.1*(R sizes/z.2)).zip xs).map λz=>z.1*z.2).sum%R sizes
theorem uk(h:Sz sizes){s:Int}(hs:s∈sizes):0<=R sizes/s/\R sizes/s<2^60:=by
 have h1:=uh h;have h2:=GJ h;have h3:=h.hx s hs
 refine⟨Int.ediv_nonneg (by omega) (by omega),Int.lt_of_le_of_lt (Int.ediv_le_self s (by omega)) h2⟩
theorem zQ(h:Sz sizes){w s:Int}(hw:0<=w/\w<360)(hs:s∈sizes):(w*(R sizes/s)).natAbs<2^80:=by
 have h1:=uk h hs
 rw[Int.natAbs_mul]
 have:w.natAbs*(R sizes/s).natAbs<=2^9*2^60:=Nat.mul_le_mul (by omega) (by omega)
 exact Nat.lt_of_le_of_lt this (by decide)
theorem As(h:Sz sizes){ws:List Int}(hw:Bj sizes ws)(hs:Bj sizes xs):mG [dN sizes levers,tI ws,tI xs]=M.ok (.int (Ij sizes ws xs)):=by
 have l6:=h.h6
 have k1:bP (cP 0 1) none (aj ck (ae 0) (aj bB (ae 2) (ae 1))) ((ws.zip sizes).map λz=>.tup [.int z.1,.int z.2]) [none,none,some (.sh (.int (R sizes)))]=M.ok ((ws.zip sizes).map λz=>.int (z.1*(R sizes/z.2))):=by
  refine kf (p:=λz:Int×Int=>PV.int z.1) (q:=λz:Int×Int=>PV.int z.2) (ws.zip sizes) λz hz=>?_
  obtain⟨m1,m2⟩:=mQ hz
  have a1:=h.hx z.2 m2;have a2:=qm h hw m1;have a3:=uk h m2
  dsimp? [aL (i:=R sizes) (show 0<z.2 by omega) (show z.2<2^64 by omega),bj (k:=64) (l:=64) (show z.1.natAbs<2^64 by omega) (show (R sizes/z.2).natAbs<2^64 by omega)]
 have z1:(ws.zip sizes).length<=sizeLine:=by rw[List.length_zip];exact aT (Nat.le_trans (Nat.min_le_right _ _) (by omega))
 let us:=(ws.zip sizes).map λz=>z.1*(R sizes/z.2)
 have k2:bP (cP 0 1) none (aj ck (ae 0) (ae 1)) ((us.zip xs).map λz=>.tup [.int z.1,.int z.2]) [none,none]=M.ok ((us.zip xs).map λz=>.int (z.1*z.2)):=by
  refine kf (p:=λz:Int×Int=>PV.int z.1) (q:=λz:Int×Int=>PV.int z.2) (us.zip xs) λz hz=>?_
  obtain⟨m1,m2⟩:=mQ hz
  obtain⟨y,hy,e⟩:=List.mem_map.mp m1
  obtain⟨n1,n2⟩:=mQ hy
  have a1:=zQ h (qm h hw n1) n2
  rw[e] at a1
  have a2:=qm h hs m2
  dsimp? [bj (k:=80) (l:=64) a1 (show z.2.natAbs<2^64 by omega)]
 have z2:(us.zip xs).length<=sizeLine:=by rw[List.length_zip];exact aT (Nat.le_trans (Nat.min_le_right _ _) (by rw[hs.len];omega))
 have k3:iw [.lst ((ws.zip sizes).map λz=>.int (z.1*(R sizes/z.2))),tI xs,.int (R sizes)]=M.ok (.int (Ij sizes ws xs)):=by
  have e0:bR (.lst ((ws.zip sizes).map λz=>PV.int (z.1*(R sizes/z.2))))=some (us.map PV.int):=by
   rw[rZ,List.map_map];rfl
  have e1:ym [.lst ((us.zip xs).map λz=>PV.int (z.1*z.2))]=M.ok (.int ((us.zip xs).map λz=>z.1*z.2).sum):=by
   have:=Aq ((us.zip xs).map λz=>z.1*z.2)
   rw[List.map_map] at this
   exact this
  unfold iw iu
  dsimp? [ip (q:=tI xs) us xs e0 rfl,List.length_map,av z2,k2,e1,aP (uh h)]
  rfl
 unfold mG mH
 dsimp? [qV (levers:=levers) h hw,qV (levers:=levers) h hs,b_,J3,Gz,ip (p:=tI ws) (q:=tI sizes) ws sizes rfl rfl,List.length_map,av z1,k1,k3]
theorem uf(xs:List Int):∀ m,m<=xs.length->(xs.take m).sum=bg m (vf xs)
 | 0,_=>by simp[bg]
 | m+1,h=>by
  rw[bg,← uf xs m (by omega),List.take_succ_eq_append_getElem (by omega),List.sum_append,bc (by omega)];simp
theorem Af(xs:List Int):xs.sum=bg xs.length (vf xs):=by
 rw[← uf xs _ (Nat.le_refl _),List.take_length]
theorem CC{ws:List Int}(h1:ws.length=sizes.length)(h2:xs.length=sizes.length):Ij sizes ws xs=eB sizes.length (vf sizes) (R sizes) (vf ws) (vf xs)%R sizes:=by
 unfold Ij eB
 rw[Af]
 have hl:((((ws.zip sizes).map λz=>z.1*(R sizes/z.2)).zip xs).map λz=>z.1*z.2).length=sizes.length:=by simp;omega
 rw[hl]
 congr 1
 refine bp λi hi=>?_
 rw[bc (by rw[hl];exact hi),bc (by omega),bc (by omega),bc (by omega)]
 simp only[List.getElem_map,List.getElem_zip]
 rw[Int.mul_assoc,Int.mul_comm (R sizes/_),← Int.mul_assoc]
variable{T:List Row}{ns:List Int}
theorem yi(S:Sz sizes):∀ i,i<sizes.length->vf sizes i∣R sizes:=λi hi=>by rw[bc hi];exact GP S (List.getElem_mem hi)
def rK(sizes:List Int)(T:List Row):List Int:=(sizes.zip (i8 sizes T)).map λz=>z.1/z.2
theorem nO:(rK sizes T).length=sizes.length:=by simp[rK,dG]
theorem vX(h:i<sizes.length):vf (rK sizes T) i=dU (vf sizes) (DD T) i:=by
 have e:=mF (R:=T) h
 rw[bc (by rw[dG];exact h)] at e
 rw[bc (by rw[nO];exact h)]
 simp only[rK,List.getElem_map,List.getElem_zip]
 rw[e,← bc h];rfl
theorem F8(h:j<n):yp n (j:Int)=some j:=by
 unfold yp;rw[if_pos (by omega),if_pos (by omega)];simp
theorem si{v:Int}{env:af}(h:j<xs.length):DN i (xs.map PV.int) (.int v) env (.int (j:Int))=M.ok (.nx (env.set i (some (.ow ((xs.set j v).map PV.int))))):=by
 show (match yp (xs.map PV.int).length (j:Int) with | some j=>_ | none=>_)=_
 rw[List.length_map,F8 h,List.map_set]
theorem nu{v:Int}(h:i<xs.length):vf (xs.set j v) i=if i=j then v else vf xs i:=by
 rw[bc (by rw[List.length_set];exact h),List.getElem_set,bc h]
 by_cases z:i=j
 ·rw[if_pos z,if_pos z.symm]
 ·rw[if_neg z,if_neg (Ne.symm z)]
theorem zN(x:Int):A4 (M.ok (.int x))=M.ok (.int x):=Eq.trans rfl rfl
theorem uQ(Q:gz ns sizes raw Ls T idle)(hd:d<sizes.length):ky (br [jf sizes Ls T idle,.int (d:Int)]) λp=>∃ W:List Int,p=tI W/\W.length=sizes.length/\(∀ i,i<sizes.length->0<=vf W i/\vf W i<vf sizes i)/\Wk sizes.length (vf sizes) (DD T) (R sizes) d 0 (vf W):=by
 have l6:=Q.S.h6
 have l1:=Q.S.h1
 have g:=Q.st.gd
 have rl:=Q.st.wf.len
 have qd:=yi Q.S
 have q0:=uh Q.S
 have q1:=GJ Q.S
 have so:=je (idle:=idle) Q.S Q.st
 have fl:∀ i,i<sizes.length->0<dU (vf sizes) (DD T) i/\dU (vf sizes) (DD T) i<=vf sizes i/\vf sizes i<=360:=λi hi=>⟨(gO g hi).2.1,(gO g hi).2.2,(kE Q.S i hi).2⟩
 have key:bP (cP 0 1) none (aj bB (ae 0) (ae 1)) ((sizes.zip (i8 sizes T)).map λz=>.tup [.int z.1,.int z.2]) [none,none]=M.ok ((sizes.zip (i8 sizes T)).map λz=>.int (z.1/z.2)):=by
  refine kf (p:=λz:Int×Int=>PV.int z.1) (q:=λz:Int×Int=>PV.int z.2) (sizes.zip (i8 sizes T)) λz hz=>?_
  obtain⟨i,hi,e⟩:=List.mem_iff_getElem.mp (mQ hz).2
  rw[dG] at hi
  have e2:=mF (R:=T) hi
  rw[bc (by rw[dG];exact hi),e] at e2
  have p:=g.pos hi
  have:=kE Q.S i hi
  dsimp? [aL (i:=z.1) (j:=z.2) (by omega) (by omega)]
 have zl:(sizes.zip (i8 sizes T)).length<=sizeLine:=by rw[List.length_zip];exact aT (Nat.le_trans (Nat.min_le_left _ _) (by omega))
 have ef:PV.lst ((sizes.zip (i8 sizes T)).map λz=>PV.int (z.1/z.2))=lI (rK sizes T):=by rw[lI,rK,List.map_map];rfl
 have wi:c6 [.int (d:Int),.int 0,.int ((sizes.length:Int)-1)]=M.ok (.bl true):=by
  rw[within_int,decide_eq_true (by omega)]
 have e0:ze (.lst [.int 0]) (.int (sizes.length:Int))=M.ok ((List.replicate sizes.length 0).map PV.int):=by
  rw[ze,av ⟨by omega,by omega,by rw[Int.toNat_natCast];exact aT (by show 1*sizes.length<=1000;omega)⟩,Int.toNat_natCast,nq,List.map_replicate]
 unfold br cM
 dsimp? [jw,Ic,b_,Gz,wi,uH (m := "steps") rfl,so,ip (p:=tI sizes) (q:=tI (i8 sizes T)) sizes (i8 sizes T) rfl rfl,List.length_map,av zl,key,ef,FQ,e0,Hd,ownAt,yU (xs:=rK sizes T) (i:=d) (by rw[nO];exact hd),vX hd,j8 (xs:=sizes) (i:=d) hd,aP (i:=dU (vf sizes) (DD T) d) (j:=vf sizes d) (by have:=fl d hd;omega),si (i:=4) (xs:=List.replicate sizes.length 0) (j:=d) (by simp;exact hd),s_ d (by omega)]
 refine ky.loop (xs:=List.range d) (inj:=λ(i:Nat)=>.int ((d:Int)-1+(i:Int)*-1)) (λzs env=>∃ (c:Nat) (W:List Int) (y5 y6 y7:Option SV),env=[some (.sh (jf sizes Ls T idle)),some (.sh (.int (d:Int))),some (.sh (tI sizes)),some (.sh (lI (rK sizes T))),some (.ow (W.map PV.int)),y5,y6,y7]/\c<=d/\zs=(List.range d).drop c/\W.length=sizes.length/\(∀ i,i<sizes.length->0<=vf W i/\vf W i<vf sizes i)/\Wk sizes.length (vf sizes) (DD T) (R sizes) d (d-c) (vf W)) ⟨0,_,_,_,_,rfl,by omega,rfl,by simp,λi hi=>?_,Wk.start g qd hd λi hi=>?_⟩ ?_ ?_
 ·rw[nu (by simp;exact hi),eV]
  have:=fl i hi
  split
  ·rename_i z;subst z;exact⟨Int.emod_nonneg _ (by omega),Int.emod_lt_of_pos _ (by omega)⟩
  ·omega
 ·rw[nu (by simp;exact hi),eV]
 ·rintro k r env ⟨c,W,y5,y6,y7,rfl,hc,hz,Wl,W0,Wt⟩
  obtain⟨c1,c2,c3⟩:=drop_cons hz.symm
  rw[List.length_range] at c1
  have ek:k=c:=by rw[List.getElem?_range c1] at c2;exact(Option.some.inj c2).symm
  subst ek
  obtain⟨a,ha⟩:∃ a,a=d-1-k:=⟨_,rfl⟩
  have ea:((d:Int)-1+(k:Int)*-1)=(a:Int):=by omega
  have an:a<sizes.length:=by omega
  have fa:=fl a an
  have r1:=Q.st.wf.lT an
  have rk:∀ i,i<sizes.length->0<=vf (row T a).1 i/\vf (row T a).1 i<vf sizes i:=λi hi=>g.hU a an i hi
  have we:=As (levers:=Ls) Q.S (qy Wl W0) (qy r1 rk)
  rw[CC Wl r1] at we
  have eq:vf (row T a).1=DD T a:=rfl
  rw[eq] at we
  have p0:0<=eB sizes.length (vf sizes) (R sizes) (vf W) (DD T a)%R sizes:=Int.emod_nonneg _ (by omega)
  have p1:eB sizes.length (vf sizes) (R sizes) (vf W) (DD T a)%R sizes<R sizes:=Int.emod_lt_of_pos _ q0
  have fR:dU (vf sizes) (DD T) a∣R sizes:=Int.dvd_trans ⟨_,(gO g an).1.symm⟩ (qd a an)
  have s0:0<R sizes/dU (vf sizes) (DD T) a:=by
   obtain⟨x,hx⟩:=fR
   rw[hx,Int.mul_ediv_cancel_left _ (by omega)]
   rcases Int.lt_trichotomy x 0 with q | q | q
   ·have:=Int.mul_neg_of_pos_of_neg fa.1 q;omega
   ·rw[q] at hx;omega
   ·exact q
  have s1:R sizes/dU (vf sizes) (DD T) a<=R sizes:=Int.ediv_le_self _ (by omega)
  have tw:PV.tup (W.map PV.int)=tI W:=rfl
  dsimp? [bW,ea,uc,ownAt,rC,jw,Ic,tw,IM,ny (rows:=T) (d:=a) (by omega),oN,we,zN,b_,J3,yU (xs:=rK sizes T) (i:=a) (by rw[nO];exact an),vX an,aL (i:=R sizes) (j:=dU (vf sizes) (DD T) a) (by omega) (by omega),aL (i:=eB sizes.length (vf sizes) (R sizes) (vf W) (DD T a)%R sizes) (j:=R sizes/dU (vf sizes) (DD T) a) (by omega) (by omega),aP (i:=-(eB sizes.length (vf sizes) (R sizes) (vf W) (DD T a)%R sizes/(R sizes/dU (vf sizes) (DD T) a))) (j:=dU (vf sizes) (DD T) a) (by omega),Hd,si (i:=4) (xs:=W) (j:=a) (by omega)]
  refine⟨_,rfl,k+1,_,_,_,_,rfl,by omega,c3.symm,by simpa using Wl,λi hi=>?_,?_⟩
  ·rw[nu (by omega)]
   split
   ·rename_i z;subst z
    have h1:=Int.emod_nonneg (-(eB sizes.length (vf sizes) (R sizes) (vf W) (DD T i)%R sizes/(R sizes/dU (vf sizes) (DD T) i))) (show dU (vf sizes) (DD T) i≠0 by omega)
    have h2:=Int.emod_lt_of_pos (-(eB sizes.length (vf sizes) (R sizes) (vf W) (DD T i)%R sizes/(R sizes/dU (vf sizes) (DD T) i))) fa.1
    omega
   ·exact W0 i hi
  ·rw[show d-(k+1)=a by omega]
   refine Wk.next g q0 qd hd (w:=vf W) (by rw[show a+1=d-k by omega];exact Wt) (by omega) ?_ λi hi ME=>?_
   ·rw[nu (by omega),if_pos rfl]
   ·rw[nu (by omega),if_neg ME]
 ·rintro env ⟨c,W,y5,y6,y7,rfl,hc,hz,Wl,W0,Wt⟩
  have:c=d:=by
   have:=congrArg List.length hz
   rw[List.length_drop,List.length_range] at this
   simp at this;omega
  subst this
  rw[Nat.sub_self] at Wt
  exact⟨_,rfl,W,rfl,Wl,W0,Wt⟩
theorem Js:pO aq "levers" aX (dN sizes Ls) (M.ok [])=M.ok (.tup (Ls.map tI)):=(jv (fl:=oo sizes Ls) rfl).trans (p7 sizes Ls)
def ad(sizes xs ys:List Int)(t:Int):List Int:=vy ((xs.zip ys).map λz=>z.1+t*z.2) sizes
structure Ws (sizes:List Int) (T:List Row) (d:Nat) (W:List Int):Prop where
 len:W.length=sizes.length
 hU:∀ i,i<sizes.length->0<=vf W i/\vf W i<vf sizes i
 wk:Wk sizes.length (vf sizes) (DD T) (R sizes) d 0 (vf W)
def Kp(sizes xs:List Int):Prop:=xs.length=sizes.length/\∀ i,i<sizes.length->0<=vf xs i/\vf xs i<vf sizes i
theorem Kp.Iq(h:Kp sizes xs):Bj sizes xs:=qy h.1 h.2
theorem Kp.bd(S:Sz sizes)(h:Kp sizes xs):Bd 200 xs:=vx S h.1 h.2
theorem C0(ns:List Int)(k:Nat)(hk:k<=100):∃ c,gP [.iU (ns.map PV.int),.int (k:Int)]=M.ok (.int c):=by
 unfold gP gR
 by_cases h:(k:Int)<(ns.length:Int)
 ·have h':k<ns.length:=by omega
  exact⟨ns[k],by dsimp? [List.length_map,h,decide_true,bw (p:=.iU (ns.map PV.int)) (j:=k) (x:=.int ns[k]) rfl (by rw[List.getElem?_map,List.getElem?_eq_getElem h'];rfl)]⟩
 ·exact⟨((k:Int)+2)*104729%65537,by dsimp? [List.length_map,h,decide_false,bj (i:=(k:Int)+2) (j:=104729) (k:=31) (l:=31) (by omega) (by decide),aP (i:=((k:Int)+2)*104729) (j:=65537) (by decide)]⟩
theorem vi(c:Int)(k:Nat)(hk:k<=100):∃ x,c9 [.int c,.int (k:Int)]=M.ok (.int x)/\0<=x/\x<2147483579:=by
 obtain⟨a,ea,a0⟩:∃ a,cQ (.int (c%2147483647*48271+7919*(k:Int)+13)) (.int 2147483629)=M.ok (.int a)/\0<=a/\a<2147483629:=⟨_,aP (by decide),Int.emod_nonneg _ (by decide),Int.emod_lt_of_pos _ (by decide)⟩
 obtain⟨b,eb,b0⟩:∃ b,cQ (.int (a*a+104729*(k:Int)+7)) (.int 2147483587)=M.ok (.int b)/\0<=b/\b<2147483587:=⟨_,aP (by decide),Int.emod_nonneg _ (by decide),Int.emod_lt_of_pos _ (by decide)⟩
 refine⟨b*b%2147483579,?_,Int.emod_nonneg _ (by decide),Int.emod_lt_of_pos _ (by decide)⟩
 unfold c9 eY
 dsimp? [aP (i:=c) (j:=2147483647) (by decide),bj (i:=c%2147483647) (j:=48271) (k:=32) (l:=31) (by omega) (by decide),bj (i:=7919) (j:=(k:Int)) (k:=31) (l:=31) (by decide) (by omega),ea,bj (i:=a) (j:=a) (k:=32) (l:=32) (by omega) (by omega),bj (i:=104729) (j:=(k:Int)) (k:=31) (l:=31) (by decide) (by omega),eb,bj (i:=b) (j:=b) (k:=32) (l:=32) (by omega) (by omega),aP (i:=b*b) (j:=2147483579) (by decide)]
theorem k9(c:Int)(p:PV)(bases:List Int)(hp:bR p=some (bases.map PV.int))(hb:∀ b∈bases,0<b/\b<2^60)(hl:bases.length<=100):∃ xs:List Int,cx [.int c,p]=M.ok (tI xs)/\xs.length=bases.length/\∀ z∈xs.zip bases,0<=z.1/\z.1<z.2:=by
 suffices h:ky (cx [.int c,p]) λq=>∃ xs:List Int,q=tI xs/\xs.length=bases.length/\∀ z∈xs.zip bases,0<=z.1/\z.1<z.2 by
  obtain⟨_,e,xs,rfl,q⟩:=h
  exact⟨xs,e,q⟩
 unfold cx cR
 dsimp? [jC,hp]
 refine ky.loop (xs:=bases) (inj:=PV.int) (λr env=>∃ (d xs:List Int) (left:Int) (y:Option SV),env=[some (.sh (.int left)),some (.sh p),some (.ow (xs.map PV.int)),y]/\bases=d++r/\xs.length=d.length/\∀ z∈xs.zip d,0<=z.1/\z.1<z.2) ⟨[],[],c,none,rfl,rfl,rfl,λ_ h=>nomatch h⟩ ?_ ?_
 ·rintro b r env ⟨d,xs,left,y,rfl,hd,hx,hz⟩
  have NU:=hb b (by rw[hd];simp)
  have dl:d.length<=100:=by
   have:=congrArg List.length hd
   rw[List.length_append] at this;omega
  dsimp? [bW,wa,ownAt,aP (i:=left) NU.1,vP (xs:=xs.map PV.int) (show (xs.map PV.int).length<1000 by simp;omega),pL,aL (i:=left) NU.1 (show b<2^64 by omega)]
  refine⟨_,rfl,d++[b],xs++[left%b],left/b,_,rfl,by rw[hd];simp,by simp[hx],λz MM=>?_⟩
  rw[List.zip_append hx] at MM
  rcases List.mem_append.mp MM with q | q
  ·exact hz z q
  ·rw[List.zip_cons_cons,List.zip_nil_left] at q
   rw[List.mem_singleton.mp q]
   exact⟨Int.emod_nonneg _ (by omega),Int.emod_lt_of_pos _ NU.1⟩
 ·rintro env ⟨d,xs,left,y,rfl,hd,hx,hz⟩
  rw[List.append_nil] at hd
  subst hd
  dsimp? []
  exact⟨_,rfl,xs,rfl,hx,hz⟩
theorem Ce(c:Int):∃ x,dP [.int c]=M.ok (.int x)/\2<=x/\x<=360:=by
 obtain⟨v,hv,ev⟩:=pick [2,3,4,6,8,9,12] (c/3) 7 rfl (by decide)
 obtain⟨w,hw,ew⟩:=pick [1,2,5,10,30] (c/21) 5 rfl (by decide)
 rw[show ((7:Nat):Int)=7 from rfl] at ev
 rw[show ((5:Nat):Int)=5 from rfl] at ew
 have v1:2<=v/\v<=12:=by simp at hv;omega
 have w1:1<=w/\w<=30:=by simp at hw;omega
 unfold dP gI
 by_cases h:c%3=0
 ·refine⟨2+c/3%359,?_,by omega,by omega⟩
  dsimp? [aP (i:=c) (j:=3) (by decide),h,decide_true,aL (i:=c) (j:=3) (by decide) (by decide),aP (i:=c/3) (j:=359) (by decide)]
 ·refine⟨v*w,?_,?_,?_⟩
  ·simp only[List.map_cons,List.map_nil] at ev ew
   dsimp? [aP (i:=c) (j:=3) (by decide),h,decide_false,aL (i:=c) (j:=3) (by decide) (by decide),aP (i:=c/3) (j:=7) (by decide),ev,aL (i:=c) (j:=21) (by decide) (by decide),aP (i:=c/21) (j:=5) (by decide),ew,bj (i:=v) (j:=w) (k:=31) (l:=31) (by omega) (by omega)]
  ·have:2*1<=v*w:=Int.mul_le_mul v1.1 w1.1 (by decide) (by omega)
   omega
  ·have:v*w<=12*30:=Int.mul_le_mul v1.2 w1.2 (by omega) (by decide)
   omega
theorem yg(c:Int):ky (fJ [.int c]) λp=>∃ xs:List Int,p=lI xs/\Sz xs:=by
 unfold fJ fL
 dsimp? [aP (i:=c) (j:=2) (by decide)]
 rcases two (c:=c) with h | h
 ·obtain⟨m,em,m1,m6⟩:∃ m:Nat,1+c/2%6=(m:Int)/\1<=m/\m<=6:=⟨(1+c/2%6).toNat,by omega,by omega,by omega⟩
  simp only[h,decide_true]
  obtain⟨xs,ex,xl,xb⟩:=k9 (c/12) (.lst (List.replicate m (.int 359))) (List.replicate m 359) (by rw[List.map_replicate];rfl) (λb hb=>by rw[Bt hb];decide) (by simp;omega)
  rw[List.length_replicate] at xl
  dsimp? [aL (i:=c) (j:=2) (by decide) (by decide),aP (i:=c/2) (j:=6) (by decide),em,aL (i:=c) (j:=12) (by decide) (by decide),sJ (.int 359) m (by omega),ex,List.length_map,av (aT (show xs.length<=1000 by omega)),gX (f:=aj dF (λ_=>M.ok (.int 2)) (ae 0)) (inj:=PV.int) (h:=λx=>.int (2+x)) (rest:=[]) (x0:=none) xs λa _=>by dsimp? []]
  refine⟨_,rfl,xs.map (2+·),by rw[lI,List.map_map];rfl,by simp;omega,by simp;omega,λx hx=>?_⟩
  obtain⟨y,hy,rfl⟩:=List.mem_map.mp hx
  obtain⟨i,hi,rfl⟩:=List.mem_iff_getElem.mp hy
  have:=xb (xs[i],359) (List.mem_iff_getElem.mpr ⟨i,by simp;omega,by simp⟩)
  simp at this;omega
 ·simp only[h,show ¬ (1:Int)=0 by decide,decide_false]
  obtain⟨v,hv,ev⟩:=pick [1,2,3,4,2,3,5,6] (c/2) 8 rfl (by decide)
  rw[show ((8:Nat):Int)=8 from rfl] at ev
  simp only[List.map_cons,List.map_nil] at ev
  obtain⟨m,rfl,m1,m6⟩:∃ m:Nat,v=(m:Int)/\1<=m/\m<=6:=⟨v.toNat,by simp at hv;omega,by simp at hv;omega,by simp at hv;omega⟩
  have ex:∀ k:Nat,∃ x:Int,k<=100->(∃ y,c9 [.int (c/16),.int (k:Int)]=M.ok (.int y)/\dP [.int y]=M.ok (.int x))/\2<=x/\x<=360:=λk=>by
   by_cases hk:k<=100
   ·obtain⟨y,ey,_⟩:=vi (c/16) k hk
    obtain⟨x,e,q⟩:=Ce y
    exact⟨x,λ_=>⟨⟨y,ey,e⟩,q⟩⟩
   ·exact⟨0,λh=>(hk h).elim⟩
  obtain⟨f,hf⟩:=Classical.skolem.mp ex
  have key:bP (bW 0) none (ai dP (aa (ai c9 (aa (aj bB (ae 1) (λ_=>M.ok (.int 16))) (aa (ae 0) ao))) ao)) ((List.range m).map λ(i:Nat)=>.int (i:Int)) [none,some (.sh (.int c))]=M.ok ((List.range m).map λk=>.int (f k)):=by
   refine gX (inj:=λ(i:Nat)=>PV.int (i:Int)) (List.range m) λi hi=>?_
   have:=List.mem_range.mp hi
   obtain⟨⟨y,e1,e2⟩,_⟩:=hf i (by omega)
   dsimp? [aL (i:=c) (j:=16) (by decide) (by decide),e1,e2]
  dsimp? [aL (i:=c) (j:=2) (by decide) (by decide),aP (i:=c/2) (j:=8) (by decide),ev,gf (n:=(m:Int)) (by omega) (by omega),Int.toNat_natCast,List.length_map,List.length_range,av (aT (show m<=1000 by omega)),key]
  refine⟨_,rfl,(List.range m).map f,by rw[lI,List.map_map];rfl,by simp;omega,by simp;omega,λx hx=>?_⟩
  obtain⟨k,hk,rfl⟩:=List.mem_map.mp hx
  have:=List.mem_range.mp hk
  exact(hf k (by omega)).2
theorem EZ(hl:xs.length=ys.length)(h:∀ z∈xs.zip ys,0<=z.1/\z.1<z.2):∀ i,i<ys.length->0<=vf xs i/\vf xs i<vf ys i:=λi hi=>by
 have:=h (xs[i]'(by omega),ys[i]) (List.mem_iff_getElem.mpr ⟨i,by simp;omega,by simp⟩)
 rw[bc (by omega),bc hi]
 exact this
theorem xt(S:Sz sizes)(c:Int):ky (dq [.int c,lI sizes]) λp=>∃ xs:List Int,p=tI xs/\xs.length=sizes.length/\∀ z∈xs.zip sizes,0<=z.1/\z.1<z.2:=by
 have l6:=S.h6
 unfold dq fM
 dsimp? [aP (i:=c) (j:=2) (by decide)]
 rcases two (c:=c) with h | h
 ·simp only[h,decide_true]
  obtain⟨xs,ex,xl,xb⟩:=k9 (c/2) (lI sizes) sizes rfl (λb hb=>by have:=S.hx b hb;omega) (by omega)
  dsimp? [aL (i:=c) (j:=2) (by decide) (by decide),ex]
  exact⟨_,rfl,xs,rfl,xl,xb⟩
 ·simp only[h,show ¬ (1:Int)=0 by decide,decide_false]
  obtain⟨v,hv,ev⟩:=pick [1,2,3,6,12,30] (c/2) 6 rfl (by decide)
  rw[show ((6:Nat):Int)=6 from rfl] at ev
  simp only[List.map_cons,List.map_nil] at ev
  have v1:1<=v/\v<=30:=by simp at hv;omega
  dsimp? [aL (i:=c) (j:=2) (by decide) (by decide),aP (i:=c/2) (j:=6) (by decide),ev,jC,ET]
  refine ky.loop (xs:=sizes.zipIdx) (inj:=λz=>.tup [.int (z.2:Int),.int z.1]) (λr env=>∃ (d ss:List Int) (y4 y5 y6:Option SV),env=[some (.sh (.int c)),some (.sh (lI sizes)),some (.sh (.int v)),some (.ow (ss.map PV.int)),y4,y5,y6]/\sizes=d++r.map (·.1)/\ss.length=d.length/\(∀ z∈ss.zip d,0<=z.1/\z.1<z.2)/\∀ z∈r,z∈sizes.zipIdx) ⟨[],[],_,_,_,rfl,by simp,rfl,(λ_ h=>nomatch h),λz h=>h⟩ ?_ ?_
  ·rintro⟨s,i⟩ r env ⟨d,ss,y4,y5,y6,rfl,hd,hl,hz,hm⟩
   have hi:=vm (hm (s,i) List.mem_cons_self)
   have hs:=S.hx s (by rw[hd];simp)
   obtain⟨x,ex,x0,x1⟩:=vi (c/12) i (by omega)
   have dl:d.length<=6:=by
    have:=congrArg List.length hd
    simp at this;omega
   have b1:(x/4*v).natAbs<2^62:=by
    rw[Int.natAbs_mul]
    have:(x/4).natAbs*v.natAbs<=2^30*2^5:=Nat.mul_le_mul (by omega) (by omega)
    exact Nat.lt_of_le_of_lt this (by decide)
   have m0:0<=x/4*v%s/\x/4*v%s<s:=⟨Int.emod_nonneg _ (by omega),Int.emod_lt_of_pos _ (by omega)⟩
   obtain⟨o,eo,ho⟩:∃ o:Int,vQ [.bl (decide (0<x%4))]=M.ok (.int o)/\(o=0\/o=1):=by
    by_cases q:0<x%4
    ·exact⟨1,by rw[decide_eq_true q];rfl,.inr rfl⟩
    ·exact⟨0,by rw[decide_eq_false q];rfl,.inl rfl⟩
   dsimp? [cP,aL (i:=c) (j:=12) (by decide) (by decide),ex,wa,ownAt,aL (i:=x) (j:=4) (by decide) (by decide),bj (i:=x/4) (j:=v) (k:=31) (l:=31) (by omega) (by omega),aP (i:=x/4*v) (j:=s) (by omega),aP (i:=x) (j:=4) (by decide),eo,bj (i:=x/4*v%s) (j:=o) (k:=31) (l:=31) (by omega) (by omega),vP (xs:=ss.map PV.int) (show (ss.map PV.int).length<1000 by simp;omega),pL]
   refine⟨_,rfl,d++[s],ss++[x/4*v%s*o],_,_,_,rfl,by rw[hd];simp,by simp[hl],λz MM=>?_,λz h=>hm z (List.mem_cons_of_mem _ h)⟩
   rw[List.zip_append hl] at MM
   rcases List.mem_append.mp MM with q | q
   ·exact hz z q
   ·rw[List.zip_cons_cons,List.zip_nil_left] at q
    rw[List.mem_singleton.mp q]
    rcases ho with rfl | rfl <;> simp <;> omega
  ·rintro env ⟨d,ss,y4,y5,y6,rfl,hd,hl,hz,_⟩
   rw[List.map_nil,List.append_nil] at hd
   subst hd
   dsimp? []
   exact⟨_,rfl,ss,rfl,hl,hz⟩
variable{KP:List (List Int)}{T':List Row}
variable{v:bI}
section
variable{K_:List (List Int)}{P W:List Int}
theorem oF(Q:gz ns sizes raw Ls T idle){d:List Int}(h:Kp sizes d):lst sizes Ls T d=List.replicate sizes.length 0 ↔ G sizes.length (vf sizes) (DD T) sizes.length 0 (vf d):=by
 obtain⟨b1,b2,b3,b4⟩:=pT Q.st h.1 h.2
 constructor
 ·intro z
  exact G.ext (by omega) (λi hi=>by rw[z,eV];omega) b4
 ·intro gx
  refine qR (by simpa using b1) λi hi=>?_
  have g:=Q.st.gd.sub (by omega) gx b4
  have:=G.diff Q.st.gd sizes.length 0 (λi=>vf (lst sizes Ls T d) i) (by omega) (λi hi=>by have:=b3 i hi;omega) (λi _ hi=>by have:=b2 i hi;omega) (G.ext (by omega) (λi _=>by omega) g) i (by omega)
  rw[eV];exact this
theorem rA{xs:List Int}(hx:∀ x∈xs,0<x/\x<2^60):∀ c,c<=xs.length->0<aA c (vf xs)/\aA c (vf xs)<2^(60*c+1)
 | 0,_=>⟨show (0:Int)<1 by decide,show (1:Int)<2^1 by decide⟩
 | c+1,h=>by
  obtain⟨a,b⟩:=rA hx c (by omega)
  have q:=hx (vf xs c) (by rw[bc (by omega)];exact List.getElem_mem _)
  show 0<aA c (vf xs)*vf xs c/\aA c (vf xs)*vf xs c<_
  refine⟨Int.mul_pos a q.1,?_⟩
  have e:(2:Int)^(60*(c+1)+1)=2^(60*c+1)*2^60:=by rw[show 60*(c+1)+1=60*c+1+60 by omega,Int.pow_add]
  rw[e]
  exact Int.lt_of_lt_of_le (Int.mul_lt_mul_of_pos_right b q.1) (Int.mul_le_mul_of_nonneg_left (by omega) (Int.le_of_lt (Int.lt_trans a b)))
theorem u_(h:0<a/\a<2^k):a.natAbs<2^k:=by
 have:(a.natAbs:Int)<((2^k:Nat):Int):=by
  rw[Int.natAbs_of_nonneg (by omega)];push_cast;exact h.2
 exact Int.ofNat_lt.mp this
theorem Di{t:af->M Bool}{f:af->M PV}{inj h:α->PV}{b:α->Bool}{rest:af}{x0:Option SV}(xs:List α)(Ht:∀ a∈xs,t (some (.sh (inj a))::rest)=M.ok (b a))(H:∀ a∈xs,f (some (.sh (inj a))::rest)=M.ok (h a)):bP (bW 0) (some t) f (xs.map inj) (x0::rest)=M.ok ((xs.filter b).map h):=by
 induction xs generalizing x0 with
 | nil=>rfl
 | cons a r ih =>
  have i:=ih (x0:=some (.sh (inj a))) (λc hc=>Ht c (List.mem_cons_of_mem _ hc)) λc hc=>H c (List.mem_cons_of_mem _ hc)
  rw[List.map_cons,bP]
  show M.bind (M.ok ((x0::rest).set 0 (some (.sh (inj a))))) _=_
  rw[M.aE,List.set_cons_zero]
  show M.bind (t _) _=_
  rw[Ht a List.mem_cons_self,M.aE]
  cases e:b a with
  | true=>rw[if_pos rfl,H a List.mem_cons_self,M.aE,i,List.filter_cons_of_pos e];rfl
  | false=>rw[if_neg (by simp),i,List.filter_cons_of_neg (by simp[e])]
theorem CD(h:T.length<=1000):fH [jf sizes Ls T idle]=M.ok (.lst (T.map λr=>tI r.1)):=by
 have key:bP (bW 0) none (aj aQ (ae 0) (λ_=>M.ok (.int 0))) (T.map mk) [none]=M.ok (T.map λr=>tI r.1):=gX T λr _=>by dsimp? [show aQ (mk r) (.int 0)=M.ok (tI r.1) from bw (j:=0) rfl rfl]
 unfold fH fU
 dsimp? [jw,IM,List.length_map,av (aT h),key]
def nz(n:Nat)(T:List Row):List (List Int):=(T.filter λr=>!decide (r.1=List.replicate n 0)).map (·.1)
theorem ux{l:List Int}(h:l∈nz n T):∃ d,d<T.length/\(row T d).1=l:=by
 obtain⟨r,hr,rfl⟩:=List.mem_map.mp h
 obtain⟨d,hd,e⟩:=List.mem_iff_getElem.mp (List.mem_filter.mp hr).1
 exact⟨d,hd,by rw[eM hd,e]⟩
theorem Ar(h:d<T.length)(z:(row T d).1≠List.replicate n 0):(row T d).1∈nz n T :=
 List.mem_map.mpr ⟨row T d,List.mem_filter.mpr ⟨by rw[eM h];exact List.getElem_mem _,by simpa using z⟩,rfl⟩
theorem l4(Q:gz ns sizes raw Ls T idle):∃ Wf:Nat->List Int,∀ d,d<sizes.length->br [jf sizes Ls T idle,.int (d:Int)]=M.ok (tI (Wf d))/\Ws sizes T d (Wf d):=by
 have h:∀ d:Nat,∃ W,d<sizes.length->br [jf sizes Ls T idle,.int (d:Int)]=M.ok (tI W)/\Ws sizes T d W:=λd=>by
  by_cases hd:d<sizes.length
  ·obtain⟨_,e,W,rfl,a,b,c⟩:=uQ Q hd
   exact⟨W,λ_=>⟨e,a,b,c⟩⟩
  ·exact⟨[],λh=>absurd h hd⟩
 exact⟨λd=>Classical.choose (h d),λd hd=>Classical.choose_spec (h d) hd⟩
theorem vt{P:bI}(g:Good n (vf sizes) (DD T))(h:∀ l,l<m->G n (vf sizes) (DD T) n 0 (A l))(led:∀ i,i<n->vf sizes i∣v i-bg m λl=>P l*A l i):G n (vf sizes) (DD T) n 0 v :=
 g.j3 (by omega) led (G.sum (A:=A) (P:=P) g m h)
theorem cancel{y c:Int}(ha:0<a)(h1:a*x=c)(h2:y*a=c):x=y:=by
 rw[Int.mul_comm] at h2
 exact Int.eq_of_mul_eq_mul_left (by omega) (h1.trans h2.symm)
theorem ku{l:List Int}(h:l∈Ls):∃ k,k<Ls.length/\AA Ls k=vf l:=by
 obtain⟨k,hk,e⟩:=List.mem_iff_getElem.mp h
 exact⟨k,hk,by unfold AA;rw[List.getD_eq_getElem?_getD,List.getElem?_eq_getElem hk,Option.getD_some,e]⟩
theorem oh(Q:gz ns sizes raw Ls T idle):∃ K_ T' KP,iA [dN sizes Ls]=M.ok (dN sizes K_)/\gz ns sizes (nz sizes.length T) K_ T' KP/\K_=nz sizes.length T:=by
 have tl:=Q.st.wf.len
 have l6:=Q.S.h6
 have kp:∀ l∈nz sizes.length T,Kp sizes l:=λl hl=>by
  obtain⟨d,hd,rfl⟩:=ux hl
  exact⟨Q.st.wf.lT (by omega),Q.st.gd.hU d (by omega)⟩
 have nl:(nz sizes.length T).length<=T.length:=by unfold nz;rw[List.length_map];exact List.length_filter_le _ _
 obtain⟨K_,T',KP,Q'⟩:=gz.get ns Q.S (raw:=nz sizes.length T) (by omega) λl hl=>⟨(kp l hl).1,(kp l hl).bd Q.S⟩
 refine⟨K_,T',KP,?_,Q',?_⟩
 ·have key:bP (bW 0) (some (fE (aj qi (ae 0) (ae 1)))) (ae 0) (T.map λr=>tI r.1) [none,some (.sh (tI (List.replicate sizes.length 0)))]=M.ok ((nz sizes.length T).map tI):=by
   have:=Di (t:=fE (aj qi (ae 0) (ae 1))) (f:=ae 0) (inj:=λr:Row=>tI r.1) (h:=λr:Row=>tI r.1) (b:=λr=>!decide (r.1=List.replicate sizes.length 0)) (rest:=[some (.sh (tI (List.replicate sizes.length 0)))]) (x0:=none) T (λr _=>by dsimp? [qZ]) (λr _=>by dsimp? [])
   rw[this,nz,List.map_map];rfl
  unfold iA jB
  dsimp? [jG (Ls:=Ls) Q.S.h6,b_,Gz,Q.DB,uH (m := "rows") rfl,CD (T:=T) (by omega),List.length_map,av (aT (show T.length<=1000 by omega)),key,Q'.Bk (f:=tI) (p:=tI sizes) (.inl rfl) rfl]
 ·rw[Q'.eL];exact(List.map_congr_left λl hl=>ot (kp l hl).Iq).trans (List.map_id _)
abbrev GT(sizes:List Int)(T:List Row)(v:bI):Prop:=G sizes.length (vf sizes) (DD T) sizes.length 0 v
structure Kc (ns sizes:List Int) (Ls:List (List Int)) (T:List Row) (idle:List (List Int)) (K_:List (List Int)) (T':List Row) (KP:List (List Int)):Prop where
 Q:(∃ LZ,gz ns sizes LZ K_ T' KP)/\K_.length<=sizes.length
 cw:∃ L6 K9 T1 LQ,gz ns sizes L6 K9 T1 LQ/\K_=nz sizes.length T1/\∀ v,GT sizes T1 v ↔ GT sizes T' v
 ev:gj [dN sizes Ls]=M.ok (dN sizes K_)
 c2:aA K_.length (λj=>II KP j j)=aA sizes.length (aH (vf sizes) (DD T))
 c3:aA sizes.length (aH (vf sizes) (DD T'))=aA Ls.length λj=>II idle j j
 dead:∀ l,l<K_.length->∀ b,b<sizes.length->R sizes∣eB sizes.length (vf sizes) (R sizes) (AA K_ l) (DD T b)
 all:∀ u:bI,(∀ b,b<sizes.length->R sizes∣eB sizes.length (vf sizes) (R sizes) u (DD T b))->G sizes.length (vf sizes) (DD T') sizes.length 0 u
theorem xq(Q:gz ns sizes raw Ls T idle):∃ K_ T' KP,Kc ns sizes Ls T idle K_ T' KP:=by
 have S:=Q.S
 have l6:=S.h6
 have g:=Q.st.gd
 have hq:=yi S
 have hQ:=uh S
 obtain⟨Wf,hW⟩:=l4 Q
 have kp:∀ l∈(List.range sizes.length).map Wf,Kp sizes l:=λl hl=>by
  obtain⟨d,hd,rfl⟩:=List.mem_map.mp hl
  exact⟨(hW d (List.mem_range.mp hd)).2.len,(hW d (List.mem_range.mp hd)).2.hU⟩
 obtain⟨K9,T1,LQ,Q1⟩:=gz.get ns S (raw:=(List.range sizes.length).map Wf) (by simp;omega) λl hl=>⟨(kp l hl).1,(kp l hl).bd S⟩
 have eL:K9=(List.range sizes.length).map Wf:=by rw[Q1.eL];exact(List.map_congr_left λl hl=>ot (kp l hl).Iq).trans (List.map_id _)
 have L1:K9.length=sizes.length:=by rw[eL];simp
 have eA:∀ d,d<sizes.length->AA K9 d=vf (Wf d):=λd hd=>by
  unfold AA;rw[eL,List.getD_eq_getElem?_getD,List.getElem?_map,List.getElem?_range hd];rfl
 have wk:∀ d,d<sizes.length->Wk sizes.length (vf sizes) (DD T) (R sizes) d 0 (AA K9 d):=λd hd=>by rw[eA d hd];exact(hW d hd).2.wk
 have I1:=Q1.I
 have o1:=Q1.ord
 have p1:=Q1.pr
 have s1:=Q1.st
 rw[L1] at I1 o1 p1 s1
 have sp:=BW g hQ hq wk (J:=II LQ) I1.pos I1.zero I1.mK o1
 obtain⟨K_,T',KP,ec,Q',Nq⟩:=oh Q1
 have g1:=s1.gd
 have g':=Q'.st.gd
 have t1:=s1.wf.len
 have a1:∀ l,l<K_.length->∃ d,d<sizes.length/\AA K_ l=DD T1 d:=λl hl=>by
  obtain⟨d,hd,e⟩:=ux (T:=T1) (n:=sizes.length) (l:=K_[l]) (by rw[← Nq];exact List.getElem_mem _)
  refine⟨d,by omega,?_⟩
  unfold AA DD
  rw[List.getD_eq_getElem?_getD,List.getElem?_eq_getElem hl,Option.getD_some,e]
 have i1:∀ d,d<sizes.length->G sizes.length (vf sizes) (DD T1) sizes.length 0 (DD T' d):=λd hd=>vt g1 (λl hl=>by
  obtain⟨e,he,ea⟩:=a1 l hl
  rw[ea];exact g1.row he (by omega) (Nat.zero_le _)) (Q'.st.led d hd)
 have i2:∀ d,d<sizes.length->G sizes.length (vf sizes) (DD T') sizes.length 0 (DD T1 d):=λd hd=>by
  by_cases z:(row T1 d).1=List.replicate sizes.length 0
  ·exact G.ext (by omega) (λi hi=>by show 0=vf (row T1 d).1 i;rw[z,eV]) (G.zero (by omega))
  ·obtain⟨k,hk,e⟩:=ku (Ls:=K_) (l:=(row T1 d).1) (by rw[Nq];exact Ar (by omega) z)
   show G sizes.length (vf sizes) (DD T') sizes.length 0 (vf (row T1 d).1)
   rw[← e];exact Q'.st.cl k (by omega)
 have se:=uC g1 g' i1 i2
 have pe:aA sizes.length (λj=>II LQ j j)=aA sizes.length (aH (vf sizes) (DD T)):=bX sp
 have pa:0<aA sizes.length (aH (vf sizes) (DD T)):=dm λl hl=>(g.pos hl).1
 have c3:aA sizes.length (aH (vf sizes) (DD T'))=aA Ls.length λj=>II idle j j:=by
  rw[← bX se]
  exact cancel pa (by rw[← pe];exact p1) Q.pr
 have pb:0<aA Ls.length (λj=>II idle j j):=dm λl hl=>Q.I.pos l hl
 refine⟨K_,T',KP,⟨⟨_,Q'⟩,by rw[Nq,← t1];unfold nz;rw[List.length_map];exact List.length_filter_le _ _⟩,⟨_,_,T1,_,Q1,Nq,λv=>⟨ou g' i2 sizes.length 0 v (by omega),ou g1 i1 sizes.length 0 v (by omega)⟩⟩,?_,?_,c3,λl hl b hb=>?_,λu hu=>?_⟩
 ·have key:bP (bW 0) none (bh az "weights_at" br (ae 1) (aa (ae 0) ao)) ((List.range sizes.length).map λ(i:Nat)=>.int (i:Int)) [none,some (.sh (jf sizes Ls T idle))]=M.ok (((List.range sizes.length).map Wf).map tI):=by
   rw[List.map_map]
   refine gX (inj:=λ(i:Nat)=>PV.int (i:Int)) (List.range sizes.length) λi hi=>?_
   dsimp? [b_,uH (m := "weights_at") rfl,(hW i (List.mem_range.mp hi)).1]
   rfl
  unfold gj kH
  dsimp? [Q.DB,b_,Gz,gf (n:=(sizes.length:Int)) (by omega) (by omega),Int.toNat_natCast,List.length_map,List.length_range,av (aT (show sizes.length<=1000 by omega)),key,Q1.Bk (f:=tI) (p:=tI sizes) (.inl rfl) rfl,ec]
 ·have:=Q'.pr
  rw[c3] at this
  exact(cancel pb Q.pr this).symm
 ·obtain⟨d,hd,e⟩:=a1 l hl
  rw[e]
  exact z8 hq wk (t:=PP T1 d) (s1.led d hd) hb
 ·obtain⟨t,_,ht⟩:=j5 g hQ hq wk sizes.length (Nat.le_refl _) u (λi h1 h2=>by omega) hu
  exact vt g' (λd hd=>ou g' i2 sizes.length 0 _ (by omega) (s1.cl d (by omega))) ht
theorem gz.kp(Q:gz ns sizes raw Ls T idle):∀ l∈Ls,Kp sizes l:=λl hl=>by
 obtain⟨k,hk,e⟩:=ku hl
 have a:=Q.LL.at_ k hk
 have b:=Q.LL.hU k hk
 rw[e] at b
 obtain⟨k',Nv,e'⟩:=List.mem_iff_getElem.mp hl
 have c:=Q.LL.at_ k' Nv
 rw[List.getD_eq_getElem?_getD,List.getElem?_eq_getElem Nv,Option.getD_some,e'] at c
 exact⟨c,b⟩
theorem AN(S:Sz sizes):Kp sizes (List.replicate sizes.length 0):=⟨by simp,zO S⟩
end
variable{H:bI->Prop}{L X Y:List (List Int)}
section
variable{LZ K_ rX:List (List Int)}{TL TX:List Row}{iL iX:List (List Int)}{q r s:PV}{K:bI->Prop}
structure Pn (sizes:List Int) (Ls:List (List Int)) (T:List Row) (idle:List (List Int)):Prop where
 S:Sz sizes
 gd:Good sizes.length (vf sizes) (DD T)
 ld:∀ d,d<sizes.length->∃ P,Led sizes.length (vf sizes) Ls.length (AA Ls) (DD T d) P
 cl:∀ l,l<Ls.length->GT sizes T (AA Ls l)
 I:w4 sizes.length Ls.length (vf sizes) (AA Ls) Ls.length idle
 pr:aA Ls.length (λj=>II idle j j)*aA sizes.length (aH (vf sizes) (DD T))=aA sizes.length (vf sizes)
 ord:∀ j,j<Ls.length->∀ P:bI,Zf (j+1) Ls.length P->Led sizes.length (vf sizes) Ls.length (AA Ls) (λ_=>0) P->II idle j j∣P j
theorem gz.pn(Q:gz ns sizes raw Ls T idle):Pn sizes Ls T idle:=⟨Q.S,Q.st.gd,λd hd=>⟨_,Q.st.led d hd⟩,λl hl=>Q.st.cl l (by omega),Q.I,Q.pr,Q.ord⟩
theorem Pn.o4(Q:Pn sizes Ls T idle)(h:l<Ls.length):GT sizes T (AA Ls l):=Q.cl l h
theorem Pn.kept(S:Sz sizes)(h:∀ l∈L,Kp sizes l):∃ T idle,Pn sizes L T idle:=by
 have LL:GF sizes.length L.length sizes L:=by
  have g:∀ l,l<L.length->Kp sizes (L.getD l []):=λl hl=>h _ (getD_mem hl)
  exact⟨rfl,λl hl=>(g l hl).1,λl hl=>(g l hl).2⟩
 have K:=yn.all (c:=cf) rfl (kE S) LL wB S.h6 L.length (Nat.le_refl _)
 exact⟨_,_,S,K.st.gd,λd hd=>⟨_,K.st.led d hd⟩,λl hl=>K.st.cl l hl,K.mK,K.pr,K.ord⟩
theorem Pn.led(Q:Pn sizes Ls T idle)(h:GT sizes T v):∃ P,Led sizes.length (vf sizes) Ls.length (AA Ls) v P:=by
 have key:∀ k d (v:bI),d+k=sizes.length->G sizes.length (vf sizes) (DD T) k d v->∃ P,Led sizes.length (vf sizes) Ls.length (AA Ls) v P:=by
  intro k
  induction k with
  | zero=>intro d v _ h;exact⟨λ_=>0,λi hi=>by rw[bp (g:=λ_=>0) λl _=>by simp,dr];simpa using h i hi⟩
  | succ k ih =>
   intro d v hn h
   obtain⟨P,hP⟩:=ih (d+1) _ (by omega) h.2
   obtain⟨P',hP'⟩:=Q.ld d (by omega)
   exact⟨_,Led.mix (a:=1) (b:=v d/aH (vf sizes) (DD T) d) hP hP' (λi hi=>⟨0,by omega⟩) λl _=>rfl⟩
 exact key _ 0 v (by omega) h
theorem Pn.jQ(Q:Pn sizes Ls T idle)(g':Good sizes.length (vf sizes) (DD T'))(h:∀ l,l<Ls.length->GT sizes T' (AA Ls l))(hv:GT sizes T v):GT sizes T' v:=by
 obtain⟨P,hP⟩:=Q.led hv
 exact vt g' h hP
theorem gz.led(Q:gz ns sizes raw Ls T idle){v:bI}(h:GT sizes T v):∃ P,Led sizes.length (vf sizes) Ls.length (AA Ls) v P:=Q.pn.led h
theorem gz.jQ(Q:gz ns sizes raw Ls T idle)(g':Good sizes.length (vf sizes) (DD T'))(h:∀ l,l<Ls.length->GT sizes T' (AA Ls l)){v:bI}(hv:GT sizes T v):GT sizes T' v:=Q.pn.jQ g' h hv
theorem gz.o4(Q:gz ns sizes raw Ls T idle)(h:l<Ls.length):GT sizes T (AA Ls l):=Q.st.cl l (by omega)
theorem gz.kept(ns:List Int)(S:Sz sizes)(h8:L.length<=8)(h:∀ l∈L,Kp sizes l):∃ T idle,gz ns sizes L L T idle:=by
 obtain⟨Ls,T,idle,Q⟩:=gz.get ns S h8 λl hl=>⟨(h l hl).1,(h l hl).bd S⟩
 have e:Ls=L:=by rw[Q.eL];exact(List.map_congr_left λl hl=>ot (h l hl).Iq).trans (List.map_id _)
 subst e
 exact⟨T,idle,Q⟩
theorem BE(Q:gz ns sizes raw Ls T idle):∃ LZ K_ T' KP,iA [dN sizes Ls]=M.ok (dN sizes K_)/\gz ns sizes LZ K_ T' KP/\K_.length<=sizes.length/\∀ v,GT sizes T' v ↔ GT sizes T v:=by
 obtain⟨K_,T',KP,ec,Q',Nq⟩:=oh Q
 have t1:=Q.st.wf.len
 have g1:=Q.st.gd
 have g':=Q'.st.gd
 refine⟨_,K_,T',KP,ec,Q',by rw[Nq,← t1];unfold nz;rw[List.length_map];exact List.length_filter_le _ _,λv=>⟨Q'.jQ g1 λl hl=>?_,ou g' (λd hd=>?_) sizes.length 0 v (by omega)⟩⟩
 ·obtain⟨d,hd,e⟩:=ux (T:=T) (n:=sizes.length) (l:=K_[l]) (by rw[← Nq];exact List.getElem_mem _)
  have ea:AA K_ l=DD T d:=by
   unfold AA DD
   rw[List.getD_eq_getElem?_getD,List.getElem?_eq_getElem hl,Option.getD_some,e]
  rw[ea];exact g1.row (by omega) (by omega) (Nat.zero_le _)
 ·by_cases z:(row T d).1=List.replicate sizes.length 0
  ·exact G.ext (by omega) (λi hi=>by show 0=vf (row T d).1 i;rw[z,eV]) (G.zero (by omega))
  ·obtain⟨k,hk,e⟩:=ku (Ls:=K_) (l:=(row T d).1) (by rw[Nq];exact Ar (by omega) z)
   show G sizes.length (vf sizes) (DD T') sizes.length 0 (vf (row T d).1)
   rw[← e];exact Q'.o4 hk
theorem sep(Q:gz ns sizes raw Ls T idle)(h:∀ u:bI,(∀ b,b<sizes.length->R sizes∣eB sizes.length (vf sizes) (R sizes) u (DD T b))->R sizes∣eB sizes.length (vf sizes) (R sizes) u v):GT sizes T v:=by
 have S:=Q.S
 have hq:=yi S
 obtain⟨xs,kx,dv⟩:∃ xs,Kp sizes xs/\∀ i,i<sizes.length->vf sizes i∣vf xs i-v i:=by
  have e:∀ i,i<sizes.length->vf ((List.range sizes.length).map λi=>v i%vf sizes i) i=v i%vf sizes i:=λi hi=>by
   rw[bc (by simpa using hi)];simp
  refine⟨(List.range sizes.length).map λi=>v i%vf sizes i,⟨by simp,λi hi=>?_⟩,λi hi=>?_⟩
  ·rw[e i hi];have:=kE S i hi;exact⟨Int.emod_nonneg _ (by omega),Int.emod_lt_of_pos _ (by omega)⟩
  ·rw[e i hi];exact cY _ _
 suffices gx:GT sizes T (vf xs) from Q.st.gd.j3 (by omega) (λi hi=>by
  obtain⟨x,hx⟩:=dv i hi
  exact⟨-x,by rw[Int.mul_neg,← hx];omega⟩) gx
 apply Classical.byContradiction
 intro ng
 obtain⟨b1,b2,b3,b4⟩:=pT Q.st kx.1 kx.2
 have z:¬ lst sizes Ls T xs=List.replicate sizes.length 0:=λe=>ng ((oF Q kx).mp e)
 have ex:∃ c,c<sizes.length/\(∀ i,i<c->vf (lst sizes Ls T xs) i=0)/\vf (lst sizes Ls T xs) c≠0:=by
  have:¬ ∀ c,c<=sizes.length->∀ i,i<c->vf (lst sizes Ls T xs) i=0:=λh=>z (qR (by simpa using b1) λi hi=>by rw[eV];exact h sizes.length (Nat.le_refl _) i (by omega))
  apply Classical.byContradiction
  intro no
  refine this λc=>?_
  induction c with
  | zero=>intro _ i hi;omega
  | succ c ih =>
   intro hc i hi
   rcases Nat.lt_or_eq_of_le (Nat.le_of_lt_succ hi) with q | q
   ·exact ih (by omega) i q
   ·subst q
    apply Classical.byContradiction
    intro nz
    exact no ⟨i,by omega,ih (by omega),nz⟩
 obtain⟨c,hc,c0,c1⟩:=ex
 obtain⟨Wf,hW⟩:=l4 Q
 have w:=(hW c hc).2
 have r:=b3 c hc
 refine Wk.first Q.st.gd (uh S) hq hc w.wk c0 (by omega) (b2 c hc).2 ?_
 have k1:=h (vf (Wf c)) λb hb=>w.wk.kill b (Nat.zero_le _) hb
 have k2:=tP (w:=vf (Wf c)) hq sizes.length 0 _ (by omega) (λb _ hb=>w.wk.kill b (Nat.zero_le _) hb) b4
 rw[eh] at k1 k2 ⊢
 exact iP hq (a:=1) (b:=-1) (λi hi=>by
  obtain⟨x,hx⟩:=dv i hi
  exact⟨x,by rw[← hx];omega⟩) k1 k2
def Vr(ns sizes:List Int)(p:PV)(H:bI->Prop):Prop:=∃ raw Ls T idle,p=dN sizes Ls/\gz ns sizes raw Ls T idle/\∀ v,H v ↔ GT sizes T v
def An(sizes:List Int)(H:bI->Prop)(u:bI):Prop:=∀ v,H v->R sizes∣eB sizes.length (vf sizes) (R sizes) u v
theorem nB(h:Vr ns sizes p H):∃ r,gj [p]=M.ok r/\Vr ns sizes r (An sizes H)/\∃ L6 K9 T1 LQ,gz ns sizes L6 K9 T1 LQ/\r=dN sizes (nz sizes.length T1)/\∀ v,An sizes H v ↔ GT sizes T1 v:=by
 obtain⟨raw,Ls,T,idle,rfl,Q,hH⟩:=h
 obtain⟨K_,T',KP,E⟩:=xq Q
 obtain⟨⟨LZ,Q'⟩,ln⟩:=E.Q
 obtain⟨L6,K9,T1,i1,Q1,e1,c1⟩:=E.cw
 have hq:=yi Q.S
 have key:∀ u,An sizes H u ↔ GT sizes T' u:=λu=>⟨λh=>E.all u λb hb=>h _ ((hH _).mpr (Q.st.gd.row hb (by omega) (Nat.zero_le _))),λh v hv=>by
  obtain⟨P,hP⟩:=Q'.led h
  rw[eh]
  refine vC hq (λl hl=>?_) hP
  rw[eh]
  exact tP hq sizes.length 0 v (by omega) (λb _ hb=>E.dead l hl b hb) ((hH v).mp hv)⟩
 exact⟨_,E.ev,⟨LZ,K_,T',KP,rfl,Q',key⟩,L6,K9,T1,i1,Q1,by rw[e1],λv=>(key v).trans (c1 v).symm⟩
theorem Vr.an(h:Vr ns sizes p H)(k:∀ u,An sizes H u->R sizes∣eB sizes.length (vf sizes) (R sizes) u v):H v:=by
 obtain⟨raw,Ls,T,idle,rfl,Q,hH⟩:=h
 exact(hH v).mpr (sep Q λu hu=>k u λw hw=>tP (yi Q.S) sizes.length 0 w (by omega) (λb _ hb=>hu b hb) ((hH w).mp hw))
theorem Vr.ext(h:Vr ns sizes p H)(e:∀ v,H v ↔ K v):Vr ns sizes p K:=by
 obtain⟨raw,Ls,T,idle,rfl,Q,hH⟩:=h
 exact⟨raw,Ls,T,idle,rfl,Q,λv=>(e v).symm.trans (hH v)⟩
end
theorem tM(xs ys:List (List Int))(f:List Int->PV)(h:xs.length+ys.length<=1000):dF (.lst (xs.map f)) (.lst (ys.map f))=M.ok (.lst ((xs++ys).map f)):=by
 rw[dF,av (aT (by simpa using h)),List.map_append]
theorem zp(xs ys:List (List Int))(f:List Int->PV)(h:xs.length+ys.length<=1000):dF (.tup (xs.map f)) (.tup (ys.map f))=M.ok (.tup ((xs++ys).map f)):=by
 rw[dF,av (aT (by simpa using h)),List.map_append]
theorem eC(h:l<X.length):AA (X++Y) l=AA X l:=by
 unfold AA;rw[List.getD_eq_getElem?_getD,List.getD_eq_getElem?_getD,List.getElem?_append_left h]
theorem dZ:AA (X++Y) (X.length+l)=AA Y l:=by
 unfold AA;rw[List.getD_eq_getElem?_getD,List.getD_eq_getElem?_getD,List.getElem?_append_right (by omega),Nat.add_sub_cancel_left]
theorem gc(f:Nat->Int)(a:Nat):∀ b,bg (a+b) f=bg a f+bg b λl=>f (a+l)
 | 0=>by simp[bg]
 | b+1=>by rw[← Nat.add_assoc,bg,gc f a b,bg];omega
section
variable{LZ K_ rX:List (List Int)}{TL TX:List Row}{iL iX:List (List Int)}{q r s:PV}{K:bI->Prop}
def Sm(sizes:List Int)(H K:bI->Prop)(v:bI):Prop:=∃ a b:bI,H a/\K b/\∀ i,i<sizes.length->vf sizes i∣v i-(a i+b i)
theorem sV(QL:Pn sizes L TL iL)(hL:∀ l∈L,Kp sizes l):∃ raw Ls T idle,gg [tI sizes,.tup (L.map tI)]=M.ok (dN sizes Ls)/\gz ns sizes raw Ls T idle/\∀ v,GT sizes T v ↔ GT sizes TL v:=by
 suffices h:ky (gg [tI sizes,.tup (L.map tI)]) λp=>∃ raw Ls T idle,p=dN sizes Ls/\gz ns sizes raw Ls T idle/\∀ v,GT sizes T v ↔ GT sizes TL v by
  obtain⟨_,e,raw,Ls,T,idle,rfl,h⟩:=h
  exact⟨raw,Ls,T,idle,e,h⟩
 have S:=QL.S
 obtain⟨T0,i0,Q0⟩:=gz.kept ns S (L:=[]) (by simp) (by simp)
 unfold gg iB
 dsimp? [show dy aq cv [.cy] [tI sizes,.lst []]=M.ok (dN sizes []) from Q0.Bk (f:=tI) (p:=tI sizes) (.inl rfl) rfl]
 refine ky.loop (xs:=L) (inj:=tI) (λzs env=>∃ (y3:Option SV) (raw LC:List (List Int)) (TC:List Row) (iC:List (List Int)) (c:Nat),env=[some (.sh (tI sizes)),some (.sh (.tup (L.map tI))),some (.sh (dN sizes LC)),y3]/\gz ns sizes raw LC TC iC/\LC.length<=6/\zs=L.drop c/\(∀ j,j<c->j<L.length->GT sizes TC (AA L j))/\∀ v,GT sizes TC v->GT sizes TL v) ⟨_,_,_,_,_,0,rfl,Q0,by simp,rfl,λj hj=>by omega,λv hv=>Q0.jQ QL.gd (λl hl=>by simp at hl) hv⟩ ?_ ?_
 ·rintro l r env ⟨y3,raw,LC,TC,iC,c,rfl,QC,l3,hz,hd,hi⟩
  obtain⟨c1,c2,c3⟩:=drop_cons hz.symm
  rw[List.getElem?_eq_getElem c1] at c2
  have el:L[c]=l:=Option.some.inj c2
  have ea:AA L c=vf l:=by unfold AA;rw[List.getD_eq_getElem?_getD,List.getElem?_eq_getElem c1,Option.getD_some,el]
  have kl:Kp sizes l:=hL l (by rw[← el];exact List.getElem_mem _)
  obtain⟨T1,i1,Q1⟩:=gz.kept ns S (L:=LC++[l]) (by simp;omega) λx hx=>by
   rcases List.mem_append.mp hx with h | h
   ·exact QC.kp x h
   ·rw[List.mem_singleton.mp h];exact kl
  obtain⟨LZ,LC',TC',iC',ec,QC',ln,eq⟩:=BE Q1
  have al:AA (LC++[l]) LC.length=vf l:=by
   have:=dZ (X:=LC) (Y:=[l]) (l:=0)
   rw[Nat.add_zero] at this
   rw[this];rfl
  have big:∀ v,GT sizes TC v->GT sizes TC' v:=λv hv=>(eq v).mpr (QC.jQ Q1.st.gd (λj hj=>by
   rw[← eC (Y:=[l]) hj];exact Q1.o4 (by simp;omega)) hv)
  dsimp? [bW,b_,Js,show dF (.lst (LC.map tI)) (.lst [tI l])=M.ok (.lst ((LC++[l]).map tI)) from tM LC [l] tI (by simp;omega),Q1.Bk (f:=tI) (p:=tI sizes) (.inl rfl) rfl,ec]
  refine⟨_,rfl,_,LZ,LC',TC',iC',c+1,rfl,QC',by have:=S.h6;omega,c3.symm,λj h1 h2=>?_,λv hv=>Q1.jQ QL.gd (λj hj=>?_) ((eq v).mp hv)⟩
  ·rcases Nat.lt_or_eq_of_le (Nat.le_of_lt_succ h1) with h | h
   ·exact big _ (hd j h h2)
   ·subst h
    rw[ea,← al];exact(eq _).mpr (Q1.o4 (by simp))
  ·rcases Nat.lt_or_ge j LC.length with h | h
   ·rw[eC h];exact hi _ (QC.o4 h)
   ·obtain rfl:j=LC.length:=by simp at hj;omega
    rw[al,← ea];exact QL.o4 c1
 ·rintro env ⟨y3,raw,LC,TC,iC,c,rfl,QC,l3,hz,hd,hi⟩
  have hc:L.length<=c:=List.drop_eq_nil_iff.mp hz.symm
  dsimp? []
  exact⟨_,rfl,raw,LC,TC,iC,rfl,QC,λv=>⟨hi v,QL.jQ QC.st.gd λj hj=>hd j (by omega) hj⟩⟩
theorem xf:cS [tI sizes,tI sizes]=M.ok .cy:=by
 unfold cS cT
 dsimp? [qZ,decide_true]
theorem yA(h:Vr ns sizes p H)(k:Vr ns sizes q K):∃ r,gE [p,q]=M.ok r/\Vr ns sizes r (Sm sizes H K):=by
 obtain⟨L6,K9,T1,i1,rfl,Q1,h1⟩:=h
 obtain⟨NG,L_,T2,i2,rfl,Q2,h2⟩:=k
 have S:=Q1.S
 have m1:=Q1.m8
 have m2:=Q2.m8
 have kk:∀ x∈K9++L_,Kp sizes x:=λx hx=>by
  rcases List.mem_append.mp hx with h | h
  ·exact Q1.kp x h
  ·exact Q2.kp x h
 obtain⟨TL,iL,QL⟩:=Pn.kept S kk
 obtain⟨raw,Ls,T,idle,ec,Q,eq⟩:=sV (ns:=ns) QL kk
 refine⟨dN sizes Ls,?_,raw,Ls,T,idle,rfl,Q,λv=>?_⟩
 ·unfold gE f_
  dsimp? [b_,Gz,Js,xf,zp K9 L_ tI (by omega),ec]
 rw[eq v]
 constructor
 ·rintro⟨a,b,ha,hb,e⟩
  refine QL.gd.j3 (by omega) e (G.add (by omega) (Q1.jQ QL.gd (λl hl=>?_) ((h1 a).mp ha)) (Q2.jQ QL.gd (λl hl=>?_) ((h2 b).mp hb)))
  ·rw[← eC (Y:=L_) hl];exact QL.o4 (by simp;omega)
  ·rw[← dZ (X:=K9) (l:=l)];exact QL.o4 (by simp;omega)
 ·intro g
  obtain⟨P,hP⟩:=QL.led g
  refine⟨λi=>bg K9.length λl=>P l*AA K9 l i,λi=>bg L_.length λl=>P (K9.length+l)*AA L_ l i,(h1 _).mpr (G.sum Q1.st.gd _ λl hl=>Q1.o4 hl),(h2 _).mpr (G.sum (P:=λl=>P (K9.length+l)) Q2.st.gd _ λl hl=>Q2.o4 hl),λi hi=>?_⟩
  have:=hP i hi
  rw[List.length_append,gc,bp (g:=λl=>P l*AA K9 l i) λl hl=>by rw[eC hl],bp (m:=L_.length) (g:=λl=>P (K9.length+l)*AA L_ l i) λl hl=>by rw[dZ]] at this
  exact this
end
section
variable{LZ K_ rX:List (List Int)}{TL TX:List Row}{iL iX:List (List Int)}{q r s:PV}{K:bI->Prop}
theorem Vr.S(h:Vr ns sizes p H):Sz sizes:=by obtain⟨_,_,_,_,_,Q,_⟩:=h;exact Q.S
theorem Vr.zero(h:Vr ns sizes p H):H λ_=>0:=by
 obtain⟨raw,Ls,T,idle,rfl,Q,hH⟩:=h
 exact(hH _).mpr (G.zero (by omega))
theorem v_(h:Vr ns sizes p H)(k:Vr ns sizes q K):∃ r,oB [p,q]=M.ok r/\Vr ns sizes r (λv=>H v/\K v)/\∃ L6 K9 T1 LQ,gz ns sizes L6 K9 T1 LQ/\r=dN sizes (nz sizes.length T1)/\∀ v,H v/\K v ↔ GT sizes T1 v:=by
 obtain⟨r1,e1,v1,_⟩:=nB h
 obtain⟨r2,e2,v2,_⟩:=nB k
 obtain⟨r3,e3,v3⟩:=yA v1 v2
 obtain⟨r4,e4,v4,L6,K9,T1,i1,Q1,er,c1⟩:=nB v3
 have hq:=yi h.S
 suffices key:∀ v,An sizes (Sm sizes (An sizes H) (An sizes K)) v ↔ H v/\K v from ⟨r4,by unfold oB qF;dsimp? [e1,e2,e3,e4],v4.ext key,L6,K9,T1,i1,Q1,er,λv=>(key v).symm.trans (c1 v)⟩
 refine λv=>⟨λh'=>⟨h.an λu hu=>?_,k.an λu hu=>?_⟩,?_⟩
 ·rw[eh];exact h' u ⟨u,_,hu,v2.zero,λi hi=>⟨0,by omega⟩⟩
 ·rw[eh];exact h' u ⟨_,u,v1.zero,hu,λi hi=>⟨0,by omega⟩⟩
 ·rintro⟨a,b⟩ u ⟨x,y,hx,hy,e⟩
  rw[eh]
  exact iP hq (a:=1) (b:=1) (λi hi=>by rw[Int.one_mul,Int.one_mul];exact e i hi) (hx v a) (hy v b)
theorem C2(Q:gz ns sizes raw Ls T idle)(Q':gz ns sizes LZ K_ T' KP)(h:∀ v,GT sizes T v ↔ GT sizes T' v):T.map (·.1)=T'.map (·.1):=by
 have g:=Q.st.gd
 have g':=Q'.st.gd
 have t:=Q.st.wf.len
 have t':=Q'.st.wf.len
 have se:=uC g g' (λd hd=>(h _).mpr (g'.row hd (by omega) (Nat.zero_le _))) (λd hd=>(h _).mp (g.row hd (by omega) (Nat.zero_le _)))
 refine List.ext_getElem (by simp;omega) λd h1 h2=>?_
 simp only[List.length_map] at h1 h2
 rw[List.getElem_map,List.getElem_map,← eM h1,← eM h2]
 have hd:d<sizes.length:=by omega
 refine qR (by rw[Q.st.wf.lT hd,Q'.st.wf.lT hd]) λi hi=>?_
 rw[Q.st.wf.lT hd] at hi
 show DD T d i=DD T' d i
 have sd:=se d hd
 have r:=g.hU d hd d hd
 have r':=g'.hU d hd d hd
 have dg:DD T d d=DD T' d d:=by
  unfold aH at sd
  split at sd <;> split at sd <;> omega
 by_cases z:DD T d d=0
 ·rw[Q.nul d hd z i hi,Q'.nul d hd (by omega) i hi]
 ·have gv:=g.sub (by omega) (g.row hd (by omega) (Nat.zero_le _)) ((h _).mpr (g'.row hd (by omega) (Nat.zero_le _)))
  have:=G.diff g sizes.length 0 (λi=>DD T d i-DD T' d i) (by omega) (λi hi=>by have:=g.hU d hd i hi;have:=g'.hU d hd i hi;omega) (λi _ hi=>by
   have p:=g.pos hi
   rcases Nat.lt_trichotomy i d with c | c | c
   ·rw[g.pQ d hd i c,g'.pQ d hd i c];omega
   ·subst c;omega
   ·have a:=Q.low d hd i c hi
    have b:=Q'.low d hd i c hi
    rw[← se i hi] at b
    have:=g.hU d hd i hi;have:=g'.hU d hd i hi
    omega) gv i hi
  omega
end
theorem lx(f:Nat->Int)(a:Nat):∀ b,aA (a+b) f=aA a f*aA b λl=>f (a+l)
 | 0=>by simp[aA]
 | b+1=>by rw[← Nat.add_assoc,aA,lx f a b,aA,Int.mul_assoc]
theorem wz(ha:0<a)(hb:0<b)(h:∀ k,a∣k ↔ b∣k):a=b:=Int.dvd_antisymm (by omega) (by omega) ((h b).mpr (Int.dvd_refl b)) ((h a).mp (Int.dvd_refl a))
section
variable{LZ K_ rX:List (List Int)}{TL TX:List Row}{iL iX:List (List Int)}{q r s:PV}{K:bI->Prop}
theorem IV(Q:Pn sizes Ls T idle)(hj:j<Ls.length)(k:Int):II idle j j∣k ↔ ∃ P:bI,Zf (j+1) Ls.length P/\P j=k/\Led sizes.length (vf sizes) Ls.length (AA Ls) (λ_=>0) P:=by
 constructor
 ·rintro⟨c,rfl⟩
  refine⟨λl=>c*II idle j l,λl h1 h2=>by show c*II idle j l=0;rw[Q.I.zero j hj l (by omega) h2,Int.mul_zero],Int.mul_comm _ _,Led.mix (a:=c) (b:=0) (Q.I.mK j hj) (Q.I.mK j hj) (λi _=>⟨0,by simp⟩) λl _=>by simp⟩
 ·rintro⟨P,z,rfl,led⟩
  exact Q.ord j hj P z led
theorem tF(Q:Pn sizes (X++Y) T idle)(QX:Pn sizes X TX iX)(hj:j<X.length):II idle j j=II iX j j:=by
 refine wz (Q.I.pos j (by simp;omega)) (QX.I.pos j hj) λk=>?_
 rw[IV Q (by simp;omega) k,IV QX hj k]
 have sx:∀ (P:bI) i,bg X.length (λl=>P l*AA (X++Y) l i)=bg X.length λl=>P l*AA X l i:=λP i=>bp λl hl=>by rw[eC hl]
 constructor
 ·rintro⟨P,z,e,led⟩
  refine⟨P,λl h1 h2=>z l h1 (by simp;omega),e,λi hi=>?_⟩
  have:=led i hi
  rwa [List.length_append,gc,sx,bp (m:=Y.length) (g:=λ_=>0) λl hl=>by rw[z (X.length+l) (by omega) (by simp;omega),Int.zero_mul],dr,Int.add_zero] at this
 ·rintro⟨P,z,e,led⟩
  refine⟨λl=>if l<X.length then P l else 0,λl h1 h2=>?_,by show (if j<X.length then P j else 0)=k;rw[if_pos hj,e],λi hi=>?_⟩
  ·show (if l<X.length then P l else 0)=0
   split
   ·rename_i h;exact z l h1 h
   ·rfl
  ·rw[List.length_append,gc,bp (m:=X.length) (g:=λl=>P l*AA X l i) λl hl=>by rw[eC hl];show (if l<X.length then P l else 0)*_=_;rw[if_pos hl],bp (m:=Y.length) (g:=λ_=>0) λl hl=>by show (if X.length+l<X.length then P (X.length+l) else 0)*_=0;rw[if_neg (by omega),Int.zero_mul],dr,Int.add_zero]
   exact led i hi
theorem pD(Q:Pn sizes (X++Y) T idle)(QX:Pn sizes X TX iX)(hj:j<Y.length)(k:Int):II idle (X.length+j) (X.length+j)∣k ↔ ∃ P:bI,Zf (j+1) Y.length P/\P j=k/\GT sizes TX λi=>bg Y.length λl=>P l*AA Y l i:=by
 rw[IV Q (by simp;omega) k]
 constructor
 ·rintro⟨P,z,e,led⟩
  refine⟨λl=>P (X.length+l),λl h1 h2=>z _ (by omega) (by simp;omega),e,?_⟩
  refine QX.gd.j3 (by omega) (λi hi=>?_) (G.mul (-1) (by omega) (G.sum (P:=P) QX.gd X.length λl hl=>QX.o4 hl))
  obtain⟨c,hc⟩:=led i hi
  rw[List.length_append,gc,bp (m:=X.length) (g:=λl=>P l*AA X l i) λl hl=>by rw[eC hl],bp (m:=Y.length) (g:=λl=>P (X.length+l)*AA Y l i) λl hl=>by rw[dZ]] at hc
  replace hc:(0:Int)-(bg X.length (λl=>P l*AA X l i)+bg Y.length λl=>P (X.length+l)*AA Y l i)=vf sizes i*c:=hc
  exact⟨-c,by show bg Y.length (λl=>P (X.length+l)*AA Y l i) - -1*bg X.length (λl=>P l*AA X l i)=vf sizes i*-c;rw[Int.mul_neg,← hc];omega⟩
 ·rintro⟨P,z,e,g⟩
  obtain⟨S,hS⟩:=QX.led g
  refine⟨λl=>if l<X.length then -(S l) else P (l-X.length),λl h1 h2=>?_,?_,λi hi=>?_⟩
  ·show (if l<X.length then -(S l) else P (l-X.length))=0
   rw[if_neg (by omega)];exact z _ (by omega) (by simp at h2;omega)
  ·show (if X.length+j<X.length then -(S (X.length+j)) else P (X.length+j-X.length))=k
   rw[if_neg (by omega),Nat.add_sub_cancel_left,e]
  ·obtain⟨c,hc⟩:=hS i hi
   have e1:=fy (-1) 0 (λl=>S l*AA X l i) (λl=>S l*AA X l i) (λl=>(if l<X.length then -(S l) else P (l-X.length))*AA (X++Y) l i) X.length λl hl=>by rw[eC hl,if_pos hl,Int.neg_mul];omega
   rw[List.length_append,gc,e1,bp (m:=Y.length) (g:=λl=>P l*AA Y l i) λl hl=>by rw[dZ];show (if X.length+l<X.length then _ else _)*_=_;rw[if_neg (by omega),Nat.add_sub_cancel_left]]
   exact⟨-c,by rw[Int.mul_neg,← hc];show 0-_=-(bg Y.length (λl=>P l*AA Y l i)-_);omega⟩
theorem Bg(Q:Pn sizes Ls T idle)(Q':Pn sizes K_ T' KP)(h:∀ v,GT sizes T v ↔ GT sizes T' v):aA Ls.length (λj=>II idle j j)=aA K_.length λj=>II KP j j:=by
 have g:=Q.gd
 have g':=Q'.gd
 have se:=uC g g' (λd hd=>(h _).mpr (g'.row hd (by omega) (Nat.zero_le _))) (λd hd=>(h _).mp (g.row hd (by omega) (Nat.zero_le _)))
 have p:=Q.pr
 rw[bX se] at p
 exact cancel (a:=aA sizes.length (aH (vf sizes) (DD T'))) (dm λl hl=>(g'.pos hl).1) (by rw[Int.mul_comm];exact p) Q'.pr
theorem yH{L6 K9 NG L_ Oh MI Oi Ls4 i1 i2 i3 i4:List (List Int)}{T1 T2 T3 T4:List Row}(Q1:gz ns sizes L6 K9 T1 i1)(Q2:gz ns sizes NG L_ T2 i2)(Q3:gz ns sizes Oh MI T3 i3)(Q4:gz ns sizes Oi Ls4 T4 i4)(h1:∀ v,H v ↔ GT sizes T1 v)(h2:∀ v,K v ↔ GT sizes T2 v)(h3:∀ v,H v/\K v ↔ GT sizes T3 v)(h4:∀ v,Sm sizes H K v ↔ GT sizes T4 v):aA sizes.length (aH (vf sizes) (DD T3))*aA sizes.length (aH (vf sizes) (DD T4))=aA sizes.length (aH (vf sizes) (DD T1))*aA sizes.length (aH (vf sizes) (DD T2)):=by
 have S:=Q1.S
 obtain⟨T5,i5,Q5⟩:=Pn.kept S (L:=L_++K9) λx hx=>(List.mem_append.mp hx).elim (Q2.kp x) (Q1.kp x)
 obtain⟨T6,i6,Q6⟩:=Pn.kept S (L:=MI++K9) λx hx=>(List.mem_append.mp hx).elim (Q3.kp x) (Q1.kp x)
 have g5:∀ v,GT sizes T4 v ↔ GT sizes T5 v:=λv=>by
  rw[← h4 v]
  constructor
  ·rintro⟨a,b,ha,hb,e⟩
   refine Q5.gd.j3 (by omega) e (G.add (by omega) (Q1.jQ Q5.gd (λl hl=>?_) ((h1 a).mp ha)) (Q2.jQ Q5.gd (λl hl=>?_) ((h2 b).mp hb)))
   ·rw[← dZ (X:=L_) (l:=l)];exact Q5.o4 (by simp;omega)
   ·rw[← eC (Y:=K9) hl];exact Q5.o4 (by simp;omega)
  ·intro g
   obtain⟨P,hP⟩:=Q5.led g
   refine⟨λi=>bg K9.length λl=>P (L_.length+l)*AA K9 l i,λi=>bg L_.length λl=>P l*AA L_ l i,(h1 _).mpr (G.sum (P:=λl=>P (L_.length+l)) Q1.st.gd _ λl hl=>Q1.o4 hl),(h2 _).mpr (G.sum Q2.st.gd _ λl hl=>Q2.o4 hl),λi hi=>?_⟩
   have:=hP i hi
   rw[List.length_append,gc,bp (g:=λl=>P l*AA L_ l i) λl hl=>by rw[eC hl],bp (m:=K9.length) (g:=λl=>P (L_.length+l)*AA K9 l i) λl hl=>by rw[dZ],Int.add_comm] at this
   exact this
 have g6:∀ v,GT sizes T1 v ↔ GT sizes T6 v:=λv=>⟨Q1.jQ Q6.gd λl hl=>by rw[← dZ (X:=MI) (l:=l)];exact Q6.o4 (by simp;omega),Q6.jQ Q1.st.gd λl hl=>by
  rcases Nat.lt_or_ge l MI.length with c | c
  ·rw[eC c];exact(h1 _).mp ((h3 _).mpr (Q3.o4 c)).1
  ·obtain⟨m,rfl⟩:∃ m,l=MI.length+m:=⟨l-MI.length,by omega⟩
   rw[dZ];exact Q1.o4 (by simp at hl;omega)⟩
 have e5:=Bg Q4.pn Q5 g5
 have e6:=Bg Q1.pn Q6 g6
 rw[List.length_append,lx,bX (m:=L_.length) (g:=λj=>II i2 j j) λj hj=>tF Q5 Q2.pn hj] at e5
 rw[List.length_append,lx,bX (m:=MI.length) (g:=λj=>II i3 j j) λj hj=>tF Q6 Q3.pn hj] at e6
 have ef:aA K9.length (λl=>II i5 (L_.length+l) (L_.length+l))=aA K9.length λl=>II i6 (MI.length+l) (MI.length+l):=bX λj hj=>wz (Q5.I.pos _ (by simp;omega)) (Q6.I.pos _ (by simp;omega)) λk=>by
  rw[pD Q5 Q2.pn hj k,pD Q6 Q3.pn hj k]
  have key:∀ P:bI,GT sizes T2 (λi=>bg K9.length λl=>P l*AA K9 l i) ↔ GT sizes T3 λi=>bg K9.length λl=>P l*AA K9 l i:=λP=>by
   rw[← h2,← h3]
   exact⟨λh=>⟨(h1 _).mpr (G.sum Q1.st.gd _ λl hl=>Q1.o4 hl),h⟩,λh=>h.2⟩
  exact⟨λ⟨P,a,b,c⟩=>⟨P,a,b,(key P).mp c⟩,λ⟨P,a,b,c⟩=>⟨P,a,b,(key P).mpr c⟩⟩
 have p1:=Q1.pr
 have p2:=Q2.pr
 have p3:=Q3.pr
 have p4:=Q4.pr
 have z1:0<aA K9.length (λj=>II i1 j j):=dm λl hl=>Q1.I.pos l hl
 have z2:0<aA L_.length (λj=>II i2 j j):=dm λl hl=>Q2.I.pos l hl
 have key:aA K9.length (λj=>II i1 j j)*aA L_.length (λj=>II i2 j j)=aA Ls4.length (λj=>II i4 j j)*aA MI.length (λj=>II i3 j j):=by
  rw[e5,e6,ef]
  generalize aA K9.length (λl=>II i6 (MI.length+l) (MI.length+l))=f
  grind
 generalize aA K9.length (λj=>II i1 j j)=a at *
 generalize aA L_.length (λj=>II i2 j j)=b at *
 generalize aA MI.length (λj=>II i3 j j)=c at *
 generalize aA Ls4.length (λj=>II i4 j j)=d at *
 generalize aA sizes.length (aH (vf sizes) (DD T1))=A at *
 generalize aA sizes.length (aH (vf sizes) (DD T2))=B at *
 generalize aA sizes.length (aH (vf sizes) (DD T3))=C at *
 generalize aA sizes.length (aH (vf sizes) (DD T4))=D at *
 have e1:a*b*(A*B)=a*b*(C*D):=by
  rw[show a*b*(A*B)=(a*A)*(b*B) by grind,p1,p2,key,show d*c*(C*D)=(c*C)*(d*D) by grind,p3,p4]
 exact(Int.eq_of_mul_eq_mul_left (Int.ne_of_gt (Int.mul_pos z1 z2)) e1).symm
end
section
variable{K_:List (List Int)}{P W:List Int}
theorem tV(hl:xs.length<=8)(hx:∀ x∈xs,0<x/\x<2^60):bG [tI xs]=M.ok (.int (aA xs.length (vf xs))):=by
 refine ky.eq ?_
 unfold bG ee
 dsimp? []
 refine ky.loop (xs:=xs) (inj:=PV.int) (λzs env=>∃ (c:Nat) (y:Option SV),env=[some (.sh (tI xs)),some (.sh (.int (aA c (vf xs)))),y]/\zs=xs.drop c/\c<=xs.length) ⟨0,_,rfl,rfl,by omega⟩ ?_ ?_
 ·rintro a r env ⟨c,y,rfl,hd,hc⟩
  obtain⟨c1,c2,c3⟩:=drop_cons hd.symm
  rw[List.getElem?_eq_getElem c1] at c2
  have e2:xs[c]=a:=Option.some.inj c2
  have ha:=hx a (by rw[← e2];exact List.getElem_mem _)
  have b:=u_ (rA hx c hc)
  have b':(aA c (vf xs)).natAbs<2^490:=Nat.lt_of_lt_of_le b (Nat.pow_le_pow_right (by decide) (by omega))
  have ep:aA c (vf xs)*a=aA (c+1) (vf xs):=by show _=aA c (vf xs)*vf xs c;rw[bc c1,e2]
  dsimp? [bW,bj (i:=aA c (vf xs)) (j:=a) (k:=490) (l:=60) b' (u_ ha),ep]
  exact⟨_,rfl,c+1,_,rfl,c3.symm,by omega⟩
 ·rintro env ⟨c,y,rfl,hd,hc⟩
  have:=congrArg List.length hd
  rw[List.length_drop] at this
  simp at this
  obtain rfl:c=xs.length:=by omega
  dsimp? []
  exact⟨_,rfl,rfl⟩
theorem tj(Q:gz ns sizes raw Ls T idle):(∀ x∈i8 sizes T,0<x/\x<2^60)/\aA sizes.length (vf (i8 sizes T))=aA sizes.length (aH (vf sizes) (DD T)):=by
 refine⟨λx hx=>?_,bX λj hj=>mF hj⟩
 obtain⟨i,hi,rfl⟩:=List.mem_iff_getElem.mp hx
 rw[dG] at hi
 have:=mF (sizes:=sizes) (R:=T) hi
 rw[bc (by rw[dG];exact hi)] at this
 rw[this]
 have a:=Q.st.gd.pos hi
 have b:=kE Q.S i hi
 omega
theorem kL(Q:gz ns sizes raw Ls T idle)(hx:Kp sizes xs):∃ b:Bool,bY [jf sizes Ls T idle,tI xs]=M.ok (.bl b)/\(b=true ↔ GT sizes T (vf xs)):=by
 have m8:=Q.m8
 by_cases z:lst sizes Ls T xs=List.replicate sizes.length 0
 ·have g:=(oF Q hx).mp z
  obtain⟨et,_⟩:=zC (k:=Ls.length+1) Q.S m8 Q.st (by omega) Q.I hx.Iq hx.2 g
  refine⟨true,?_,λ_=>g,λ_=>rfl⟩
  unfold bY fk
  dsimp? [b_,uH (m := "pulls_to") rfl,et,show ∀ xs:List Int,jF (tI xs) .cy=M.ok (.bl true) from λ_=>rfl]
 ·refine⟨false,?_,⟨(λh=>by cases h),λg=>(z ((oF Q hx).mpr g)).elim⟩⟩
  unfold bY fk
  dsimp? [b_,uH (m := "pulls_to") rfl,za (idle:=idle) Q.S m8 Q.st (show Ls.length+1<=9 by omega) hx.1 hx.2 z,show jF .cy .cy=M.ok (.bl false) from rfl]
theorem Ba(S:Sz sizes)(h:xs.length=sizes.length/\∀ z∈xs.zip sizes,0<=z.1/\z.1<z.2):Kp sizes xs:=⟨h.1,EZ h.1 h.2⟩
theorem Ei{a b:PV}(x:Int):∃ c,aQ (.lst [a,b]) (.int (x%2))=M.ok c/\(c=a\/c=b):=by
 rcases show x%2=0\/x%2=1 by omega with h | h <;> rw[h]
 ·exact⟨a,bw (p:=.lst [a,b]) (j:=0) rfl rfl,.inl rfl⟩
 ·exact⟨b,bw (p:=.lst [a,b]) (j:=1) rfl rfl,.inr rfl⟩
theorem u4(S:Sz sizes){L0 L1:List (List Int)}(h0:∀ l∈L0,Kp sizes l)(h1:∀ l∈L1,Kp sizes l)(m0:L0.length<=8)(m1:L1.length<=8)(gd:Good sizes.length (vf sizes) (DD T))(g0:∀ l∈L0,GT sizes T (vf l))(g1:∀ l∈L1,GT sizes T (vf l))(c:Int):ky (c_ [.int c,.lst [.lst (L0.map tI),.lst (L1.map tI)],lI sizes]) λp=>∃ xs:List Int,p=tI xs/\Kp sizes xs/\(¬ c%3=0->GT sizes T (vf xs)):=by
 have l6:=S.h6
 have mz:ck (.lst [.int 0]) (.int (sizes.length:Int))=M.ok (lI (List.replicate sizes.length 0)):=by rw[sJ (.int 0) sizes.length (by omega),lI,List.map_replicate]
 by_cases z:c%3=0
 ·obtain⟨xs,ed,xk⟩:=k9 (c/3) (lI sizes) sizes rfl (λb hb=>by have:=S.hx b hb;omega) (by omega)
  unfold c_ cV
  dsimp? [mz,aP (i:=c) (j:=3) (by decide),z,decide_true,aL (i:=c) (j:=3) (by decide) (by decide),ed,gf (n:=0) (by decide) (by decide),show (0:Int).toNat=0 from rfl,List.range_zero,jc]
  exact⟨_,rfl,xs,rfl,Ba S xk,λh=>(h trivial).elim⟩
 ·obtain⟨m,hm⟩:=Int.eq_ofNat_of_zero_le (show 0<=c%3 by omega)
  have m2:m<=2:=by omega
  have zm:¬ (m:Int)=0:=by omega
  unfold c_ cV
  dsimp? [mz,aP (i:=c) (j:=3) (by decide),hm,zm,decide_false,gf (n:=(m:Int)) (by omega) (by omega),Int.toNat_natCast]
  refine ky.loop (xs:=List.range m) (inj:=λ(i:Nat)=>.int (i:Int)) (λzs env=>(∀ z∈zs,z<2)/\∃ (F:List Int) (y4 y5 y6 y7:Option SV),env=[some (.sh (.int c)),some (.sh (.lst [.lst (L0.map tI),.lst (L1.map tI)])),some (.sh (lI sizes)),some (.sh (lI F)),y4,y5,y6,y7]/\Kp sizes F/\GT sizes T (vf F)) ⟨λz h=>by have:=List.mem_range.mp h;omega,List.replicate sizes.length 0,none,none,none,none,rfl,AN S,G.ext (by omega) (λi hi=>by rw[eV]) (G.zero (by omega))⟩ ?_ ?_
  ·rintro w r env ⟨hw,F,y4,y5,y6,y7,rfl,Fk,Fg⟩
   have w2:=hw w List.mem_cons_self
   have hw':∀ z∈r,z<2:=λz h=>hw z (List.mem_cons_of_mem _ h)
   obtain⟨p,ei,hp⟩:=Ei (a:=.lst (L0.map tI)) (b:=.lst (L1.map tI)) ((w:Int)+c/3)
   obtain⟨L,rfl,hL,mL,gL⟩:∃ L:List (List Int),p=.lst (L.map tI)/\(∀ l∈L,Kp sizes l)/\L.length<=8/\∀ l∈L,GT sizes T (vf l):=by
    rcases hp with rfl | rfl
    ·exact⟨L0,rfl,h0,m0,g0⟩
    ·exact⟨L1,rfl,h1,m1,g1⟩
   dsimp? [bW,aL (i:=c) (j:=3) (by decide) (by decide),aP (i:=(w:Int)+c/3) (j:=2) (by decide),ei,mS]
   refine ky.loop (xs:=L.zipIdx) (inj:=λa=>.tup [.int (a.2:Int),tI a.1]) (λzs env=>(∀ z∈zs,z∈L.zipIdx)/\∃ (F:List Int) (y5 y6 y7:Option SV),env=[some (.sh (.int c)),some (.sh (.lst [.lst (L0.map tI),.lst (L1.map tI)])),some (.sh (lI sizes)),some (.sh (lI F)),some (.sh (.int (w:Int))),y5,y6,y7]/\Kp sizes F/\GT sizes T (vf F)) ⟨λz h=>h,F,_,_,_,rfl,Fk,Fg⟩ ?_ ?_
   ·rintro a r env ⟨hz,F,y5,y6,y7,rfl,Fk,Fg⟩
    have ha:=hz a List.mem_cons_self
    have a2:=List.snd_lt_of_mem_zipIdx ha
    have ka:=hL a.1 (List.fst_mem_of_mem_zipIdx ha)
    have ga:=gL a.1 (List.fst_mem_of_mem_zipIdx ha)
    obtain⟨x,ex,x0,x1⟩:=vi c (60+10*w+a.2) (by omega)
    rw[show ((60+10*w+a.2:Nat):Int)=60+10*(w:Int)+(a.2:Int) by omega] at ex
    obtain⟨t,ht⟩:∃ t,t=x%1000:=⟨_,rfl⟩
    have tb:t.natAbs<2^64:=by omega
    obtain⟨k1,k2,k3⟩:=vv (t:=t) S Fk.1 ka.1
    have key:bP (pK 0 1 2) none (aj cQ (aj dF (ae 0) (aj ck (ae 3) (ae 1))) (ae 2)) ((F.zip (a.1.zip sizes)).map λz=>.tup [.int z.1,.int z.2.1,.int z.2.2]) [none,none,none,some (.sh (.int t))]=M.ok ((oQ sizes F a.1 t).map PV.int):=by
     rw[oQ,List.map_map]
     refine EW (p:=λz:Int×Int×Int=>PV.int z.1) (q:=λz=>PV.int z.2.1) (s:=λz=>PV.int z.2.2) (F.zip (a.1.zip sizes)) λz hz=>?_
     obtain⟨n1,n2⟩:=List.of_mem_zip (a:=z.1) (b:=z.2) hz
     obtain⟨n3,n4⟩:=List.of_mem_zip (a:=z.2.1) (b:=z.2.2) n2
     have:=S.hx _ n4
     dsimp? [bj (i:=t) (j:=z.2.1) (k:=64) (l:=200) tb (ka.bd S _ n3),aP (i:=z.1+t*z.2.1) (j:=z.2.2) (by omega)]
     rfl
    have z1:(F.zip (a.1.zip sizes)).length<=sizeLine:=by simp only[List.length_zip];exact aT (by omega)
    dsimp? [cP,bj (i:=10) (j:=(w:Int)) (k:=31) (l:=31) (by decide) (by omega),ex,aP (i:=x) (j:=1000) (by decide),ht.symm,Bi (p:=lI F) (q:=tI a.1) (r:=lI sizes) F a.1 sizes rfl rfl rfl,List.length_map,av z1,key]
    exact⟨_,rfl,λz h=>hz z (List.mem_cons_of_mem _ h),_,_,_,_,rfl,⟨k1,k2⟩,gd.j3 (by omega) (λi hi=>k3 i hi) (G.add (by omega) Fg (G.mul t (by omega) ga))⟩
   ·rintro env ⟨_,F,y5,y6,y7,rfl,Fk,Fg⟩
    exact⟨_,rfl,hw',F,_,_,_,_,rfl,Fk,Fg⟩
  ·rintro env ⟨_,F,y4,y5,y6,y7,rfl,Fk,Fg⟩
   dsimp? []
   exact⟨_,rfl,F,rfl,Fk,λ_=>Fg⟩
end
abbrev fI:af->M PV:=aj cQ (aj bB (ae 3) (λ_=>M.ok (.int 9))) (λ_=>M.ok (.int 2))
abbrev fV:af->M PV:=ai dq (aa (aj bB (ae 3) (λ_=>M.ok (.int 18))) (aa (ae 1) ao))
abbrev eN(ns sizes:List Int)(y:Option SV):af:=[some (.sh (.iU (ns.map PV.int))),some (.sh (lI sizes)),none,y,none,none,none,none,none,none,none,none,none,none]
theorem nR{ns sizes:List Int}(S:Sz sizes):∀ (cs:List Int) (L0 L1:List (List Int)) (y:Option SV),(∀ l∈L0,Kp sizes l)->(∀ l∈L1,Kp sizes l)->L0.length<=8->L1.length<=8 ->
  ∃ (NI NJ:List (List Int)) (y':Option SV),vg 3 fI fV (cs.map PV.int) (eN ns sizes y) (L0.map tI) (L1.map tI)=M.ok (eN ns sizes y',NI.map tI,NJ.map tI)/\(∀ l∈NI,Kp sizes l)/\(∀ l∈NJ,Kp sizes l)/\NI.length<=8/\NJ.length<=8
 | [],L0,L1,y,h0,h1,m0,m1=>⟨L0,L1,y,rfl,h0,h1,m0,m1⟩
 | c::cs,L0,L1,y,h0,h1,m0,m1=>by
  obtain⟨_,el,l,rfl,lk⟩:=xt S (c/18)
  have kl:=Ba S lk
  have ad:∀ L:List (List Int),(∀ l∈L,Kp sizes l)->∀ x∈L++[l],Kp sizes x:=λL h x hx=>by
   rcases List.mem_append.mp hx with q | q
   ·exact h x q
   ·rw[List.mem_singleton.mp q];exact kl
  rw[List.map_cons,vg]
  show ∃ (NI NJ:List (List Int)) (y':Option SV),M.bind (Ci fI fV (eN ns sizes (some (.sh (.int c)))) _ _) _=_/\_
  rcases show c/9%2=0\/c/9%2=1 by omega with z | z
  ·have ei:fI (eN ns sizes (some (.sh (.int c))))=M.ok (.int 0):=by
    unfold fI eN
    dsimp? [aL (i:=c) (j:=9) (by decide) (by decide),aP (i:=c/9) (j:=2) (by decide),z]
   rw[Ci,ei,M.aE]
   show ∃ (NI NJ:List (List Int)) (y':Option SV),M.bind (if (L0.map tI).length<8 then (fV (eN ns sizes (some (.sh (.int c))))).bind λv=>M.ok (L0.map tI++[v],L1.map tI) else M.ok (L0.map tI,L1.map tI)) _=_/\_
   by_cases q:(L0.map tI).length<8
   ·have ev:fV (eN ns sizes (some (.sh (.int c))))=M.ok (tI l):=by
     unfold fV eN
     dsimp? [aL (i:=c) (j:=18) (by decide) (by decide),el]
    rw[if_pos q,ev,M.aE,M.aE]
    have:=nR (ns:=ns) S cs (L0++[l]) L1 (some (.sh (.int c))) (ad L0 h0) h1 (by simp at q ⊢;omega) m1
    rw[List.map_append] at this
    exact this
   ·rw[if_neg q,M.aE]
    exact nR S cs L0 L1 _ h0 h1 m0 m1
  ·have ei:fI (eN ns sizes (some (.sh (.int c))))=M.ok (.int 1):=by
    unfold fI eN
    dsimp? [aL (i:=c) (j:=9) (by decide) (by decide),aP (i:=c/9) (j:=2) (by decide),z]
   rw[Ci,ei,M.aE]
   show ∃ (NI NJ:List (List Int)) (y':Option SV),M.bind (if (L1.map tI).length<8 then (fV (eN ns sizes (some (.sh (.int c))))).bind λv=>M.ok (L0.map tI,L1.map tI++[v]) else M.ok (L0.map tI,L1.map tI)) _=_/\_
   by_cases q:(L1.map tI).length<8
   ·have ev:fV (eN ns sizes (some (.sh (.int c))))=M.ok (tI l):=by
     unfold fV eN
     dsimp? [aL (i:=c) (j:=18) (by decide) (by decide),el]
    rw[if_pos q,ev,M.aE,M.aE]
    have:=nR (ns:=ns) S cs L0 (L1++[l]) (some (.sh (.int c))) h0 (ad L1 h1) m0 (by simp at q ⊢;omega)
    rw[List.map_append] at this
    exact this
   ·rw[if_neg q,M.aE]
    exact nR S cs L0 L1 _ h0 h1 m0 m1
theorem xp(xs:List Int)(h:xs.length<=100):dF (.lst [.int 0]) (.lst (xs.map PV.int))=M.ok (.lst ((0::xs).map PV.int)):=by
 rw[dF,av (aT (by simp;omega))];rfl
theorem HM(h:T.map (·.1)=T'.map (·.1)):nz n T=nz n T':=by
 have:∀ T:List Row,nz n T=(T.map (·.1)).filter λr=>!decide (r=List.replicate n 0):=λT=>by
  unfold nz
  rw[List.filter_map];rfl
 rw[this,this,h]
theorem Ft(ns:List Int):pE [.iU (ns.map PV.int)]=M.ok (.bl true):=by
 obtain⟨c0,ec⟩:=C0 ns 0 (by decide)
 rw[show ((0:Nat):Int)=0 from rfl] at ec
 obtain⟨_,es,sizes,rfl,S⟩:=yg c0
 have l6:=S.h6
 have l1:=S.h1
 obtain⟨L0,L1,y3,e2,k0,k1,m0,m1⟩:=nR (ns:=ns) S (jW ns 1 17) [] [] none (by simp) (by simp) (by simp) (by simp)
 obtain⟨T0,i0,Q0⟩:=gz.kept ns S m0 k0
 obtain⟨T1,i1,Q1⟩:=gz.kept ns S m1 k1
 have V0:Vr ns sizes (dN sizes L0) (GT sizes T0):=⟨_,_,_,_,rfl,Q0,λ_=>Iff.rfl⟩
 have V1:Vr ns sizes (dN sizes L1) (GT sizes T1):=⟨_,_,_,_,rfl,Q1,λ_=>Iff.rfl⟩
 obtain⟨_,eb,⟨NG,L2',T2,i2,rfl,Q2,h2⟩,_⟩:=v_ V0 V1
 obtain⟨_,et,⟨Oh,L3,T3,i3,rfl,Q3,h3⟩⟩:=yA V0 V1
 obtain⟨_,eo,_,Oi,L4,T4,i4,Q4,rfl,h4⟩:=v_ V0 V0
 obtain⟨L5,T5,i5,e5,_,eL5⟩:=oh Q0
 have en:nz sizes.length T4=L5:=by
  rw[eL5]
  exact HM (C2 Q4 Q0 λv=>((h4 v).symm.trans ⟨λh=>h.1,λh=>⟨h,h⟩⟩))
 have cq:=yH Q0 Q1 Q2 Q3 (λ_=>Iff.rfl) (λ_=>Iff.rfl) h2 h3
 have sp:∀ {raw Ls T idle},gz ns sizes raw Ls T idle->bG [tI (i8 sizes T)]=M.ok (.int (aA sizes.length (aH (vf sizes) (DD T))))/\(aA sizes.length (aH (vf sizes) (DD T))).natAbs<2^490:=λ{raw Ls T idle} Q=>by
  obtain⟨b,c⟩:=tj Q
  have p:=tV (xs:=i8 sizes T) (by rw[dG];omega) b
  rw[dG,c] at p
  have q:=u_ (rA b sizes.length (by rw[dG];omega))
  rw[c] at q
  exact⟨p,Nat.lt_of_lt_of_le q (Nat.pow_le_pow_right (by decide) (by omega))⟩
 obtain⟨s0,b0⟩:=sp Q0
 obtain⟨s1,b1⟩:=sp Q1
 obtain⟨s2,b2⟩:=sp Q2
 obtain⟨s3,b3⟩:=sp Q3
 have g3:∀ l,Kp sizes l->(GT sizes T0 (vf l)\/GT sizes T1 (vf l))->GT sizes T3 (vf l):=λl _ h=>by
  refine(h3 _).mp ?_
  rcases h with h | h
  ·exact⟨_,_,h,V1.zero,λi _=>⟨0,by omega⟩⟩
  ·exact⟨_,_,V0.zero,h,λi _=>⟨0,by omega⟩⟩
 have gA:∀ l∈L0,GT sizes T3 (vf l):=λl hl=>g3 l (k0 l hl) (.inl (by obtain⟨k,hk,e⟩:=ku hl;rw[← e];exact Q0.o4 hk))
 have gB:∀ l∈L1,GT sizes T3 (vf l):=λl hl=>g3 l (k1 l hl) (.inr (by obtain⟨k,hk,e⟩:=ku hl;rw[← e];exact Q1.o4 hk))
 have j0:aQ (.lst [.lst (L0.map tI),.lst (L1.map tI)]) (.int 0)=M.ok (.lst (L0.map tI)):=bw (p:=.lst [.lst (L0.map tI),.lst (L1.map tI)]) (j:=0) rfl rfl
 have j1:aQ (.lst [.lst (L0.map tI),.lst (L1.map tI)]) (.int 1)=M.ok (.lst (L1.map tI)):=bw (p:=.lst [.lst (L0.map tI),.lst (L1.map tI)]) (j:=1) rfl rfl
 have mk0:=Q0.Bk (p:=lI sizes) (f:=tI) (.inl rfl) rfl
 have Bk:=Q1.Bk (p:=lI sizes) (f:=tI) (.inl rfl) rfl
 have gw:(zK [some (.sh (.iU (ns.map PV.int))),some (.sh (lI sizes)),none,none,none,none,none,none,none,none,none,none,none,none]=true/\2<14/\4<14):=⟨rfl,by decide,by decide⟩
 refine ky.eq ?_
 unfold pE zu EA G5
 dsimp? [ec,es]
 rw[av gw]
 dsimp? [nZ,j7,Fj,show HL (.iU (ns.map PV.int)) (some 1) (some 17)=M.ok (.lst ((jW ns 1 17).map PV.int)) from vS ns 1 17]
 have e2':vg 3 (aj cQ (aj bB (ae 3) λ_=>M.ok (.int 9)) λ_=>M.ok (.int 2)) (ai dq (aa (aj bB (ae 3) λ_=>M.ok (.int 18)) (aa (ae 1) ao))) ((jW ns 1 17).map PV.int) [some (.sh (.iU (ns.map PV.int))),some (.sh (lI sizes)),none,none,none,none,none,none,none,none,none,none,none,none] [] []=M.ok (eN ns sizes y3,L0.map tI,L1.map tI):=e2
 rw[e2',M.aE,Em,M.aE]
 unfold eN
 dsimp? [j0,j1,mk0,Bk,Q0.DB,Q1.DB,eb,Q2.DB,et,Q3.DB,b_,uH (m := "steps") rfl,je (idle:=i0) S Q0.st,je (idle:=i1) S Q1.st,je (idle:=i2) S Q2.st,je (idle:=i3) S Q3.st,s0,s1,s2,s3,bj (k:=490) (l:=490) b0 b1,bj (k:=490) (l:=490) b2 b3,cq,decide_true,tM L0 L1 tI (by omega)]
 refine ky.loop (xs:=L0++L1) (inj:=tI) (λzs env=>(∀ z∈zs,z∈L0++L1)/\∃ y12,env=[some (.sh (.iU (ns.map PV.int))),some (.sh (lI sizes)),some (.sh (.lst [.lst (L0.map tI),.lst (L1.map tI)])),y3,none,some (.sh (dN sizes L0)),some (.sh (dN sizes L1)),some (.sh (jf sizes L0 T0 i0)),some (.sh (jf sizes L1 T1 i1)),some (.sh (jf sizes L2' T2 i2)),some (.sh (jf sizes L3 T3 i3)),some (.sh (.int (aA sizes.length (aH (vf sizes) (DD T0))*aA sizes.length (aH (vf sizes) (DD T1))))),y12,none]) ⟨λz h=>h,_,rfl⟩ ?_ ?_
 ·rintro l r env ⟨hz,y12,rfl⟩
  have hl:=hz l List.mem_cons_self
  have kl:Kp sizes l/\GT sizes T3 (vf l):=by
   rcases List.mem_append.mp hl with h | h
   ·exact⟨k0 l h,gA l h⟩
   ·exact⟨k1 l h,gB l h⟩
  obtain⟨b,ed,ib⟩:=kL Q3 kl.1
  obtain rfl:=ib.mpr kl.2
  dsimp? [bW,ed]
  exact⟨_,rfl,λz h=>hz z (List.mem_cons_of_mem _ h),_,rfl⟩
 rintro env ⟨_,y12,rfl⟩
 dsimp? [nZ,j7,Fj,show HL (.iU (ns.map PV.int)) (some 1) (some 63)=M.ok (.lst ((jW ns 1 63).map PV.int)) from vS ns 1 63,xp (jW ns 1 63) (by have:=wG ns 1 63;omega)]
 refine ky.loop (xs:=0::jW ns 1 63) (inj:=PV.int) (λzs env=>∃ y3 y13,env=[some (.sh (.iU (ns.map PV.int))),some (.sh (lI sizes)),some (.sh (.lst [.lst (L0.map tI),.lst (L1.map tI)])),y3,none,some (.sh (dN sizes L0)),some (.sh (dN sizes L1)),some (.sh (jf sizes L0 T0 i0)),some (.sh (jf sizes L1 T1 i1)),some (.sh (jf sizes L2' T2 i2)),some (.sh (jf sizes L3 T3 i3)),some (.sh (.int (aA sizes.length (aH (vf sizes) (DD T0))*aA sizes.length (aH (vf sizes) (DD T1))))),y12,y13]) ⟨_,_,rfl⟩ ?_ ?_
 ·rintro a r env ⟨y3,y13,rfl⟩
  obtain⟨_,ex,xs,rfl,xk,xg⟩:=u4 S k0 k1 m0 m1 Q3.st.gd gA gB a
  obtain⟨d0,f0,q0⟩:=kL Q0 xk
  obtain⟨d1,f1,q1⟩:=kL Q1 xk
  obtain⟨d2,f2,q2⟩:=kL Q2 xk
  obtain⟨d3,f3,q3⟩:=kL Q3 xk
  obtain rfl:d2=(d0&&d1):=by
   rw[Bool.eq_iff_iff,Bool.and_eq_true,q2,q0,q1]
   exact(h2 _).symm
  have mm:=aP (i:=a) (j:=3) (by decide)
  by_cases z:0<a%3
  ·obtain rfl:=q3.mpr (xg (by omega))
   cases d0 <;> cases d1 <;> dsimp? [bW,ex,f0,f1,f2,f3,decide_true,mm,z] <;> exact⟨_,rfl,_,_,rfl⟩
  ·cases d0 <;> cases d1 <;> dsimp? [bW,ex,f0,f1,f2,decide_true,mm,z,decide_false] <;> exact⟨_,rfl,_,_,rfl⟩
 ·rintro env ⟨y3,y13,rfl⟩
  dsimp? [eo,e5,b_,Js,yC,en,decide_true]
  exact⟨_,rfl,rfl⟩
end uu
theorem PySem.Challenge.cw_dialvault_k52_whole_pairs_of_great_dials_holds : PySem.Challenge.rw_dialvault_k52_whole_pairs_of_great_dials.Holds :=
  uu.hold HD.said λns _ _ => uu.Ft ns
end