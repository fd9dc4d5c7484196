import PyProof.Rows.All
import Wide.All
import OpenK.AllK
import Wide.FinOn
import Lean
import PyProof.EqAt
import PyProof.EqKinds
import PyProof.TupleCall
import PySem.Challenge.RW_dialvault_k33_normal_forms_of_pulls
set_option Elab.async false
set_option linter.all false
set_option maxRecDepth 100000
set_option maxHeartbeats 0
noncomputable section
theorem aR(h:True:=by rfl):True:=h
theorem aD(h:True:=by decide):True:=h
theorem aI(h:True:=by intro _;rfl):True:=h
theorem aK(h:True:=by kernel_rfl):True:=h
theorem aF(h:True:=by first | exact .inl rfl | exact .inr rfl | assumption):True:=h
theorem aU(h:True:=by with_unfolding_all rfl):True:=h
theorem aN(h:True:=by decide +kernel):True:=h
theorem aG(h:True:=by first | exact .inl rfl | exact .inr rfl):True:=h
namespace L2
open PySem PySem.Spec PyProof.Rows
abbrev Key:=Sum Int Str
def qg:Key->Value->Bool
 | .inl k,v=>Value.isInt k v
 | .inr x,v=>Value.isStrOf x v
def KD(w:World):Key->Int
 | .inl k=>hashInt k
 | .inr x=>hashStr w x
theorem ck:∀ {k:Key} {v:Value},qg k v=true->(∃ i t,k=Sum.inl i/\v=Value.int i t)\/(∃ x t,k=Sum.inr x/\v=Value.str x t)
 | .inl i,v,h=>by
  obtain⟨t,e⟩:=Value.isInt_shape (k:=i) (v:=v) h
  exact .inl ⟨i,t,rfl,e⟩
 | .inr x,v,h=>by
  obtain⟨t,e⟩:=Value.isStrOf_shape (x:=x) (v:=v) h
  exact .inr ⟨x,t,rfl,e⟩
theorem yr(i:Int)(t:Tok):qg (.inl i) (.int i t)=true:=by simp[qg,Value.isInt]
theorem xn(x:Str)(t:Tok):qg (.inr x) (.str x t)=true:=by simp[qg,Value.isStrOf]
theorem Ga(a b:Int):decide ((Sum.inl a:Key)=Sum.inl b)=(a==b):=by
 by_cases e:a=b
 ·subst e;simp
 ·have h:¬ (Sum.inl a:Key)=Sum.inl b:=λq=>e (Sum.inl.inj q)
  rw[decide_eq_false h]
  exact(beq_eq_false_iff_ne.mpr e).symm
theorem G7(a b:Str):decide ((Sum.inr a:Key)=Sum.inr b)=decide (a=b):=by
 by_cases e:a=b
 ·subst e;simp
 ·have h:¬ (Sum.inr a:Key)=Sum.inr b:=λq=>e (Sum.inr.inj q)
  rw[decide_eq_false h,decide_eq_false e]
theorem Fu(a:Int)(b:Str):decide ((Sum.inl a:Key)=Sum.inr b)=false:=decide_eq_false (λq=>nomatch q)
theorem Ft(a:Str)(b:Int):decide ((Sum.inr a:Key)=Sum.inl b)=false:=decide_eq_false (λq=>nomatch q)
def cv(prog:Program)(w:World):PySem.KeyKind prog w Key where
 is:=qg
 hash:=KD w
 inj:=λv a b ha hb=>by
  rcases ck ha with ⟨i,t,rfl,rfl⟩ | ⟨x,t,rfl,rfl⟩
  ·rcases ck hb with ⟨j,u,rfl,e⟩ | ⟨y,u,rfl,e⟩
   ·injection e with e1 _;rw[e1]
   ·exact nomatch e
  ·rcases ck hb with ⟨j,u,rfl,e⟩ | ⟨y,u,rfl,e⟩
   ·exact nomatch e
   ·injection e with e1 _;rw[e1]
 byValue:=λk v h=>by
  rcases ck h with ⟨i,t,rfl,rfl⟩ | ⟨x,t,rfl,rfl⟩ <;> rfl
 pyHash:=λhv h=>by
  rcases ck hv with ⟨i,t,rfl,rfl⟩ | ⟨x,t,rfl,rfl⟩
  ·exact wpAny_pyHash_int h
  ·exact wpAny_pyHash_str h
 eqBool:=λhu hv h=>by
  rcases ck hu with ⟨i,t,rfl,rfl⟩ | ⟨x,t,rfl,rfl⟩
  ·rcases ck hv with ⟨j,u,rfl,rfl⟩ | ⟨y,u,rfl,rfl⟩
   ·rw[Ga] at h;exact wpAny_eqBool_int h
   ·rw[Fu] at h;exact SeqAt.EqAt.int_str i t y u _ _ _ _ h
  ·rcases ck hv with ⟨j,u,rfl,rfl⟩ | ⟨y,u,rfl,rfl⟩
   ·rw[Ft] at h;exact SeqAt.EqAt.str_int x t j u _ _ _ _ h
   ·rw[G7] at h;exact wpAny_eqBool_str h
 «strs»:=λk x t v h=>by
  rcases ck h with ⟨i,u,rfl,e⟩ | ⟨y,u,rfl,e⟩
  ·exact nomatch e
  ·injection e with e1 _
   subst e1
   cases v <;> rfl
theorem sI(prog:Program)(w:World)(i:Int)(t:Tok):(cv prog w).is (.inl i) (.int i t)=true:=yr i t
theorem sZ(prog:Program)(w:World)(x:Str)(t:Tok):(cv prog w).is (.inr x) (.str x t)=true:=xn x t
inductive V where
 | cL | bl (b:Bool) | int (i:Int) | str (x:Str) | byt (b:Array UInt8) | Ex (b:UInt64) | ref (a:Addr) | ty (n:String)
 deriving DecidableEq
def RelV:V->Value->Prop
 | .cL,u=>u=Value.none
 | .bl b,u=>u=Value.bool b
 | .int i,u=>∃ t,u=Value.int i t
 | .str x,u=>∃ t,u=Value.str x t
 | .byt b,u=>∃ t,u=Value.bytes b t
 | .Ex b,u=>∃ t,u=Value.float b t
 | .ref a,u=>u=Value.ref a
 | .ty n,u=>u=Value.type n
abbrev Vals:List V->List Value->Prop:=Paired RelV
theorem Vals.length{xs:List V}{us:List Value}(r:Vals xs us):xs.length=us.length:=Paired.length r
theorem Vals.get:∀ {xs:List V} {us:List Value} {i:Nat} {x:V},Vals xs us->xs[i]?=some x->∃ u,us[i]?=some u/\RelV x u
 | _,_,_,_,.nil,e=>by simp at e
 | _,_,0,_,.cons r _,e=>by simp at e;subst e;exact⟨_,rfl,r⟩
 | _,_,i+1,x,.cons _ t,e=>by
  obtain⟨u,h1,h2⟩:=Vals.get (i:=i) (x:=x) t (by simpa using e)
  exact⟨u,by simpa using h1,h2⟩
theorem Vals.set{x:V}{u:Value}(r:RelV x u):∀ {xs:List V} {us:List Value} (i:Nat),Vals xs us->Vals (xs.set i x) (us.set i u)
 | _,_,_,.nil=>.nil
 | _,_,0,.cons _ t=>.cons r t
 | _,_,i+1,.cons q t=>.cons q (Vals.set r i t)
theorem Vals.append:∀ {xs ys:List V} {us ws:List Value},Vals xs us->Vals ys ws->Vals (xs++ys) (us++ws)
 | _,_,_,_,.nil,s=>s
 | _,_,_,_,.cons r t,s=>.cons r (Vals.append t s)
theorem Vals.take:∀ {xs:List V} {us:List Value} (n:Nat),Vals xs us->Vals (xs.take n) (us.take n)
 | _,_,0,_=>.nil
 | _,_,_+1,.nil=>.nil
 | _,_,n+1,.cons r t=>.cons r (Vals.take n t)
theorem Vals.drop:∀ {xs:List V} {us:List Value} (n:Nat),Vals xs us->Vals (xs.drop n) (us.drop n)
 | _,_,0,r=>r
 | _,_,_+1,.nil=>.nil
 | _,_,n+1,.cons _ t=>Vals.drop n t
def jA:Option V->Option Value->Prop
 | some v,some u=>RelV v u
 | none,none=>True
 | _,_=>False
def KV{κ:Type}:List (κ×V)->List (κ×Value)->Prop:=Paired λ(p:κ×V) (q:κ×Value)=>p.1=q.1/\RelV p.2 q.2
def kV:Key->V
 | .inl i=>.int i
 | .inr x=>.str x
inductive HO where
 | lst (xs:List V)
 | tup (xs:List V)
 | dK (Mf:List (Key×V)) | dT (Mf:List (List Key×V))
 | set (S:Int->Bool) (n:Nat)
 | ins (C dx:Addr) (fs:List (Str×V))
 | own (x:Addr)
 | xd (fs:List (Str×V))
 | met (f x:Addr)
 | ki (lo hi:Int)
 | pT (o:Obj) (u:HO)
 | EV (ps:Array Value)
 | ext (φ:Heap->Prop)
abbrev Hp:=Addr->Option HO
def upd(H:Hp)(a:Addr)(o:HO):Hp:=λb=>if b=a then some o else H b
variable{o:HO}{a:Addr}{H:Hp}
theorem az:upd H a o a=some o:=by unfold upd;rw[if_pos rfl]
variable{b:Addr}
theorem ao(h:b≠a):upd H a o b=H b:=by unfold upd;rw[if_neg h]
theorem nu{u:HO}:upd (upd H a o) a u=upd H a u:=by
 funext b;unfold upd;split <;> rfl
theorem EM{u:HO}(h:H a=some o)(h':H b=some u)(d:o≠u):a≠b:=by
 intro e;subst e;rw[h] at h';exact d (Option.some.inj h')
theorem bQ(h:H a=some o)(h':H b=none):a≠b:=by
 intro e;subst e;rw[h] at h';cases h'
section
variable(P:Program)(w:World)
def bx(H:Hp)(h:Heap)(a:Addr):HO->Prop
 | .lst xs=>xs.length<=sizeLine/\∃ (Mg:List Value) (n:Nat),Vals xs Mg/\h.get? a=some { cls:=.type "list", data:=.seq Mg.toArray n }
 | .tup xs=>xs.length<=sizeLine/\∃ Mg:List Value,Vals xs Mg/\IsTup h a Mg.toArray
 | .dK Mf=>Mf.length<=sizeLine/\(a==sysModules)=false/\∃ vs,KV Mf vs/\h.DictOf (cv P w) a vs
 | .dT Mf=>Mf.length<=sizeLine/\(a==sysModules)=false/\∃ xs:List (List Key×Addr×Value),
   Paired (λ(p:List Key×V) (q:List Key×Addr×Value)=>p.1=q.1/\H q.2.1=some (.tup (p.1.map kV))/\RelV p.2 q.2.2) Mf xs ∧
   ∃ o es ep,h.get? a=some o/\o.ExactDict/\o.data=.dict es ep/\es.toList=xs.map (entryOfKey (tupleKind (cv P w)))/\(xs.map (·.1)).Nodup
 | .set S n=>h.SetOf (intKind P w) a S n
 | .ins C dx fs=>H dx=some (.own a)/\fs.length<=1000/\dx≠a/\h.get? a=some (PySem.W.instObj C dx) ∧
   ∃ mA,h.Ns1 dx mA/\(∀ f,jA (fs.lookup f) (mA f))/\PySem.Within mA (fs.map (·.1))
 | .own _=>∃ o,h.get? a=some o
 | .xd fs=>∃ mA,h.Ns1 a mA/\∀ f,jA (fs.lookup f) (mA f)
 | .ki lo hi=>∃ t u v,h.get? a=some { cls:=.type "range", data:=.fields #[.int lo t,.int hi u,.int 1 v] }
 | .pT o u=>h.get? a=some o/\bx H h a u
 | .EV ps=>h.get? a=some { cls:=.none,data:=.fields ps }
 | .met f x=>h.get? a=some (PySem.W.methodObj (.ref f) (.ref x))
 | .ext φ=>φ h/\(∃ o,h.get? a=some o)/\∀ h1 h2:Heap,φ h1->(∀ o,h1.get? a=some o->h2.get? a=some o)->φ h2
def ke(H:Hp)(h:Heap):Prop:=∀ a o,H a=some o->bx P w H h a o
end
variable{h h':Heap}{H':Hp}{w:World}{P:Program}
theorem bx.lt(x:bx P w H h a o):a<h.objs.size:=by
 cases o with
 | lst xs=>obtain⟨_,_,_,_,e⟩:=x;exact Heap.lt_size e
 | tup xs=>obtain⟨_,_,_,p⟩:=x;exact p.lt
 | dK Mf=>obtain⟨_,_,_,_,o,_,_,e,_⟩:=x;exact Heap.lt_size e
 | dT Mf=>obtain⟨_,_,_,_,o,_,_,e,_⟩:=x;exact Heap.lt_size e
 | set S n=>obtain⟨o,_,_,_,e,_⟩:=x;exact Heap.lt_size e
 | ins C dx fs=>obtain⟨_,_,_,e,_⟩:=x;exact Heap.lt_size e
 | own y=>obtain⟨_,e⟩:=x;exact Heap.lt_size e
 | xd fs=>obtain⟨_,⟨_,_,_,e,_⟩,_⟩:=x;exact Heap.lt_size e
 | ki lo hi=>obtain⟨_,_,_,e⟩:=x;exact Heap.lt_size e
 | pT ob u=>obtain⟨e,_⟩:=x;exact Heap.lt_size e
 | EV ps=>exact Heap.lt_size (show h.get? a=some _ from x)
 | met f y=>exact Heap.lt_size (show h.get? a=some _ from x)
 | ext φ=>obtain⟨_,⟨_,e⟩,_⟩:=x;exact Heap.lt_size e
theorem Paired.Fh{α β:Type}{F G:α->β->Prop}:∀ {l₁:List α} {l₂:List β},Paired F l₁ l₂->(∀ a b,F a b->G a b)->Paired G l₁ l₂
 | _,_,.nil,_=>.nil
 | _,_,.cons r t,f=>.cons (f _ _ r) (Paired.Fh t f)
theorem bx.lj(x:bx P w H h a o)(k:∀ b u,(b=a\/H b=some (.own a))->h.get? b=some u->h'.get? b=some u)
  (ho:∀ b,H b=some (.own a)->H' b=some (.own a)) (ht:∀ b xs,H b=some (.tup xs)->H' b=some (.tup xs)):bx P w H' h' a o:=by
 induction o with
 | lst xs=>obtain⟨z,Mg,n,r,e⟩:=x;exact⟨z,Mg,n,r,k _ _ (.inl rfl) e⟩
 | tup xs=>obtain⟨z,Mg,r,ob,e,c⟩:=x;exact⟨z,Mg,r,ob,k _ _ (.inl rfl) e,c⟩
 | dK Mf=>obtain⟨z,y,vs,r,ob,es,ep,e,c⟩:=x;exact⟨z,y,vs,r,ob,es,ep,k _ _ (.inl rfl) e,c⟩
 | dT Mf =>
  obtain⟨z,y,xs,r,ob,es,ep,e,c⟩:=x
  exact⟨z,y,xs,Paired.Fh r λp q z=>⟨z.1,ht _ _ z.2.1,z.2.2⟩,ob,es,ep,k _ _ (.inl rfl) e,c⟩
 | set S n=>obtain⟨ob,es,ep,t,e,c⟩:=x;exact⟨ob,es,ep,t,k _ _ (.inl rfl) e,c⟩
 | ins C dx fs =>
  obtain⟨d,z,ne,e,mA,⟨od,es,ep,e2,c⟩,r⟩:=x
  exact⟨ho _ d,z,ne,k _ _ (.inl rfl) e,mA,⟨od,es,ep,k _ _ (.inr d) e2,c⟩,r⟩
 | own y=>obtain⟨ob,e⟩:=x;exact⟨ob,k _ _ (.inl rfl) e⟩
 | xd fs=>obtain⟨mA,⟨od,es,ep,e,c⟩,r⟩:=x;exact⟨mA,⟨od,es,ep,k _ _ (.inl rfl) e,c⟩,r⟩
 | ki lo hi=>obtain⟨t,u,v,e⟩:=x;exact⟨t,u,v,k _ _ (.inl rfl) e⟩
 | pT ob u ih=>obtain⟨e,q⟩:=x;exact⟨k _ _ (.inl rfl) e,ih q⟩
 | EV ps =>
  have e:h.get? a=some { cls:=.none,data:=.fields ps }:=x
  show h'.get? a=some { cls:=.none,data:=.fields ps }
  exact k a _ (.inl rfl) e
 | met f y =>
  have e:h.get? a=some (PySem.W.methodObj (.ref f) (.ref y)):=x
  show h'.get? a=some (PySem.W.methodObj (.ref f) (.ref y))
  exact k a _ (.inl rfl) e
 | ext φ=>obtain⟨p,⟨o,e⟩,st⟩:=x;exact⟨st _ _ p λo q=>k _ _ (.inl rfl) q,⟨o,k _ _ (.inl rfl) e⟩,st⟩
theorem ke.lt(x:ke P w H h)(e:H a=some o):a<h.objs.size:=(x a o e).lt
theorem ke.fresh(x:ke P w H h)(e:h.objs.size<=a):H a=none:=by
 cases q:H a with
 | none=>rfl
 | some u=>exact absurd (Nat.lt_of_lt_of_le (x.lt q) e) (Nat.lt_irrefl _)
theorem ke.kept(x:ke P w H h)(k:∀ b u,h.get? b=some u->h'.get? b=some u):ke P w H h':=λa o e =>
 (x a o e).lj (λb u _ q=>k b u q) (λ_ q=>q) λ_ _ q=>q
theorem ke.laid(x:ke P w H h)(k:∀ b u,h.get? b=some u->h'.get? b=some u)(hp:h.objs.size<=a)(new:bx P w (upd H a o) h' a o):ke P w (upd H a o) h':=λb u e=>by
 have hn:=x.fresh hp
 by_cases hb:b=a
 ·subst hb;rw[az] at e;cases e;exact new
 ·rw[ao hb] at e
  exact(x b u e).lj (λc v _ q=>k c v q) (λc q=>by rw[ao (bQ q hn)];exact q) λc xs q=>by rw[ao (bQ q hn)];exact q
def Rd(H:Hp)(a:Addr)(u:HO):Prop:=H a=some u\/∃ o,H a=some (.pT o u)
theorem Rd.ok{u:HO}(r:Rd H a u)(x:ke P w H h):bx P w H h a u:=by
 rcases r with r | ⟨o,r⟩
 ·exact x a u r
 ·obtain⟨_,q⟩:=x a _ r
  exact q
def Ip:Option HO->Prop
 | some (.lst _)=>True
 | some (.dK _)=>True
 | some (.dT _)=>True
 | some (.set _ _)=>True
 | some (.ins _ _ _)=>True
 | some (.ext _)=>True
 | _=>False
section
variable{x e:Addr}{o':HO}
theorem ke.write(ok:ke P w H h)(mu:Ip (H x))(he:e=x\/H e=some (.own x))(k:∀ b u,b≠e->h.get? b=some u->h'.get? b=some u)(Pl:∃ u,h'.get? e=some u)
  (new:bx P w (upd H x o') h' x o'):ke P w (upd H x o') h':=λb u q=>by
 have P1:∀ c y,H c=some (.own y)->c≠x:=λc y r z=>by subst z;rw[r] at mu;exact mu
 have ntup:∀ c xs,H c=some (.tup xs)->c≠x:=λc xs r z=>by subst z;rw[r] at mu;exact mu
 by_cases hb:b=x
 ·subst hb;rw[az] at q;cases q;exact new
 ·rw[ao hb] at q
  by_cases N9:b=e
  ·have q':H b=some (.own x):=by
    rcases he with z | z
    ·exact absurd (N9.trans z) hb
    ·rw[N9];exact z
   rw[q] at q';cases q'
   obtain⟨v,hv⟩:=Pl
   exact⟨v,by rw[N9];exact hv⟩
  ·refine(ok b u q).lj (λc v hc r=>k c v ?_ r) (λc r=>by rw[ao (P1 c b r)];exact r) λc xs r=>by rw[ao (ntup c xs r)];exact r
   rcases hc with rfl | hc
   ·exact N9
   ·rintro rfl
    rcases he with z | z
    ·exact P1 c b hc z
    ·rw[hc] at z;cases z;exact hb rfl
end
structure Un (fs ex:List Addr) (H H':Hp) (h h':Heap):Prop where
 keep:∀ b o,h.get? b=some o->H b=none->b ∉ fs->b ∉ ex->h'.get? b=some o
 slot:∀ b o,h.get? b=some o->H b=none->b∈fs->b ∉ ex->∃ sl,h'.get? b=some { o with slots:=sl }
 free:∀ b o,h.get? b=some o->H b=none->b ∉ ex->H' b=none
 there:∀ b o,h.get? b=some o->b ∉ ex->∃ o',h'.get? b=some o'
 oY:∀ b xs,H b=some (.tup xs)->H' b=some (.tup xs)
 kx:∀ b o u,H b=some (.pT o u)->H' b=some (.pT o u)
 nM:∀ b ps,H b=some (.EV ps)->∃ more,H' b=some (.EV (ps++more))
section
variable{fs OV ex ex':List Addr}{H1 H2:Hp}{h1 h2:Heap}{x e:Addr}
theorem Un.any(u:Un fs ex H H1 h h1){ob:Obj}(q:h.get? b=some ob)(n:H b=none)(hx:b ∉ ex):∃ sl,h1.get? b=some { ob with slots:=sl }:=by
 by_cases hb:b∈fs
 ·exact u.slot b ob q n hb hx
 ·exact⟨ob.slots,u.keep b ob q n hb hx⟩
theorem Un.kept(k:∀ b u,h.get? b=some u->h'.get? b=some u):Un fs ex H H h h' :=
 ⟨λb ob q _ _ _=>k b ob q,λb ob q _ _ _=>⟨ob.slots,k b ob q⟩,λ_ _ _ n _=>n,λb ob q _=>⟨ob,k b ob q⟩,λ_ _ q=>q,λ_ _ _ q=>q,λ_ ps q=>⟨#[],by rw[q];simp⟩⟩
theorem Un.refl:Un fs ex H H h h:=Un.kept λ_ _ q=>q
theorem Un.laid(k:∀ b u,h.get? b=some u->h'.get? b=some u)(hp:h.objs.size<=a)(hn:H a=none):Un fs ex H (upd H a o) h h' where
 keep:=λb u q _ _ _=>k b u q
 slot:=λb u q _ _ _=>⟨u.slots,k b u q⟩
 free:=λb u q n _=>by rw[ao (Nat.ne_of_lt (Nat.lt_of_lt_of_le (Heap.lt_size q) hp))];exact n
 there:=λb u q _=>⟨u,k b u q⟩
 oY:=λb xs q=>by rw[ao (bQ q hn)];exact q
 kx:=λb u xs q=>by rw[ao (bQ q hn)];exact q
 nM:=λb ps q=>⟨#[],by rw[ao (bQ q hn),q];simp⟩
theorem Un.write(mu:Ip (H x))(he:e=x\/H e=some (.own x))(k:∀ b u,b≠e->h.get? b=some u->h'.get? b=some u)(Pl:∃ u,h'.get? e=some u):Un fs ex H (upd H x o) h h':=by
 have hx:∀ b,H b=none->b≠x:=λb n z=>by subst z;rw[n] at mu;exact mu
 have hb:∀ b,H b=none->b≠e:=λb n z=>by
  subst z
  rcases he with r | r
  ·exact hx b n r
  ·rw[n] at r;cases r
 have hm:∀ b u,H b=some u->¬ Ip (some u)->b≠x:=λb u q nm z=>by subst z;rw[q] at mu;exact nm mu
 refine⟨λb u q n _ _=>k b u (hb b n) q,λb u q n _ _=>⟨u.slots,k b u (hb b n) q⟩,λb u q n _=>by rw[ao (hx b n)];exact n,λb u q _=>?_,
  λb xs q=>by rw[ao (hm b _ q λz=>z)];exact q,λb u xs q=>by rw[ao (hm b _ q λz=>z)];exact q,λb ps q=>⟨#[],by rw[ao (hm b _ q λz=>z),q];simp⟩⟩
 by_cases N9:b=e
 ·subst N9;exact Pl
 ·exact⟨u,k b u N9 q⟩
end
def JI(h:Heap)(H:Hp):List Addr:=(List.range h.objs.size).filter λa=>(H a).isSome
def rO(h:Heap)(H:Hp):Heap:=PySem.W.hideAll h (JI h H)
theorem xP(h:Heap)(H:Hp):(rO h H).objs.size=h.objs.size:=PySem.W.hideAll_size _ _
theorem BK{o:Obj}(e:h.get? b=some o)(n:H b=none):(rO h H).get? b=some o :=
 PySem.W.hideAll_get _ e λhm=>by
  have q:(H b).isSome=true:=(List.mem_filter.mp hm).2
  rw[n] at q;simp at q
theorem CA{o:Obj}(e:(rO h H).get? b=some o):h.get? b=some o/\H b=none:=by
 have e':h.get? b=some o:=PySem.W.of_hideAll (JI h H) e
 refine⟨e',?_⟩
 cases q:H b with
 | none=>rfl
 | some x =>
  have hm:b∈JI h H:=List.mem_filter.mpr ⟨List.mem_range.mpr (Heap.lt_size e'),by simp[q]⟩
  have z:(rO h H).get? b=none:=PySem.W.hideAll_none (JI h H) hm
  rw[z] at e;cases e
def C_(g h:Heap)(L:Addr):List (Addr×Obj):=(List.range h.objs.size).filterMap λa=>if a=L\/(g.get? a).isSome=true then none else (h.get? a).map λo=>(a,o)
def rest(g h:Heap)(L d:Addr):List (Addr×Obj):=(C_ g h L).filter λp=>decide (p.1≠d)
structure Mod (K:PySem.W.Frag) (mg:Str->Option Value) (base:Heap):Prop where
 EL:K.In base
 glob:base.Ns mainGlobals mg
 blt:∃ mb,base.Ns builtinsNs mb/\∀ x:Str,x ≠ "__name__" -> mb x=bootBuiltins x
 nolimit:base.NoLimit
structure Cx where
 prog:Program
 w:World
 K:PySem.W.Frag
 mg:Str->Option Value
 base:Heap
 A:Around
 N:List Str
 s₀:Shared
 H₀:Hp
 env:Env
 outer:List Env
 stack:List Env
 ex:List Addr
 fn:Str->Bool
 calm:Bool
 pn:List (Addr×Obj)
 xe:Value->Shared->Prop
def uJ(l:List Env):List Addr:=l.filterMap (·.frame)
abbrev Cx.fs(X:Cx):List Addr:=uJ X.outer
def CC(sc:Scope)(x:Str):Prop:=sc.names.lookup x=some .local\/sc.names.lookup x=some .cell\/sc.names.lookup x=some .free
def Loc(sc:Scope)(x:Str):Prop:=sc.names.lookup x=some .local\/sc.names.lookup x=some .cell
def Look(env:Env)(h:Heap)(m:Str->Option Value)(x:Str)(u:Value):Prop :=
 (env.kindOf x=some .local/\m x=some u)\/((env.kindOf x=some .cell\/env.kindOf x=some .free)/\∃ c,env.cells.lookup x=some c/\h.IsCell c (some u))
structure Cx.Ok (X:Cx):Prop where
 mod:Mod X.K X.mg X.base
 kind:X.env.scope.kind=.function
 glob:X.env.globals=mainGlobals
 blt:X.env.builtins=builtinsNs
 above:X.s₀.heap.objs.size<=X.env.locals
 inj:∀ x y c,X.env.cells.lookup x=some c->X.env.cells.lookup y=some c->x=y
 has:∀ x,(X.env.kindOf x=some .cell\/X.env.kindOf x=some .free)->∃ c,X.env.cells.lookup x=some c
 EK:∀ x c,X.fn x=true->X.env.cells.lookup x=some c->X.s₀.heap.objs.size<=c
 hd:X.calm=true->X.A.handled=none
 frames:X.A.frames=some X.stack
 GG:X.stack=X.outer\/(X.stack=X.env::X.outer/\X.env.frame=some X.env.locals)
 Hu:∀ b∈X.ex,b≠X.env.locals/\∀ x c,X.env.cells.lookup x=some c->c≠b
 bs:∀ b o,X.base.get? b=some o->X.s₀.heap.get? b=some o/\X.H₀ b=none
 yL:X.base.objs.size<=X.s₀.heap.objs.size
 qG:∀ b o,X.base.get? b=some o->b ∉ X.ex
 tV:∀ b∈X.ex,b ∉ X.fs
 kL:X.s₀.heap.FunFrames X.base X.outer
 BV:∀ b∈X.fs,X.H₀ b=none
structure Inv (X:Cx) (Me:List (Addr×Obj)) (σ:List (Option V)) (H:Hp) (s:Shared):Prop where
 ok:X.Ok
 os:s.os=X.s₀.os
 bare:AllBare s.gens
 base:Un X.fs X.ex X.H₀ H X.s₀.heap s.heap
 loc:∃ m,s.heap.Ns X.env.locals m/\∀ (i:Nat) (x:Str) (v:V),X.N[i]?=some x->σ[i]?=some (some v)->CC X.env.scope x->∃ u,RelV v u/\Look X.env s.heap m x u
 cell:∀ x c,X.env.cells.lookup x=some c->∃ v,s.heap.IsCell c v
 free:H X.env.locals=none
 fK:∀ x c,X.env.cells.lookup x=some c->H c=none
 pin:∀ p∈X.pn++Me,s.heap.get? p.1=some p.2/\H p.1=none/\p.1≠X.env.locals/\p.1 ∉ X.fs/\∀ v,p.2.data≠.cell v
 bu:ke X.prog X.w H s.heap
 len:σ.length=X.N.length
variable{s:Shared}{Me:List (Addr×Obj)}{X:Cx}
variable{ch:List Addr}{d':Drawn}{t':Nat}{g':Array GenState}
variable{it:Addr}
variable{x:Str}{i:Nat}{N:List Str}
variable{u:Value}{v:V}{E:Value->Shared->Prop}{A:Around}
section
variable{σ:List (Option V)}
theorem Cx.Ok.Ke(ok:X.Ok){o:Obj}(e:X.base.get? b=some o):b ∉ X.fs:=λhb=>by
 have:=(ok.kL.mem hb).1
 rw[e] at this;cases this
theorem Inv.bs(I:Inv X Me σ H s):∀ b o,X.base.get? b=some o->s.heap.get? b=some o/\H b=none:=λb o e =>
 ⟨I.base.keep b o (I.ok.bs b o e).1 (I.ok.bs b o e).2 (I.ok.Ke e) (I.ok.qG b o e),I.base.free b o (I.ok.bs b o e).1 (I.ok.bs b o e).2 (I.ok.qG b o e)⟩
theorem Inv.bk(I:Inv X Me σ H s):∀ b o,X.base.get? b=some o->s.heap.get? b=some o:=λb o e=>(I.bs b o e).1
theorem Inv.mod(I:Inv X Me σ H s):Mod X.K X.mg X.base:=I.ok.mod
theorem Inv.jt(I:Inv X Me σ H s):X.K.In s.heap:=I.ok.mod.EL.keeps I.bk
theorem Inv.lt(I:Inv X Me σ H s):X.env.locals<s.heap.objs.size:=let ⟨_,hn,_⟩:=I.loc;hn.lt
theorem Inv.sz(I:Inv X Me σ H s):X.s₀.heap.objs.size<=s.heap.objs.size:=Nat.le_trans I.ok.above (Nat.le_of_lt I.lt)
theorem Inv.Kc(I:Inv X Me σ H s)(h:s.heap.objs.size<=a):a ∉ X.fs:=λhb=>by
 obtain⟨_,o,ho,_⟩:=I.ok.kL.mem hb
 exact absurd (Nat.lt_of_lt_of_le (Heap.lt_size ho) (Nat.le_trans I.sz h)) (Nat.lt_irrefl _)
theorem Inv.Br(I:Inv X Me σ H s):∀ x c,X.env.cells.lookup x=some c->c≠X.env.locals:=λx c e z=>by
 obtain⟨v,o,ho,hd⟩:=I.cell x c e
 obtain⟨m,⟨o',es,ep,NF,Px,_⟩,_⟩:=I.loc
 rw[z,NF] at ho;cases ho;rw[Px] at hd;cases hd
theorem Inv.kL(I:Inv X Me σ H s):s.heap.FunFrames X.base X.outer:=by
 have all:∀ (l:List Env),(∀ b∈uJ l,b∈X.fs)->X.s₀.heap.FunFrames X.base l->s.heap.FunFrames X.base l:=by
  intro l
  induction l with
  | nil=>intro _ _;trivial
  | cons env r ih =>
   intro hs hl
   obtain⟨hk,⟨L,o,hf,hn,ho,hd⟩,hr⟩:=hl
   have hL:L∈X.fs:=hs L (by unfold uJ;rw[List.filterMap_cons,hf];exact List.mem_cons_self)
   obtain⟨sl,e⟩:=I.base.slot L o ho (I.ok.BV L hL) hL λz=>I.ok.tV L z hL
   exact⟨hk,⟨L,_,hf,hn,e,hd⟩,ih (λb hb=>hs b (by unfold uJ;rw[List.filterMap_cons,hf];exact List.mem_cons_of_mem _ hb)) hr⟩
 exact all X.outer (λ_ hb=>hb) I.ok.kL
theorem Inv.stack(I:Inv X Me σ H s):s.heap.FunFrames X.base X.stack:=by
 rcases I.ok.GG with e | ⟨e,hf⟩
 ·rw[e];exact I.kL
 ·rw[e]
  obtain⟨m,hn,_⟩:=I.loc
  refine .cons (by rw[I.ok.kind];decide) hf hn ?_ I.kL
  exact Heap.get?_none_of_le (Nat.le_trans I.ok.yL I.ok.above)
theorem Inv.rf(I:Inv X Me σ H s):∀ b∈uJ X.stack,b∈X.env.locals::X.fs:=λb hb=>by
 rcases I.ok.GG with e | ⟨e,hf⟩
 ·rw[e] at hb;exact List.mem_cons_of_mem _ hb
 ·rw[e] at hb
  unfold uJ at hb
  rw[List.filterMap_cons,hf] at hb
  exact hb
theorem Inv.rH(I:Inv X Me σ H s):∀ b∈uJ X.stack,H b=none:=λb hb=>by
 rcases List.mem_cons.mp (I.rf b hb) with e | hb
 ·rw[e];exact I.free
 ·obtain⟨_,o,ho,_⟩:=I.ok.kL.mem hb
  exact I.base.free b o ho (I.ok.BV b hb) λz=>I.ok.tV b z hb
theorem Inv.step(I:Inv X Me σ H s)
  (NK:∀ b∈ch,(b∈X.ex\/X.s₀.heap.objs.size<=b)/\b≠X.env.locals/\(∀ x c,X.env.cells.lookup x=some c->c≠b)/\∀ p∈X.pn++Me,p.1≠b)
  (keep:∀ b o,b≠X.env.locals->b ∉ X.fs->b ∉ ch->s.heap.get? b=some o->H b=none->h'.get? b=some o)
  (slot:∀ b o,b≠X.env.locals->b∈X.fs->b ∉ ch->s.heap.get? b=some o->H b=none->∃ sl,h'.get? b=some { o with slots:=sl }) (free:∀ b o,b ∉ ch->s.heap.get? b=some o->H b=none->H' b=none)
  (there:∀ b o,b ∉ ch->s.heap.get? b=some o->∃ o',h'.get? b=some o')
  (oY:∀ b xs,H b=some (.tup xs)->H' b=some (.tup xs)) (kx:∀ b o u,H b=some (.pT o u)->H' b=some (.pT o u)) (nM:∀ b ps,H b=some (.EV ps)->∃ more,H' b=some (.EV (ps++more)))
  (ns:∀ m,s.heap.Ns X.env.locals m->h'.Ns X.env.locals m) (bu:ke X.prog X.w H' h') (hg:AllBare g') :
  Inv X Me σ H' { s with heap:=h',gens:=g',drawn:=d',toks:=t' }:=by
 have neL:∀ b o,X.s₀.heap.get? b=some o->b≠X.env.locals:=λb o e=>Nat.ne_of_lt (Nat.lt_of_lt_of_le (Heap.lt_size e) I.ok.above)
 have neC:∀ b o,X.s₀.heap.get? b=some o->b ∉ X.ex->b ∉ ch:=λb o e hx hb=>by
  rcases(NK b hb).1 with z | z
  ·exact hx z
  ·exact absurd (Nat.lt_of_lt_of_le (Heap.lt_size e) z) (Nat.lt_irrefl _)
 have cellK:∀ x c,X.env.cells.lookup x=some c->∀ v,s.heap.IsCell c v->h'.IsCell c v:=λx c e v ⟨o,ho,hd⟩=>by
  have PZ:c ∉ ch:=λz=>(NK c z).2.2.1 x c e rfl
  by_cases hc:c∈X.fs
  ·obtain⟨sl,q⟩:=slot c o (I.Br x c e) hc PZ ho (I.fK x c e)
   exact⟨_,q,hd⟩
  ·exact⟨o,keep c o (I.Br x c e) hc PZ ho (I.fK x c e),hd⟩
 refine⟨I.ok,I.os,hg,⟨λb o e n hb hx=>?_,λb o e n hb hx=>?_,λb o e n hx=>?_,λb o e hx=>?_,λb xs e=>oY b xs (I.base.oY b xs e),λb o xs e=>kx b o xs (I.base.kx b o xs e),λb ps e=>?_⟩,?_,λx c e=>?_,?_,λx c e=>?_,λp hp=>?_,bu,I.len⟩
 ·exact keep b o (neL b o e) hb (neC b o e hx) (I.base.keep b o e n hb hx) (I.base.free b o e n hx)
 ·obtain⟨sl,e1⟩:=I.base.slot b o e n hb hx
  obtain⟨sl',e2⟩:=slot b _ (neL b o e) hb (neC b o e hx) e1 (I.base.free b o e n hx)
  exact⟨sl',e2⟩
 ·obtain⟨o',e1⟩:=I.base.there b o e hx
  exact free b o' (neC b o e hx) e1 (I.base.free b o e n hx)
 ·obtain⟨o',e1⟩:=I.base.there b o e hx
  exact there b o' (neC b o e hx) e1
 ·obtain⟨m1,e1⟩:=I.base.nM b ps e
  obtain⟨m2,e2⟩:=nM b _ e1
  exact⟨m1++m2,by rw[e2,Array.append_assoc]⟩
 ·obtain⟨m,hn,hl⟩:=I.loc
  refine⟨m,ns m hn,λi x v e1 e2 e3=>?_⟩
  obtain⟨u,r,l⟩:=hl i x v e1 e2 e3
  refine⟨u,r,?_⟩
  rcases l with l | ⟨k,c,e,z⟩
  ·exact .inl l
  ·exact .inr ⟨k,c,e,cellK x c e _ z⟩
 ·obtain⟨v,z⟩:=I.cell x c e
  exact⟨v,cellK x c e v z⟩
 ·obtain⟨m,⟨o,_,_,ho,_⟩,_⟩:=I.loc
  exact free _ o (λz=>(NK _ z).2.1 rfl) ho I.free
 ·obtain⟨v,o,ho,hd⟩:=I.cell x c e
  exact free c o (λz=>(NK c z).2.2.1 x c e rfl) ho (I.fK x c e)
 ·obtain⟨e,n,ne,nf,d⟩:=I.pin p hp
  have PZ:p.1 ∉ ch:=λz=>(NK p.1 z).2.2.2 p hp rfl
  exact⟨keep p.1 p.2 ne nf PZ e n,free p.1 p.2 PZ e n,ne,nf,d⟩
theorem Inv.un(I:Inv X Me σ H s)(u:Un X.fs [] H H' s.heap h')(bu:ke X.prog X.w H' h'):Inv X Me σ H' { s with heap:=h',toks:=t' }:=by
 obtain⟨m,⟨o,es,ep,ho,r⟩,_⟩:=id I.loc
 obtain⟨sl,hL⟩:=u.any ho I.free (by simp)
 exact I.step (g':=s.gens) (d':=s.drawn) (ch:=[]) (λ_ z=>nomatch z) (λb o _ hb _ e n=>u.keep b o e n hb (by simp)) (λb o _ hb _ e n=>u.slot b o e n hb (by simp)) (λb o _ e n=>u.free b o e n (by simp)) (λb o _ e=>u.there b o e (by simp)) u.oY u.kx u.nM (λm' hm=>by
  obtain⟨o',es',ep',NF,r'⟩:=hm
  rw[ho] at NF;cases NF
  exact⟨_,es',ep',hL,r'⟩) bu I.bare
theorem Inv.call(I:Inv X Me σ H s)(u:Un (uJ X.stack) ch H H' s.heap h')(bu:ke X.prog X.w H' h')(hg:AllBare g')
  (NK:∀ b∈ch,(b∈X.ex\/X.s₀.heap.objs.size<=b)/\b≠X.env.locals/\(∀ x c,X.env.cells.lookup x=some c->c≠b)/\∀ p∈X.pn++Me,p.1≠b) :
  Inv X Me σ H' { s with heap:=h',gens:=g',drawn:=d',toks:=t' }:=by
 obtain⟨m,⟨o,es,ep,ho,r⟩,_⟩:=id I.loc
 obtain⟨sl,hL⟩:=u.any ho I.free λz=>(NK _ z).2.1 rfl
 exact I.step (ch:=ch) NK (λb o hL hb hc e n=>u.keep b o e n (λz=>(List.mem_cons.mp (I.rf b z)).elim hL hb) hc) (λb o _ _ hc e n=>u.any e n hc) (λb o hc e n=>u.free b o e n hc) (λb o hc e=>u.there b o e hc) u.oY u.kx u.nM (λm' hm=>by
  obtain⟨o',es',ep',NF,r'⟩:=hm
  rw[ho] at NF;cases NF
  exact⟨_,es',ep',hL,r'⟩) bu hg
theorem Inv.turned(I:Inv X Me σ H s)(k:∀ b o,b≠it->s.heap.get? b=some o->h'.get? b=some o)(hn:H it=none)(hL:it≠X.env.locals)
  (h1:it∈X.ex\/X.s₀.heap.objs.size<=it) (h2:∀ x c,X.env.cells.lookup x=some c->c≠it) (h3:∀ p∈X.pn++Me,p.1≠it):Inv X Me σ H { s with heap:=h',toks:=t' }:=by
 have nit:∀ b u,H b=some u->b≠it:=λb u e z=>by rw[z,hn] at e;cases e
 refine I.step (g':=s.gens) (d':=s.drawn) (ch:=[it]) (λb hb=>?_) (λb o _ _ hc e _=>k b o (λz=>hc (by simp[z])) e) (λb o _ _ hc e _=>⟨o.slots,k b o (λz=>hc (by simp[z])) e⟩) (λ_ _ _ _ n=>n)
  (λb o hc e=>⟨o,k b o (λz=>hc (by simp[z])) e⟩) (λ_ _ e=>e) (λ_ _ _ e=>e) (λb ps e=>⟨#[],by rw[e];simp⟩) (λm hm=>?_) (λb u e=>?_) I.bare
 ·have e:b=it:=by simpa using hb
  subst e
  exact⟨h1,hL,h2,h3⟩
 ·obtain⟨o,es,ep,ho,r⟩:=hm
  exact⟨o,es,ep,k _ o (Ne.symm hL) ho,r⟩
 ·refine(I.bu b u e).lj (λc v hc q=>k c v ?_ q) (λ_ q=>q) λ_ _ q=>q
  rcases hc with z | z
  ·rw[z];exact nit b u e
  ·exact nit c _ z
theorem Inv.tok(I:Inv X Me σ H s)(t:Nat):Inv X Me σ H { s with toks:=t }:=I.un (h':=s.heap) (t':=t) Un.refl I.bu
theorem Inv.kept{t':Nat}(I:Inv X Me σ H s)(k:∀ b u,s.heap.get? b=some u->h'.get? b=some u):Inv X Me σ H { s with heap:=h',toks:=t' }:=I.un (Un.kept k) (I.bu.kept k)
theorem Inv.laid{a:Addr}{o:HO}{t':Nat}(I:Inv X Me σ H s)(k:∀ b u,s.heap.get? b=some u->h'.get? b=some u)(hp:s.heap.objs.size<=a)(new:bx X.prog X.w (upd H a o) h' a o) :
  Inv X Me σ (upd H a o) { s with heap:=h',toks:=t' }:=I.un (Un.laid k hp (I.bu.fresh hp)) (I.bu.laid k hp new)
theorem Inv.write{x e:Addr}{o:HO}{t':Nat}(I:Inv X Me σ H s)(mu:Ip (H x))(he:e=x\/H e=some (.own x))(k:∀ b u,b≠e->s.heap.get? b=some u->h'.get? b=some u)(Pl:∃ u,h'.get? e=some u)
  (new:bx X.prog X.w (upd H x o) h' x o):Inv X Me σ (upd H x o) { s with heap:=h',toks:=t' }:=I.un (Un.write mu he k Pl) (I.bu.write mu he k Pl new)
theorem Inv.wm{NO:List (Addr×Obj)}(I:Inv X Me σ H s)(h:∀ p∈NO,s.heap.get? p.1=some p.2/\H p.1=none/\p.1≠X.env.locals/\p.1 ∉ X.fs/\∀ v,p.2.data≠.cell v):Inv X NO σ H s :=
 ⟨I.ok,I.os,I.bare,I.base,I.loc,I.cell,I.free,I.fK,λp hp=>(List.mem_append.mp hp).elim (λz=>I.pin p (List.mem_append_left _ z)) (h p),I.bu,I.len⟩
theorem oU(hN:N.Nodup){j:Nat}(a:N[i]?=some x)(b:N[j]?=some x):i=j:=by
 obtain⟨h1,e1⟩:=List.getElem?_eq_some_iff.mp a
 obtain⟨h2,e2⟩:=List.getElem?_eq_some_iff.mp b
 exact(List.getElem_inj hN).mp (e1.trans e2.symm)
theorem qr{M:Model}{Q:Unit->Shared->Prop}(I:Inv X Me σ H s)(hN:X.N.Nodup)(hi:X.N[i]?=some x)(hx:Loc X.env.scope x)(r:RelV v u)
  (h:∀ s',Inv X Me (σ.set i (some v)) H s'->(∃ a,Heap.SameBut a s.heap s'.heap/\(a=X.env.locals\/X.env.cells.lookup x=some a))->Q () s') (hf:autoParam (X.fn x=true\/X.env.scope.names.lookup x=some .local) aF._auto_1):wpAny M A (storeName X.env x u) Q E s:=by
 obtain⟨m,hn,hl⟩:=id I.loc
 have hcls:(X.env.scope.kind==.class||(X.env.scope.kind==.module&&X.env.locals != X.env.globals))=false:=by rw[I.ok.kind];rfl
 have hiσ:i<σ.length:=by rw[I.len];exact(List.getElem?_eq_some_iff.mp hi).1
 have Br:=I.Br
 have tracked:∀ {a:Addr} {h':Heap},(∃ o,s.heap.get? a=some o/\H a=none)->Heap.SameBut a s.heap h'->ke X.prog X.w H h':=λ{a h'} ha hs b ob e=>by
  obtain⟨_,_,N3⟩:=ha
  refine(I.bu b ob e).lj (λc w' hc q=>(hs.2 c ?_).trans q) (λ_ q=>q) λ_ _ q=>q
  rintro rfl
  rcases hc with rfl | hc
  ·rw[N3] at e;cases e
  ·rw[N3] at hc;cases hc
 rcases hx with hk | hk
 ·refine wpAny_storeName_local hk hn (λh' PH hs=>?_) hcls
  obtain⟨oL,_,_,hoL,_⟩:=id hn
  refine h _ ⟨I.ok,I.os,I.bare,⟨λb o e n hb hx=>?_,λb o e n hb hx=>?_,I.base.free,λb o e hx=>?_,I.base.oY,I.base.kx,I.base.nM⟩,⟨_,PH,λj y v' e1 e2 e3=>?_⟩,λy c e=>?_,I.free,I.fK,λp hp=>?_,tracked ⟨oL,hoL,I.free⟩ hs,by simpa using I.len⟩ ⟨_,hs,.inl rfl⟩
  ·exact(hs.2 b (Nat.ne_of_lt (Nat.lt_of_lt_of_le (Heap.lt_size e) I.ok.above))).trans (I.base.keep b o e n hb hx)
  ·obtain⟨sl,e1⟩:=I.base.slot b o e n hb hx
   exact⟨sl,(hs.2 b (Nat.ne_of_lt (Nat.lt_of_lt_of_le (Heap.lt_size e) I.ok.above))).trans e1⟩
  ·obtain⟨o',e1⟩:=I.base.there b o e hx
   exact⟨o',(hs.2 b (Nat.ne_of_lt (Nat.lt_of_lt_of_le (Heap.lt_size e) I.ok.above))).trans e1⟩
  ·by_cases hj:j=i
   ·subst hj
    rw[hi] at e1;cases e1
    rw[List.getElem?_set_self hiσ] at e2
    cases e2
    exact⟨u,r,.inl ⟨hk,by simp⟩⟩
   ·rw[List.getElem?_set_ne (Ne.symm hj)] at e2
    obtain⟨u',r',q⟩:=hl j y v' e1 e2 e3
    refine⟨u',r',?_⟩
    rcases q with ⟨k,e⟩ | ⟨k,c,e,z⟩
    ·refine .inl ⟨k,?_⟩
     have:y≠x:=λe=>hj (oU hN e1 (e▸hi))
     simp[this,e]
    ·exact .inr ⟨k,c,e,z.sameBut hs (Br y c e)⟩
  ·obtain⟨w',z⟩:=I.cell y c e
   exact⟨w',z.sameBut hs (Br y c e)⟩
  ·obtain⟨e,n,ne,nf,d⟩:=I.pin p hp
   exact⟨(hs.2 p.1 ne).trans e,n,ne,nf,d⟩
 ·have hfn:X.fn x=true:=by
   rcases hf with z | z
   ·exact z
   ·rw[z] at hk;cases hk
  obtain⟨c,hc⟩:=I.ok.has x (.inl hk)
  obtain⟨w',z⟩:=I.cell x c hc
  refine wpAny_storeName_cell I.ok.kind hk hc z (λh' OK hs=>?_)
  obtain⟨oc,hoc,hocd⟩:=id z
  refine h { s with heap:=h' } ⟨I.ok,I.os,I.bare,⟨λb o e n hb hx=>?_,λb o e n hb hx=>?_,I.base.free,λb o e hx=>?_,I.base.oY,I.base.kx,I.base.nM⟩,⟨m,hn.sameBut hs (Ne.symm (Br x c hc)),λj y v' e1 e2 e3=>?_⟩,λy c' e=>?_,I.free,I.fK,λp hp=>?_,tracked ⟨oc,hoc,I.fK x c hc⟩ hs,by simpa using I.len⟩ ⟨c,hs,.inr hc⟩
  ·exact(hs.2 b (Nat.ne_of_lt (Nat.lt_of_lt_of_le (Heap.lt_size e) (I.ok.EK x c hfn hc)))).trans (I.base.keep b o e n hb hx)
  ·obtain⟨sl,e1⟩:=I.base.slot b o e n hb hx
   exact⟨sl,(hs.2 b (Nat.ne_of_lt (Nat.lt_of_lt_of_le (Heap.lt_size e) (I.ok.EK x c hfn hc)))).trans e1⟩
  ·obtain⟨o',e1⟩:=I.base.there b o e hx
   exact⟨o',(hs.2 b (Nat.ne_of_lt (Nat.lt_of_lt_of_le (Heap.lt_size e) (I.ok.EK x c hfn hc)))).trans e1⟩
  ·by_cases hj:j=i
   ·subst hj
    rw[hi] at e1;cases e1
    rw[List.getElem?_set_self hiσ] at e2
    cases e2
    exact⟨u,r,.inr ⟨.inl hk,c,hc,OK⟩⟩
   ·rw[List.getElem?_set_ne (Ne.symm hj)] at e2
    obtain⟨u',r',q⟩:=hl j y v' e1 e2 e3
    refine⟨u',r',?_⟩
    rcases q with q | ⟨k,c',e,z'⟩
    ·exact .inl q
    ·refine .inr ⟨k,c',e,z'.sameBut hs ?_⟩
     rintro rfl
     exact hj (oU hN e1 (I.ok.inj _ _ _ e hc▸hi))
  ·by_cases hcc:c'=c
   ·subst hcc;exact⟨_,OK⟩
   ·obtain⟨w2,z2⟩:=I.cell y c' e
    exact⟨w2,z2.sameBut hs hcc⟩
  ·obtain⟨e,n,ne,nf,d⟩:=I.pin p hp
   refine⟨(hs.2 p.1 ?_).trans e,n,ne,nf,d⟩
   intro q
   rw[q,hoc] at e
   have q':oc=p.2:=Option.some.inj e
   exact d w' (by rw[← q'];exact hocd)
theorem oX{M:Model}{Q:Unit->Shared->Prop}(I:Inv X Me σ H s)(hN:X.N.Nodup)(hi:X.N[i]?=some x)(hx:Loc X.env.scope x)(r:RelV v u)
  (h:∀ s',Inv X Me (σ.set i (some v)) H s'->Q () s') (hf:autoParam (X.fn x=true\/X.env.scope.names.lookup x=some .local) aF._auto_1):wpAny M A (storeName X.env x u) Q E s :=
 qr I hN hi hx r (λs' I' _=>h s' I') hf
theorem Inv.Bs{s':Shared}(I:Inv X Me σ H s)(ho:s'.os=s.os)(u:Un (uJ X.stack) ch H H' s.heap s'.heap)(bu:ke X.prog X.w H' s'.heap)(hg:AllBare s'.gens)
  (NK:∀ b∈ch,(b∈X.ex\/X.s₀.heap.objs.size<=b)/\b≠X.env.locals/\(∀ x c,X.env.cells.lookup x=some c->c≠b)/\∀ p∈X.pn++Me,p.1≠b):Inv X Me σ H' s':=by
 obtain⟨h',g',d',t',o'⟩:=s'
 have e:o'=s.os:=ho
 subst e
 exact I.call (g':=g') (t':=t') (d':=d') u bu hg NK
end
abbrev XK:=Value->Option Addr->Hp->Prop
abbrev St:=List (Option V)
abbrev VK:=V->Hp->Prop
abbrev TE:=St->Hp->VK->Prop
abbrev TT:=St->Hp->(Bool->Hp->Prop)->Prop
abbrev TA:=St->Hp->(List V->Hp->Prop)->Prop
structure Ends where
 nx:St->Hp->Prop
 rt:VK
 bk:St->Hp->Prop:=λ_ _=>False
 ct:St->Hp->Prop:=λ_ _=>False
abbrev TS:=Ends->St->Hp->Prop
def EP(X:Cx)(Me:List (Addr×Obj))(σ:St)(Q:VK)(u:Value)(s':Shared):Prop:=∃ v H',Inv X Me σ H' s'/\RelV v u/\Q v H'
def TP(X:Cx)(Me:List (Addr×Obj))(σ:St)(Q:Bool->Hp->Prop)(b:Bool)(s':Shared):Prop:=∃ H',Inv X Me σ H' s'/\Q b H'
def AP(X:Cx)(Me:List (Addr×Obj))(σ:St)(Q:List V->Hp->Prop)(us:List Value)(s':Shared):Prop:=∃ vs H',Inv X Me σ H' s'/\Vals vs us/\Q vs H'
def SP(X:Cx)(Me:List (Addr×Obj))(D:Ends)(f:Flow)(s':Shared):Prop :=
 match f with
 | .next=>∃ σ' H',Inv X Me σ' H' s'/\D.nx σ' H'
 | .brk=>∃ σ' H',Inv X Me σ' H' s'/\D.bk σ' H'
 | .cont=>∃ σ' H',Inv X Me σ' H' s'/\D.ct σ' H'
 | .ret u=>∃ v σ' H',Inv X Me σ' H' s'/\RelV v u/\D.rt v H'
def PE(X:Cx)(e:Expr)(t:TE):Prop :=
 ∀ (Me:List (Addr×Obj)) (s:Shared) (σ:St) (H:Hp) (Q:VK),Inv X Me σ H s->t σ H Q->wpAny (model X.prog X.w) X.A (eval e X.env) (EP X Me σ Q) X.xe s
def PT(X:Cx)(e:Expr)(t:TT):Prop :=
 ∀ (Me:List (Addr×Obj)) (s:Shared) (σ:St) (H:Hp) (Q:Bool->Hp->Prop),Inv X Me σ H s->t σ H Q->wpAny (model X.prog X.w) X.A (isTrue e X.env (eval e X.env)) (TP X Me σ Q) X.xe s
def PW(X:Cx)(e:Expr)(t:TT):Prop :=
 ∀ (whole:Sem Value) (Me:List (Addr×Obj)) (s:Shared) (σ:St) (H:Hp) (Q:Bool->Hp->Prop),Inv X Me σ H s->t σ H Q->wpAny (model X.prog X.w) X.A (isTrue e X.env whole) (TP X Me σ Q) X.xe s
variable{e:Expr}
theorem PW.pt{t:TT}(h:PW X e t):PT X e t:=h _
def PA(X:Cx)(es:List Expr)(t:TA):Prop :=
 ∀ (pos:Pos) (Me:List (Addr×Obj)) (s:Shared) (σ:St) (H:Hp) (Q:List V->Hp->Prop),Inv X Me σ H s->t σ H Q->wpAny (model X.prog X.w) X.A (spliced (backTo pos (starEach es X.env))) (AP X Me σ Q) X.xe s
def PS(X:Cx)(st:Stmt)(t:TS):Prop :=
 ∀ (Me:List (Addr×Obj)) (s:Shared) (σ:St) (H:Hp) (D:Ends),Inv X Me σ H s->t D σ H->wpAny (model X.prog X.w) X.A (exec st X.env) (SP X Me D) X.xe s
def kc(X:Cx)(st:List Stmt)(t:TS):Prop :=
 ∀ (Me:List (Addr×Obj)) (s:Shared) (σ:St) (H:Hp) (D:Ends),Inv X Me σ H s->t D σ H->wpAny (model X.prog X.w) X.A (execs st X.env) (SP X Me D) X.xe s
theorem bT{α:Type}{t:Sem α}{Q Q':α->Shared->Prop}{M:Model}(h:wpAny M A t Q E s)(hQ:∀ a s,Q a s->Q' a s):wpAny M A t Q' E s:=wpAny_mono h hQ λ_ _ x=>x
variable{Q:Value->Shared->Prop}{σ:St}
variable{ta:TE}
variable{op:CmpOp}
variable{c:Expr}
section
def ik(i:Nat):TE:=fun σ H Q=>∃ v,σ[i]?=some (some v)/\Q v H
def tC(v:V):TE:=λ_ H Q=>Q v H
theorem bG{pos:Pos}(hN:X.N[i]?=some x)(hv:CC X.env.scope x)(hd:autoParam ((x==("__debug__" : Str))=false) aD._auto_1)(Nc:autoParam ((x==("__classdict__" : Str))=false) aD._auto_1):PE X (.Name x pos) (ik i):=by
 intro Me s σ H Q I h
 obtain⟨v,e,h⟩:=h
 obtain⟨m,hn,hl⟩:=I.loc
 obtain⟨u,r,l⟩:=hl i x v hN e hv
 have fin:EP X Me σ Q u s:=⟨v,H,I,r,h⟩
 rcases l with ⟨hk,hm⟩ | ⟨hk,c,hc,N2⟩
 ·exact wpAny_Name (wpAny_loadName_local I.ok.kind hk hn hm fin) hd
 ·rcases hk with hk | hk
  ·exact wpAny_Name (wpAny_loadName_cell I.ok.kind hk hc N2 fin) hd
  ·exact wpAny_Name (wpAny_loadName_free I.ok.kind hk hc N2 fin Nc) hd
theorem kJ{i j pos}:PE X (.Constant (.int i) j pos) (tC (.int i)):=λ_ _ _ H _ I h=>wpAny_Constant_int ⟨.int i,H,I.tok _,⟨_,rfl⟩,h⟩
theorem A5{b j pos}:PE X (.Constant (.bool b) j pos) (tC (.bl b)):=λ_ _ _ H _ I h=>Constant_bool ⟨.bl b,H,I,rfl,h⟩
theorem FY{j pos}:PE X (.Constant .none j pos) (tC .cL):=λ_ _ _ H _ I h=>Constant_none ⟨.cL,H,I,rfl,h⟩
theorem GN{x j pos}:PE X (.Constant (.str x) j pos) (tC (.str x)):=λ_ _ _ H _ I h=>Calls.Constant_str ⟨.str x,H,I.tok _,⟨_,rfl⟩,h⟩
def Gl(X:Cx)(x:Str):Prop:=X.env.kindOf x=some .globalImplicit
theorem iY{pos:Pos}(I:Inv X Me σ H s)(hg:Gl X x)(hm:X.mg x=some u)(h:Q u s)
  (hd:autoParam ((x==("__debug__" : Str))=false) aD._auto_1):wpAny (model X.prog X.w) X.A (eval (.Name x pos) X.env) Q E s :=
 Calls.Name_function_global I.ok.kind hg (Calls.loadGlobal_global (by rw[I.ok.glob];exact I.mod.glob.keeps I.bk) hm h) hd
theorem i4{pos:Pos}(I:Inv X Me σ H s)(hg:Gl X x)(hm:X.mg x=none)(hv:bootBuiltins x=some u)(h:Q u s)
  (hn:autoParam (x ≠ "__name__") aD._auto_1) (hd:autoParam ((x==("__debug__" : Str))=false) aD._auto_1):wpAny (model X.prog X.w) X.A (eval (.Name x pos) X.env) Q E s:=by
 obtain⟨mb,h1,h2⟩:=I.mod.blt
 exact Calls.Name_function_global I.ok.kind hg (Calls.loadGlobal_builtin (by rw[I.ok.glob];exact I.mod.glob.keeps I.bk) hm (by rw[I.ok.blt];exact h1.keeps I.bk) ((h2 x hn).trans hv) h) hd
theorem wV{pos:Pos}(hg:Gl X x)(hm:X.mg x=some u)(r:RelV v u)(hd:autoParam ((x==("__debug__" : Str))=false) aD._auto_1):PE X (.Name x pos) (tC v) :=
 λ_ _ _ H _ I h=>iY I hg hm ⟨v,H,I,r,h⟩ hd
theorem dr{pos:Pos}(hg:Gl X x)(hm:X.mg x=none)(hv:bootBuiltins x=some u)(r:RelV v u)(hn:autoParam (x ≠ "__name__") aD._auto_1)(hd:autoParam ((x==("__debug__" : Str))=false) aD._auto_1):PE X (.Name x pos) (tC v) :=
 λ_ _ _ H _ I h=>i4 I hg hm hv ⟨v,H,I,r,h⟩ hn hd
variable{a b:Expr}{tb:TE}{pos:Pos}
def PC(X:Cx)(op:CmpOp)(a b:Expr)(t:TE):Prop :=
 ∀ (Me:List (Addr×Obj)) (s:Shared) (σ:St) (H:Hp) (Q:VK),Inv X Me σ H s->t σ H Q ->
  wpAny (model X.prog X.w) X.A (eval a X.env) (λv s₁=>wpAny (model X.prog X.w) X.A (eval b X.env) (λu s₂=>wpAny (model X.prog X.w) X.A (compareOp op v u) (EP X Me σ Q) X.xe s₂) X.xe s₁) X.xe s
def tB(t:TE):TT:=fun σ H Q=>t σ H λx H1=>∃ c,x=.bl c/\Q c H1
theorem FG{t:TE}(h:PC X op a b t)(h1:behindInMarks op b=false:=by first | exact nobehind _ (by decide) (by decide) | rfl):PT X (.Compare a [op] [b] pos) (tB t):=by
 intro Me s σ H Q I hw
 refine wpAny_isTrue_Compare1 (bT (h Me s σ H _ I hw) λv s1 h1=>bT h1 λu s2 h2=>bT h2 λc s3 ⟨x,H1,I1,r1,q1⟩=>?_) h1
 obtain⟨d,rfl,q⟩:=q1
 cases r1
 exact wpAny_truthy_bool ⟨H1,I1,q⟩
theorem F1{t:TE}(h:PE X e t)(he:autoParam (∀ whole,isTrue e X.env whole=(do let v ← whole;standAt e.pos;holding [v] (truthy v))) aI._auto_1):PT X e (tB t):=by
 intro Me s σ H Q I hw
 refine isTrue_plain (bT (h Me s σ H _ I hw) λv s1 ⟨x,H1,I1,r1,q1⟩=>?_) (he _)
 obtain⟨d,rfl,q⟩:=q1
 cases r1
 exact wpAny_truthy_bool ⟨H1,I1,q⟩
variable{tA tB':TT}{rest:List Expr}
def JQ(t u:TT):TT:=fun σ H Q=>t σ H λc H1=>if c=true then u σ H1 Q else Q false H1
def LX(t u:TT):TT:=fun σ H Q=>t σ H λc H1=>if c=true then Q true H1 else u σ H1 Q
def J7(t:TT):TT:=fun σ H Q=>t σ H λc H1=>Q (!c) H1
theorem pw_and1(ha:PT X a tA):PW X (.BoolOp .And [a] pos) tA:=by
 intro wh Me s σ H Q I h
 refine isTrue_and (bT (ha Me s σ H Q I h) λc s1 e=>?_)
 cases c with
 | true=>exact isTrue_and_nil e
 | false=>exact e
theorem pw_or1(ha:PT X a tA):PW X (.BoolOp .Or [a] pos) tA:=by
 intro wh Me s σ H Q I h
 refine isTrue_or (bT (ha Me s σ H Q I h) λc s1 e=>?_)
 cases c with
 | false=>exact isTrue_or_nil e
 | true=>exact e
theorem pw_and(ha:PT X a tA)(hb:PW X (.BoolOp .And (b::rest) pos) tB'):PW X (.BoolOp .And (a::b::rest) pos) (JQ tA tB'):=by
 intro wh Me s σ H Q I h
 refine isTrue_and (bT (ha Me s σ H _ I h) λc s1 ⟨H1,I1,q1⟩=>?_)
 cases c with
 | true=>exact hb wh Me s1 σ H1 Q I1 q1
 | false=>exact⟨H1,I1,q1⟩
theorem pw_or(ha:PT X a tA)(hb:PW X (.BoolOp .Or (b::rest) pos) tB'):PW X (.BoolOp .Or (a::b::rest) pos) (LX tA tB'):=by
 intro wh Me s σ H Q I h
 refine isTrue_or (bT (ha Me s σ H _ I h) λc s1 ⟨H1,I1,q1⟩=>?_)
 cases c with
 | true=>exact⟨H1,I1,q1⟩
 | false=>exact hb wh Me s1 σ H1 Q I1 q1
theorem Fo(ha:PT X a tA):PT X (.UnaryOp .Not a pos) (J7 tA):=by
 intro Me s σ H Q I h
 exact isTrue_not (ha Me s σ H (λc H1=>Q (!c) H1) I h)
def HQ(ta tb:TE):TE:=fun σ H Q=>ta σ H λx H1=>∃ c,x=.bl c/\if c=true then tb σ H1 Q else Q (.bl false) H1
def KR(ta tb:TE):TE:=fun σ H Q=>ta σ H λx H1=>∃ c,x=.bl c/\if c=true then Q (.bl true) H1 else tb σ H1 Q
def IX(ta:TE):TE:=fun σ H Q=>ta σ H λx H1=>∃ c,x=.bl c/\Q (.bl (!c)) H1
theorem mh{op}{t:TE}(h:PE X a t):PE X (.BoolOp op [a] pos) t:=λMe s σ H Q I hw=>BoolOp_one (h Me s σ H Q I hw)
theorem E_(ha:PE X a ta)(hb:PE X (.BoolOp .And (b::rest) pos) tb):PE X (.BoolOp .And (a::b::rest) pos) (HQ ta tb):=by
 intro Me s σ H Q I h
 refine BoolOp_and (bT (ha Me s σ H _ I h) λv s1 ⟨x,H1,I1,r1,q1⟩=>?_)
 obtain⟨c,rfl,q1⟩:=q1
 cases r1
 refine wpAny_truthy_bool ?_
 cases c with
 | true=>exact hb Me s1 σ H1 Q I1 q1
 | false=>exact⟨.bl false,H1,I1,rfl,q1⟩
theorem Iu(ha:PE X a ta)(hb:PE X (.BoolOp .Or (b::rest) pos) tb):PE X (.BoolOp .Or (a::b::rest) pos) (KR ta tb):=by
 intro Me s σ H Q I h
 refine BoolOp_or (bT (ha Me s σ H _ I h) λv s1 ⟨x,H1,I1,r1,q1⟩=>?_)
 obtain⟨c,rfl,q1⟩:=q1
 cases r1
 refine wpAny_truthy_bool ?_
 cases c with
 | false=>exact hb Me s1 σ H1 Q I1 q1
 | true=>exact⟨.bl true,H1,I1,rfl,q1⟩
theorem F2(ha:PE X a ta):PE X (.UnaryOp .Not a pos) (IX ta):=by
 intro Me s σ H Q I h
 refine UnaryOp_ (bT (ha Me s σ H _ I h) λv s1 ⟨x,H1,I1,r1,q1⟩=>?_)
 obtain⟨c,rfl,q1⟩:=q1
 cases r1
 exact not_of (wpAny_truthy_bool ⟨.bl (!c),H1,I1,rfl,q1⟩)
def LZ(t:TT)(ta tb:TE):TE:=fun σ H Q=>t σ H λc H1=>if c=true then ta σ H1 Q else tb σ H1 Q
theorem A8(hc:PT X c tA)(ha:PE X a ta)(hb:PE X b tb):PE X (.IfExp c a b pos) (LZ tA ta tb):=by
 intro Me s σ H Q I h
 refine wpAny_IfExp (bT (hc Me s σ H _ I h) λd s1 ⟨H1,I1,q1⟩=>?_)
 cases d with
 | true=>exact ha Me s1 σ H1 Q I1 q1
 | false=>exact hb Me s1 σ H1 Q I1 q1
end
def eI(K:PySem.W.Frag)(H:Hp)(a:Addr)(xs:List V):Prop :=
 Rd H a (.lst xs) ∨
  ∃ (o:Obj) (Mg:Array Value) (n:Nat),K.lookup a=some o/\o.cls=.type "list" /\ o.dict=none/\o.data=.seq Mg n/\Mg.size<=sizeLine/\Vals xs Mg.toList
def gx(K:PySem.W.Frag)(H:Hp)(a:Addr)(xs:List V):Prop :=
 Rd H a (.tup xs) ∨
  ∃ (o:Obj) (Mg:Array Value) (n:Nat),K.lookup a=some o/\o.cls=.type "tuple" /\ o.data=.seq Mg n/\Mg.size<=sizeLine/\Vals xs Mg.toList
def K0:Value->Option V
 | .none=>some .cL
 | .bool b=>some (.bl b)
 | .int i _=>some (.int i)
 | .str x _=>some (.str x)
 | .bytes b _=>some (.byt b)
 | .float b _=>some (.Ex b)
 | .ref a=>some (.ref a)
 | .type n=>some (.ty n)
 | _=>none
theorem RelV.abs{x:V}(r:RelV x u):K0 u=some x:=by
 cases x with
 | cL=>cases r;rfl
 | bl _=>cases r;rfl
 | int _=>obtain⟨t,rfl⟩:=r;rfl
 | str _=>obtain⟨t,rfl⟩:=r;rfl
 | byt _=>obtain⟨t,rfl⟩:=r;rfl
 | Ex _=>obtain⟨t,rfl⟩:=r;rfl
 | ref _=>cases r;rfl
 | ty _=>cases r;rfl
theorem RelV.inj{x y:V}{u:Value}(r:RelV x u)(q:RelV y u):x=y:=Option.some.inj (r.abs.symm.trans q.abs)
theorem Vals.inj:∀ {xs ys:List V} {us:List Value},Vals xs us->Vals ys us->xs=ys
 | _,_,_,.nil,.nil=>rfl
 | _,_,_,.cons r t,.cons r' t'=>by rw[r.inj r',Vals.inj t t']
section
variable{xs ys:List V}
theorem eI.of{K:PySem.W.Frag}(h:H a=some (.lst xs)):eI K H a xs:=.inl (.inl h)
theorem gx.of{K:PySem.W.Frag}(h:H a=some (.tup xs)):gx K H a xs:=.inl (.inl h)
theorem Inv.list(I:Inv X Me σ H s)(h:eI X.K H a xs):∃ Mg:List Value,Vals xs Mg/\PlainL s.heap a Mg.toArray/\xs.length<=sizeLine:=by
 rcases h with h | ⟨o,Mg,n,hk,hc,hd,hs,hz,r⟩
 ·obtain⟨z,Mg,n,r,e⟩:=h.ok I.bu
  exact⟨Mg,r,⟨_,n,e,rfl,rfl,rfl⟩,z⟩
 ·refine⟨Mg.toList,r,⟨o,n,I.jt a o hk,hc,hd,by simpa using hs⟩,?_⟩
  have e:=r.length
  simp only[Array.length_toList] at e
  omega
theorem Inv.tuple(I:Inv X Me σ H s)(h:gx X.K H a xs):∃ Mg:List Value,Vals xs Mg/\IsTup s.heap a Mg.toArray/\xs.length<=sizeLine:=by
 rcases h with h | ⟨o,Mg,n,hk,hc,hs,hz,r⟩
 ·obtain⟨z,Mg,r,p⟩:=h.ok I.bu
  exact⟨Mg,r,p,z⟩
 ·refine⟨Mg.toList,r,⟨o,I.jt a o hk,hc,n,by simpa using hs⟩,?_⟩
  have e:=r.length
  simp only[Array.length_toList] at e
  omega
theorem Inv.oC(I:Inv X Me σ H s)(h:eI X.K H a xs)(h':eI X.K H a ys):xs=ys:=by
 obtain⟨Mg,r,⟨o,n,e,_,_,d⟩,_⟩:=I.list h
 obtain⟨its',r',⟨o',n',e',_,_,d'⟩,_⟩:=I.list h'
 rw[e] at e';cases e'
 rw[d] at d'
 injection d' with d1 _
 have:Mg=its':=by simpa using congrArg Array.toList d1
 subst this
 exact r.inj r'
theorem Inv.lU(I:Inv X Me σ H s)(h:gx X.K H a xs)(h':gx X.K H a ys):xs=ys:=by
 obtain⟨Mg,r,⟨o,e,_,n,d⟩,_⟩:=I.tuple h
 obtain⟨its',r',⟨o',e',_,n',d'⟩,_⟩:=I.tuple h'
 rw[e] at e';cases e'
 rw[d] at d'
 injection d' with d1 _
 have:Mg=its':=by simpa using congrArg Array.toList d1
 subst this
 exact r.inj r'
end
abbrev Cx.nY(X:Cx)(E:Value->Shared->Prop):Cx:={ X with xe:=E }
theorem Cx.Ok.nY{X:Cx}(ok:X.Ok)(E:Value->Shared->Prop):(X.nY E).Ok :=
 ⟨ok.mod,ok.kind,ok.glob,ok.blt,ok.above,ok.inj,ok.has,ok.EK,ok.hd,ok.frames,ok.GG,ok.Hu,ok.bs,ok.yL,ok.qG,ok.tV,ok.kL,ok.BV⟩
theorem Cx.Ok.ef(ok:(X.nY E).Ok):X.Ok :=
 ⟨ok.mod,ok.kind,ok.glob,ok.blt,ok.above,ok.inj,ok.has,ok.EK,ok.hd,ok.frames,ok.GG,ok.Hu,ok.bs,ok.yL,ok.qG,ok.tV,ok.kL,ok.BV⟩
theorem Inv.nY(I:Inv X Me σ H s)(E:Value->Shared->Prop):Inv (X.nY E) Me σ H s:=⟨I.ok.nY E,I.os,I.bare,I.base,I.loc,I.cell,I.free,I.fK,I.pin,I.bu,I.len⟩
theorem Inv.ef(I:Inv (X.nY E) Me σ H s):Inv X Me σ H s:=⟨I.ok.ef,I.os,I.bare,I.base,I.loc,I.cell,I.free,I.fK,I.pin,I.bu,I.len⟩
theorem SP.ef{D:Ends}{f:Flow}{s':Shared}(h:SP (X.nY E) Me D f s'):SP X Me D f s':=by
 cases f with
 | next=>obtain⟨σ',H',I,q⟩:=h;exact⟨σ',H',I.ef,q⟩
 | brk=>obtain⟨σ',H',I,q⟩:=h;exact⟨σ',H',I.ef,q⟩
 | cont=>obtain⟨σ',H',I,q⟩:=h;exact⟨σ',H',I.ef,q⟩
 | ret u=>obtain⟨v,σ',H',I,r,q⟩:=h;exact⟨v,σ',H',I.ef,r,q⟩
variable{te:TE}
variable{tc:TT}
section
variable{st:Stmt}{rest:List Stmt}{t u:TS}{pos:Pos}
def oz:TS:=λD σ H=>D.nx σ H
def jr(t u:TS):TS:=λD σ H=>t { D with nx:=u D } σ H
theorem iQ:kc X [] oz:=λ_ _ σ H _ I h=>wpAny_execs_nil ⟨σ,H,I,h⟩
theorem bH(h1:PS X st t)(h2:kc X rest u):kc X (st::rest) (jr t u):=by
 intro Me s σ H D I h
 refine wpAny_execs_cons (bT (h1 Me s σ H { D with nx:=u D } I h) λf s1 q=>?_)
 cases f with
 | next =>
  obtain⟨σ',H',I',q⟩:=q
  exact h2 Me s1 σ' H' D I' q
 | ret v=>exact q
 | brk=>exact q
 | cont=>exact q
theorem Cv(h1:PS X st t):kc X [st] t:=by
 intro Me s σ H D I h
 refine wpAny_execs_cons (bT (h1 Me s σ H D I h) λf s1 q=>?_)
 cases f with
 | next=>exact wpAny_execs_nil q
 | ret v=>exact q
 | brk=>exact q
 | cont=>exact q
theorem Inv.quiet(I:Inv X Me σ H s):interactive X.env=false:=by simp[interactive,I.ok.kind]
def Em(te:TE):TS:=λD σ H=>te σ H λ_ H1=>D.nx σ H1
theorem m9(he:PE X e te)(hs:autoParam (swapsWith e none pos.line X.env=pure false) aR._auto_1):PS X (.Expr e pos) (Em te):=by
 intro Me s σ H D I h
 exact wpAny_Expr_any (bT (he Me s σ H _ I h) λv s1 ⟨x,H1,I1,r1,q1⟩=>⟨σ,H1,I1,q1⟩) I.quiet hs
def Iv(te:TE):TS:=λD σ H=>te σ H D.rt
theorem By(he:PE X e te):PS X (.Return (some e) pos) (Iv te):=by
 intro Me s σ H D I h
 exact wpAny_Return_some (bT (he Me s σ H _ I h) λv s1 ⟨x,H1,I1,r1,q1⟩=>⟨x,σ,H1,I1,r1,q1⟩)
def J9(c:TT)(t u:TS):TS:=λD σ H=>c σ H λb H1=>if b=true then t D σ H1 else u D σ H1
theorem Im{a b:List Stmt}(hc:PT X c tc)(ha:kc X a t)(hb:kc X b u):PS X (.If c a b pos) (J9 tc t u):=by
 intro Me s σ H D I h
 refine wpAny_If (bT (hc Me s σ H _ I h) λd s1 ⟨H1,I1,q1⟩=>?_)
 cases d with
 | true=>exact ha Me s1 σ H1 D I1 q1
 | false=>exact hb Me s1 σ H1 D I1 q1
end
abbrev TG:=V->St->Hp->(St->Hp->Prop)->Prop
abbrev GL:=List V->St->Hp->(St->Hp->Prop)->Prop
def PG(X:Cx)(target:Expr)(t:TG):Prop :=
 ∀ (Me:List (Addr×Obj)) (s:Shared) (σ:St) (H:Hp) (v:V) (u:Value) (Q:St->Hp->Prop),Inv X Me σ H s->RelV v u->t v σ H Q ->
  wpAny (model X.prog X.w) X.A (assign target X.env u) (λ_ s'=>∃ σ' H',Inv X Me σ' H' s'/\Q σ' H') X.xe s
def Jz(X:Cx)(ts:List Expr)(t:GL):Prop :=
 ∀ (Me:List (Addr×Obj)) (s:Shared) (σ:St) (H:Hp) (vs:List V) (us:List Value) (Q:St->Hp->Prop),Inv X Me σ H s->Vals vs us->t vs σ H Q ->
  wpAny (model X.prog X.w) X.A (assignInOrder ((assignEach ts X.env).map (·.2)) us) (λ_ s'=>∃ σ' H',Inv X Me σ' H' s'/\Q σ' H') X.xe s
abbrev F8:=V->V->V->Hp->(Hp->Prop)->Prop
def Jm(X:Cx)(t:F8):Prop :=
 ∀ (Me:List (Addr×Obj)) (s:Shared) (σ:St) (H:Hp) (o i v:V) (ov iv u:Value) (Q:Hp->Prop),Inv X Me σ H s->RelV o ov->RelV i iv->RelV v u->t o i v H Q ->
  wpAny (model X.prog X.w) X.A (setItem ov iv u) (λ_ s'=>∃ H',Inv X Me σ H' s'/\Q H') X.xe s
abbrev Jw:=V->V->Hp->VK->Prop
def Lz(X:Cx)(op:Operator)(t:Jw):Prop :=
 ∀ (Me:List (Addr×Obj)) (s:Shared) (σ:St) (H:Hp) (x y:V) (v u:Value) (Q:VK),Inv X Me σ H s->RelV x v->RelV y u->t x y H Q ->
  wpAny (model X.prog X.w) X.A (inplaceOp op v u) (EP X Me σ Q) X.xe s
variable{es:List Expr}
variable{n k:Nat}
section
variable{pos:Pos}
def aH(i:Nat):TG:=λv σ H Q=>Q (σ.set i (some v)) H
theorem CD(hN:X.N.Nodup)(hi:X.N[i]?=some x)(hx:Loc X.env.scope x)(hf:autoParam (X.fn x=true\/X.env.scope.names.lookup x=some .local) aF._auto_1):PG X (.Name x pos) (aH i):=by
 intro Me s σ H v u Q I r h
 exact wpAny_assign_Name (oX I hN hi hx r (λs' I'=>⟨_,H,I',h⟩) hf)
def jG:GL:=λvs σ H Q=>vs=[]/\Q σ H
def bM(t:TG)(u:GL):GL:=λvs σ H Q=>∃ v r,vs=v::r/\t v σ H fun σ' H'=>u r σ' H' Q
theorem cR:Jz X [] jG:=by
 intro Me s σ H vs us Q I r h
 obtain⟨e,h⟩:=h
 subst e
 cases r
 exact assignInOrder_nil ⟨σ,H,I,h⟩
theorem aQ{t:TG}{u:GL}(h1:PG X e t)(h2:Jz X es u)
  (hs:autoParam ((assignEach (e::es) X.env).map (·.2)=assign e X.env::(assignEach es X.env).map (·.2)) aR._auto_1):Jz X (e::es) (bM t u):=by
 intro Me s σ H vs us Q I r h
 obtain⟨v,vr,e1,h⟩:=h
 subst e1
 cases r with
 | cons r rr =>
  rw[hs]
  refine assignInOrder_cons (bT (h1 Me s σ H _ _ _ I r h) λ_ s1 ⟨σ1,H1,I1,q1⟩=>?_)
  exact h2 Me s1 σ1 H1 _ _ Q I1 rr q1
def jy(K:PySem.W.Frag)(n:Nat)(t:GL):TG:=λv σ H Q=>∃ a xs,v=.ref a/\gx K H a xs/\xs.length=n/\t xs σ H Q
theorem dY{t:GL}(hc:X.calm=true)(h:Jz X es t)
  (hn:autoParam ((assignEach es X.env).length=n) aR._auto_1) (Mv:autoParam ((assignEach es X.env).findIdx? (·.1)=none) aR._auto_1):PG X (.Tuple es k pos) (jy X.K n t):=by
 intro Me s σ H v u Q I r hw
 obtain⟨a,xs,e1,hq,hl,hw⟩:=hw
 subst e1
 cases r
 obtain⟨Mg,rv,ht,hz⟩:=I.tuple hq
 refine assign_Tuple_tuple (I.ok.hd hc) ht (by simp[hn,← hl,rv.length]) Mv λh' hx=>?_
 have I1:Inv X Me σ H { s with heap:=h' }:=I.kept (t':=s.toks) λb o e=>hx b o (Nat.ne_of_lt (Heap.lt_size e)) e
 exact h Me _ σ H xs _ Q I1 (by simpa using rv) hw
def pG(te:TE)(g:TG):TS:=λD σ H=>te σ H λx H1=>g x σ H1 D.nx
theorem gY{pos':Pos}(hN:X.N.Nodup)(hi:X.N[i]?=some x)(hx:Loc X.env.scope x)(he:PE X e te)(hs:autoParam (swapsWith e (some (.Name x pos')) pos.line X.env=pure false) aR._auto_1)(hf:autoParam (X.fn x=true\/X.env.scope.names.lookup x=some .local) aF._auto_1) :
  PS X (.Assign [.Name x pos'] e pos) (pG te (aH i)):=by
 intro Me s σ H D I h
 refine wpAny_Assign_Name (bT (he Me s σ H _ I h) λv s1 ⟨y,H1,I1,r1,q1⟩=>?_) hs
 exact oX I1 hN hi hx r1 (λs2 I2=>⟨_,H1,I2,q1⟩) hf
def EW(to ti te:TE)(OS:V->V->Hp->VK->Prop)(tip:Jw)(OT:F8):TS:=λD σ H=>to σ H λo H1=>ti σ H1 λi H2=>OS o i H2 λx H3=>te σ H3 λy H4=>tip x y H4 λz H5=>OT o i z H5 λH6=>D.nx σ H6
def Ia(X:Cx)(t:V->V->Hp->VK->Prop):Prop :=
 ∀ (Me:List (Addr×Obj)) (s:Shared) (σ:St) (H:Hp) (o i:V) (ov iv:Value) (Q:VK),Inv X Me σ H s->RelV o ov->RelV i iv->t o i H Q ->
  wpAny (model X.prog X.w) X.A (getItem ov iv) (EP X Me σ Q) X.xe s
theorem CQ{o i:Expr}{to ti:TE}{OS:V->V->Hp->VK->Prop}{tip:Jw}{OT:F8}{op:Operator}{Pf:Pos}(ho:PE X o to)(hi:PE X i ti)(hg:Ia X OS)(he:PE X e te)(hp:Lz X op tip)(hs:Jm X OT)
  (ha:∀ ov iv new,augStore i ov iv new=(do holding [new,ov,iv] (setItem ov iv new);release [new,ov,iv] [];pure .next):=by intros;rfl):PS X (.AugAssign (.Subscript o i Pf) op e pos) (EW to ti te OS tip OT):=by
 intro Me s σ H D I h
 refine wpAny_AugAssign_SubscriptAny (bT (ho Me s σ H _ I h) λov s1 ⟨x1,H1,I1,r1,q1⟩=>?_) ha
 refine bT (hi Me s1 σ H1 _ I1 q1) λiv s2 ⟨x2,H2,I2,r2,q2⟩=>?_
 refine bT (hg Me s2 σ H2 x1 x2 ov iv _ I2 r1 r2 q2) λold s3 ⟨x3,H3,I3,r3,q3⟩=>?_
 refine bT (he Me s3 σ H3 _ I3 q3) λv s4 ⟨x4,H4,I4,r4,q4⟩=>?_
 refine bT (hp Me s4 σ H4 x3 x4 old v _ I4 r3 r4 q4) λnew s5 ⟨x5,H5,I5,r5,q5⟩=>?_
 exact bT (hs Me s5 σ H5 x1 x2 x5 ov iv new _ I5 r1 r2 r5 q5) λ_ s6 ⟨H6,I6,q6⟩=>⟨σ,H6,I6,q6⟩
def Lr(f:Int->Int->Int):Jw:=λx y H Q=>∃ i j,x=.int i/\y=.int j/\Q (.int (f i j)) H
theorem Gr:Lz X .Add (Lr λi j=>i+j):=by
 intro Me s σ H x y v u Q I r1 r2 h
 obtain⟨i,j,e1,e2,q⟩:=h
 subst e1;subst e2
 obtain⟨t,rfl⟩:=r1
 obtain⟨t',rfl⟩:=r2
 exact iadd_int ⟨.int _,H,I.tok _,⟨_,rfl⟩,q⟩
end
variable{tb:TS}{body:List Stmt}
section
variable{pos:Pos}
def Ac(c:TT)(tb:TS):TS:=λD σ H=>∃ W:Nat->St->Hp->Prop,(∃ m,W m σ H)/\∀ m σ H,W m σ H ->
 c σ H λb H1=>if b=true then ∃ N:St->Hp->Prop,(∀ σ' H',N σ' H'->∃ m',m'<m/\W m' σ' H')/\tb { D with nx:=N,ct:=N,bk:=D.nx } σ H1 else D.nx σ H1
theorem um(hp:PassesOwn (model X.prog X.w) X.A X.env X.xe)(hc:PT X c tc)(hb:kc X body tb):PS X (.While c body [] pos) (Ac tc tb):=by
 intro Me s σ H D I h
 obtain⟨W,⟨m0,w0⟩,turn⟩:=h
 refine wpAny_While (codeAny_whileLoop (λn s'=>∃ σ' H',Inv X Me σ' H' s'/\W n σ' H') ?_ m0 ⟨σ,H,I,w0⟩)
 rintro n s1 ⟨σ1,H1,I1,w1⟩
 refine wpAny_passesOwn hp (bT (hc Me s1 σ1 H1 _ I1 (turn n σ1 H1 w1)) λb s2 ⟨H2,I2,q2⟩=>?_)
 cases b with
 | true =>
  obtain⟨N,hN,q2⟩:=q2
  rw[if_pos rfl]
  refine wpAny_passesOwn hp (bT (hb Me s2 σ1 H2 _ I2 q2) λf s3 q3=>?_)
  cases f with
  | next =>
   obtain⟨σ3,H3,I3,n3⟩:=q3
   obtain⟨m',hm,w3⟩:=hN σ3 H3 n3
   exact⟨m',hm,σ3,H3,I3,w3⟩
  | cont =>
   obtain⟨σ3,H3,I3,n3⟩:=q3
   obtain⟨m',hm,w3⟩:=hN σ3 H3 n3
   exact⟨m',hm,σ3,H3,I3,w3⟩
  | brk=>exact q3
  | ret v=>exact q3
 | false =>
  rw[if_neg Bool.false_ne_true]
  exact wpAny_execs_nil ⟨σ1,H2,I2,q2⟩
end
structure It where
 go:Nat->Hp->Prop
 uu:Nat->Hp->V->Hp->Prop
 stop:Nat->Hp->Prop
def k6(X:Cx)(Me:List (Addr×Obj))(H:Hp)(b:Addr):Prop :=
 H b=none/\b≠X.env.locals/\b ∉ X.fs/\(b∈X.ex\/X.s₀.heap.objs.size<=b)/\(∀ x c,X.env.cells.lookup x=some c->c≠b)/\∀ p∈X.pn++Me,p.1≠b
theorem Inv.pQ(I:Inv X Me σ H s)(hb:s.heap.objs.size<=b)(hn:H' b=none):k6 X Me H' b:=by
 refine⟨hn,Nat.ne_of_gt (Nat.lt_of_lt_of_le I.lt hb),I.Kc hb,.inr (Nat.le_trans I.sz hb),λx c e z=>?_,λp hp z=>?_⟩
 ·obtain⟨v,q⟩:=I.cell x c e
  exact absurd (Nat.lt_of_lt_of_le q.lt (by rw[z];exact hb)) (Nat.lt_irrefl _)
 ·exact absurd (Nat.lt_of_lt_of_le (Heap.lt_size (I.pin p hp).1) (by rw[z];exact hb)) (Nat.lt_irrefl _)
structure Turn (P:Program) (w:World) (K:PySem.W.Frag) (tg:Expr) (J:It) (fp:List Addr) (it:Addr) (tn:Nat->Heap->Prop):Prop where
 mem:it∈fp
 obj:∀ i h,tn i h->∀ b∈fp,∃ o,h.get? b=some o/\∀ v,o.data≠.cell v
 keep:∀ i h h',tn i h->(∀ b∈fp,∀ o,h.get? b=some o->h'.get? b=some o)->tn i h'
 item:∀ (X:Cx),X.prog=P->X.w=w->X.K=K->X.calm=true->∀ (i:Nat) (Me:List (Addr×Obj)) (s:Shared) (σ:St) (H:Hp) (E:Value->Shared->Prop),Inv X Me σ H s->(∀ b∈fp,k6 X Me H b)->tn i s.heap->J.go i H ->
  wpAny (model P w) X.A (pyNext (.ref it)) (λr s1=>∃ u,r=some u ∧
   wpAny (model P w) X.A (letOwnedTupleGo tg (.ref it) u) (λ_ s2=>∃ x H',Inv X Me σ H' s2/\RelV x u/\J.uu i H x H'/\tn (i+1) s2.heap/\∀ b∈fp,H' b=none) E s1) E s
 done:∀ (X:Cx),X.prog=P->X.w=w->X.K=K->X.calm=true->∀ (i:Nat) (Me:List (Addr×Obj)) (s:Shared) (σ:St) (H:Hp) (E:Value->Shared->Prop),Inv X Me σ H s->(∀ b∈fp,k6 X Me H b)->tn i s.heap->J.stop i H ->
  wpAny (model P w) X.A (pyNext (.ref it)) (λr s1=>r=none/\Inv X Me σ H s1) E s
 self:∀ (A:Around) (i:Nat) (s:Shared) (Q:Value->Shared->Prop) (E:Value->Shared->Prop),tn i s.heap->Q (.ref it) s->wpAny (model P w) A (pyIter (.ref it)) Q E s
abbrev TI:=St->Hp->(It->Hp->Prop)->Prop
def Kb(X:Cx)(Me:List (Addr×Obj))(σ:St)(tg:Expr)(R:It->Hp->Prop)(itv:Value)(s2:Shared):Prop :=
 ∃ (it:Addr) (fp:List Addr) (tn:Nat->Heap->Prop) (J:It) (H':Hp),itv=.ref it/\Inv X Me σ H' s2/\Turn X.prog X.w X.K tg J fp it tn/\tn 0 s2.heap/\(∀ b∈fp,k6 X Me H' b)/\R J H'
def PI(X:Cx)(tg iter:Expr)(wi:TI):Prop :=
 ∀ (Me:List (Addr×Obj)) (s:Shared) (σ:St) (H:Hp) (R:It->Hp->Prop),Inv X Me σ H s->wi σ H R ->
  wpAny (model X.prog X.w) X.A (eval iter X.env) (λv s1=>wpAny (model X.prog X.w) X.A (pyIter v) (Kb X Me σ tg R) X.xe s1) X.xe s
variable{tg:Expr}
theorem wt {M : Model} {o : Obj} {n : String} {vs : Array Value} {Q : Unit -> Shared -> Prop} (ho : s.heap.get? it = some o) (hc : o.cls = .type n) (hd : o.data = .fields vs)
    (hn : ["enumerate", "zip", "dict_itemiterator", "dict_reverseitemiterator", "odict_iterator", "itertools.zip_longest", "itertools.pairwise"].contains n = false) (hQ : Q () s) : wpAny M A (letOwnedTupleGo tg (.ref it) u) Q E s := by
  unfold letOwnedTupleGo
  cases tg <;> first
    | exact wpAny_pure hQ
    | (cases u <;> first
        | exact wpAny_pure hQ
        | (refine wpAny_bind (wpAny_load ho ?_)
           rw [hc, hd]
           show wpAny M A (if (["enumerate", "zip", "dict_itemiterator", "dict_reverseitemiterator", "odict_iterator", "itertools.zip_longest", "itertools.pairwise"].contains n && vs[0]? == some (rawInt _)) = true then _ else _) Q E s
           rw [if_neg (by intro h; rw [hn, Bool.false_and] at h; cases h)]
           exact wpAny_pure hQ))
def Kl(K:PySem.W.Frag)(a:Addr):It :=
 ⟨λi H=>∃ xs x,eI K H a xs/\xs[i]?=some x,λi H x H'=>H'=H/\∀ xs,eI K H a xs->xs[i]?=some x,λi H=>∃ xs,eI K H a xs/\xs.length<=i⟩
def LH(K:PySem.W.Frag)(a:Addr):It :=
 ⟨λi H=>∃ xs x,gx K H a xs/\xs[i]?=some x,λi H x H'=>H'=H/\∀ xs,gx K H a xs->xs[i]?=some x,λi H=>∃ xs,gx K H a xs/\xs.length<=i⟩
def HG(lo:Int)(n:Nat):It:=⟨λi _=>i<n,λi H x H'=>H'=H/\x=.int (lo+i),λi _=>n<=i⟩
theorem qE{K:PySem.W.Frag}(a it:Addr):Turn P w K tg (Kl K a) [it] it (λi h=>h.IsListIter it a i) where
 mem:=by simp
 obj:=λi h st b hb=>by
  have e:b=it:=by simpa using hb
  subst e
  obtain⟨o,e,c,d⟩:=st
  exact⟨o,e,λv z=>by rw[d] at z;cases z⟩
 keep:=λi h h' st k=>st.at λo e=>k it (by simp) o e
 item:=by
  intro X hP hw hK hc i Me s σ H E I hf st hg
  subst hP hw hK
  obtain⟨xs,x,hq,hx⟩:=hg
  obtain⟨Mg,rv,p,hz⟩:=I.list hq
  obtain⟨u,hu,ru⟩:=rv.get hx
  obtain⟨f0,f1,f2,f3,f4,f5⟩:=hf it (by simp)
  refine wpAny_pyNext_list_item st p.isList (x:=u) (by simpa using hu) λh' MY sb=>?_
  have I1:Inv X Me σ H { s with heap:=h' }:=I.turned (t':=s.toks) (λb o hb e=>(sb.2 b hb).trans e) f0 f1 f3 f4 f5
  obtain⟨o,e,c,d⟩:=id MY
  exact⟨u,rfl,wt (s:={ s with heap:=h' }) e c d (by decide) ⟨x,H,I1,ru,⟨rfl,λys hy=>by rw[I.oC hy hq];exact hx⟩,MY,λb hb=>(hf b hb).1⟩⟩
 done:=by
  intro X hP hw hK hc i Me s σ H E I hf st hg
  subst hP hw hK
  obtain⟨xs,hq,hx⟩:=hg
  obtain⟨Mg,rv,p,hz⟩:=I.list hq
  obtain⟨f0,f1,f2,f3,f4,f5⟩:=hf it (by simp)
  have hl:=rv.length
  exact wpAny_pyNext_list_end (I.ok.hd hc) st p.isList (by simp;omega) λh' eb=>⟨rfl,I.turned (t':=s.toks) (λb o hb e=>eb b o hb e) f0 f1 f3 f4 f5⟩
 self:=λ_ _ _ _ _ st h=>wpAny_pyIter_listiter st h
theorem uP{K:PySem.W.Frag}(a it:Addr):Turn P w K tg (LH K a) [it] it (λi h=>h.IsTupleIter it a i) where
 mem:=by simp
 obj:=λi h st b hb=>by
  have e:b=it:=by simpa using hb
  subst e
  obtain⟨o,e,c,d⟩:=st
  exact⟨o,e,λv z=>by rw[d] at z;cases z⟩
 keep:=λi h h' st k=>st.at λo e=>k it (by simp) o e
 item:=by
  intro X hP hw hK hc i Me s σ H E I hf st hg
  subst hP hw hK
  obtain⟨xs,x,hq,hx⟩:=hg
  obtain⟨Mg,rv,p,hz⟩:=I.tuple hq
  obtain⟨u,hu,ru⟩:=rv.get hx
  obtain⟨f0,f1,f2,f3,f4,f5⟩:=hf it (by simp)
  refine wpAny_pyNext_tuple_item st (show s.heap.IsTuple a Mg.toArray from p) (x:=u) (by simpa using hu) λh' MY sb=>?_
  have I1:Inv X Me σ H { s with heap:=h' }:=I.turned (t':=s.toks) (λb o hb e=>(sb.2 b hb).trans e) f0 f1 f3 f4 f5
  obtain⟨o,e,c,d⟩:=id MY
  exact⟨u,rfl,wt (s:={ s with heap:=h' }) e c d (by decide) ⟨x,H,I1,ru,⟨rfl,λys hy=>by rw[I.lU hy hq];exact hx⟩,MY,λb hb=>(hf b hb).1⟩⟩
 done:=by
  intro X hP hw hK hc i Me s σ H E I hf st hg
  subst hP hw hK
  obtain⟨xs,hq,hx⟩:=hg
  obtain⟨Mg,rv,p,hz⟩:=I.tuple hq
  obtain⟨f0,f1,f2,f3,f4,f5⟩:=hf it (by simp)
  have hl:=rv.length
  exact wpAny_pyNext_tuple_end (I.ok.hd hc) st (show s.heap.IsTuple a Mg.toArray from p) (by simp;omega) λh' eb=>⟨rfl,I.turned (t':=s.toks) (λb o hb e=>eb b o hb e) f0 f1 f3 f4 f5⟩
 self:=λ_ _ _ _ _ st h=>wpAny_pyIter_tupleiter st h
theorem uR{K:PySem.W.Frag}(it:Addr)(lo:Int)(n:Nat):Turn P w K tg (HG lo n) [it] it (λi h=>IsRangeIter h it (lo+(i:Nat)*1) ((n:Int)-(i:Nat)) 1) where
 mem:=by simp
 obj:=λi h st b hb=>by
  have e:b=it:=by simpa using hb
  subst e
  exact⟨_,st,λv z=>by
   have z':Data.fields _=Data.cell v:=z
   cases z'⟩
 keep:=λi h h' st k=>k it (by simp) _ st
 item:=by
  intro X hP hw hK hc i Me s σ H E I hf st hg
  subst hP hw hK
  obtain⟨f0,f1,f2,f3,f4,f5⟩:=hf it (by simp)
  have W:=Walks.range (prog:=X.prog) (w:=X.w) (I.ok.hd hc) it lo 1 n
  refine W.item i s _ _ hg st λv h' tk hv MY kk=>?_
  obtain⟨t,rfl⟩:=hv
  have I1:Inv X Me σ H { s with heap:=h',toks:=tk }:=I.turned (λb o hb e=>kk b o (by simpa using hb) e) f0 f1 f3 f4 f5
  refine⟨_,rfl,wt (s:={ s with heap:=h',toks:=tk }) (n := "range_iterator") MY rfl rfl (by decide) ⟨.int (lo+i),H,I1,⟨t,?_⟩,⟨rfl,rfl⟩,MY,λb hb=>(hf b hb).1⟩⟩
  rw[Int.mul_one]
 done:=by
  intro X hP hw hK hc i Me s σ H E I hf st hg
  subst hP hw hK
  obtain⟨f0,f1,f2,f3,f4,f5⟩:=hf it (by simp)
  exact wpAny_pyNext_range_end (I.ok.hd hc) st (by have:n<=i:=hg;omega) λh' eb=>⟨rfl,I.turned (t':=s.toks) (λb o hb e=>eb b o hb e) f0 f1 f3 f4 f5⟩
 self:=λ_ _ _ _ _ st h=>wpAny_pyIter_rangeiter st h
variable{fp:List Addr}
def wg(K:PySem.W.Frag)(tl:TE):TI:=fun σ H R=>tl σ H λx H1=>∃ a,x=.ref a/\(∃ xs,eI K H1 a xs)/\R (Kl K a) H1
theorem wC{l:Expr}{tl:TE}(hl:PE X l tl):PI X tg l (wg X.K tl):=by
 intro Me s σ H R I h
 refine bT (hl Me s σ H _ I h) λv s1 ⟨x,H1,I1,r1,q1⟩=>?_
 obtain⟨a,e,⟨xs,hq⟩,q⟩:=q1
 subst e
 cases r1
 obtain⟨Mg,rv,p,hz⟩:=I1.list hq
 refine wpAny_pyIter_list p.isList ?_
 refine⟨s1.heap.objs.size,[s1.heap.objs.size],_,_,H1,rfl,I1.kept (t':=s1.toks) λb o e=>Heap.get?_push_of_some _ e,qE a _,⟨_,Heap.get?_push_size _ rfl,rfl,rfl⟩,λb hb=>?_,q⟩
 have e:b=s1.heap.objs.size:=by simpa using hb
 subst e
 exact I1.pQ (Nat.le_refl _) (I1.bu.fresh (Nat.le_refl _))
theorem sU{R:It->Hp->Prop}{lo hi:Int}{t u v:Tok}{tk:Nat}(I:Inv X Me σ H s)(h1:-(2^62)<=lo)(h2:lo<2^62)(h3:-(2^62)<=hi)(h4:hi<2^62)
  (q:R (HG lo (hi-lo).toNat) H):wpAny (model X.prog X.w) X.A (pyIter (.ref s.heap.objs.size)) (Kb X Me σ tg R) E { s with heap:=s.heap.push { cls:=.type "range", data:=.fields #[.int lo t,.int hi u,.int 1 v] },toks:=tk }:=by
 refine wpAny_pyIter_range (IsRange.new ..) (small_one h1 h2 h3 h4) ?_
 have I1:Inv X Me σ H { s with heap:=s.heap.push { cls:=.type "range", data:=.fields #[.int lo t,.int hi u,.int 1 v] },toks:=tk }:=I.kept λb o e=>Heap.get?_push_of_some _ e
 refine⟨(s.heap.push { cls:=.type "range", data:=.fields #[.int lo t,.int hi u,.int 1 v] }).objs.size,[(s.heap.push { cls:=.type "range", data:=.fields #[.int lo t,.int hi u,.int 1 v] }).objs.size],_,_,H,rfl,
  I1.kept (t':=tk) λb o e=>Heap.get?_push_of_some _ e,uR _ lo (hi-lo).toNat,?_,λb hb=>?_,q⟩
 ·have e1:lo+((0:Nat):Int)*1=lo:=by simp
  have e2:(((hi-lo).toNat:Nat):Int)-((0:Nat):Int)=Builtin.Range.rangeSize lo hi 1:=by rw[rangeSize_one];split <;> omega
  show IsRangeIter _ _ (lo+((0:Nat):Int)*1) ((((hi-lo).toNat:Nat):Int)-((0:Nat):Int)) 1
  rw[e1,e2]
  exact Heap.get?_push_size _ rfl
 ·have e:b=(s.heap.push { cls:=.type "range", data:=.fields #[.int lo t,.int hi u,.int 1 v] }).objs.size:=by simpa using hb
  subst e
  exact I1.pQ (Nat.le_refl _) (I1.bu.fresh (Nat.le_refl _))
def AF(ta:TA):TI:=fun σ H R=>ta σ H λvs H1=>∃ j:Int,vs=[.int j]/\-(2^62)<=j/\j<2^62/\R (HG 0 j.toNat) H1
def EB(ta:TA):TI:=fun σ H R=>ta σ H λvs H1=>∃ i j:Int,vs=[.int i,.int j]/\(-(2^62)<=i/\i<2^62/\-(2^62)<=j/\j<2^62)/\R (HG i (j-i).toNat) H1
theorem dI{a:Expr}{ta:TA}{p pos:Pos}(hg:Gl X "range")(hm:X.mg "range" = none)(ha:PA X [a] ta)(hs:autoParam (starEach [a] X.env=[(false,eval a X.env)]) aR._auto_1):PI X tg (.Call (.Name "range" p) [a] [] pos) (AF ta):=by
 intro Me s σ H R I h
 refine Call_ (i4 I hg hm boot_range (PyProof.Rows.callWith_type1 (bT (ha pos Me s σ H _ I h) λus s1 ⟨vs,H1,I1,r1,q1⟩=>?_) hs rfl))
 obtain⟨j,e,q1,q2,q⟩:=q1
 subst e
 cases r1 with
 | cons r rr =>
  cases rr
  obtain⟨t,rfl⟩:=r
  exact call_range_1 (sU I1 (by omega) (by omega) q1 q2 (by simpa using q))
theorem yb{a b:Expr}{ta:TA}{p pos:Pos}(hg:Gl X "range")(hm:X.mg "range" = none)(ha:PA X [a,b] ta)(hs:autoParam (starEach [a,b] X.env=[(false,eval a X.env),(false,eval b X.env)]) aR._auto_1)(Nm:autoParam (starEach [b] X.env=[(false,eval b X.env)]) aR._auto_1) :
  PI X tg (.Call (.Name "range" p) [a,b] [] pos) (EB ta):=by
 intro Me s σ H R I h
 refine Call_ (i4 I hg hm boot_range (PyProof.Rows.callWith_type1 (bT (ha pos Me s σ H _ I h) λus s1 ⟨vs,H1,I1,r1,q1⟩=>?_) (by rw[hs,Nm]) (by rw[Nm];rfl)))
 obtain⟨i,j,e,⟨q1,q2,q3,q4⟩,q⟩:=q1
 subst e
 cases r1 with
 | cons r rr =>
  cases rr with
  | cons r' rr =>
   cases rr
   obtain⟨t,rfl⟩:=r
   obtain⟨t',rfl⟩:=r'
   exact call_range_2 (sU I1 q1 q2 q3 q4 q)
def Af(wi:TI)(g:TG)(tb:TS):TS:=λD σ H=>wi σ H λJ H1=>∃ W:Nat->Nat->St->Hp->Prop,(∃ m,W 0 m σ H1)/\∀ i m σ H,W i m σ H ->
 (J.stop i H/\D.nx σ H)\/(J.go i H/\∃ N:St->Hp->Prop,(∀ σ' H',N σ' H'->∃ m',m'<m/\W (i+1) m' σ' H')/\∀ x H',J.uu i H x H'->g x σ H' fun σ2 H2=>tb { D with nx:=N,ct:=N,bk:=D.nx } σ2 H2)
def lX(fp:List Addr)(h:Heap):List (Addr×Obj):=fp.filterMap λb=>(h.get? b).map λo=>(b,o)
theorem iH{o:Obj}(hb:b∈fp)(e:h.get? b=some o):(b,o)∈lX fp h:=List.mem_filterMap.mpr ⟨b,hb,by rw[e];rfl⟩
theorem yj{p:Addr×Obj}(hp:p∈lX fp h):p.1∈fp/\h.get? p.1=some p.2:=by
 obtain⟨b,hb,e⟩:=List.mem_filterMap.mp hp
 cases q:h.get? b with
 | none=>rw[q] at e;cases e
 | some o =>
  rw[q] at e
  have e':(b,o)=p:=Option.some.inj e
  subst e'
  exact⟨hb,q⟩
theorem Inv.pinned(I:Inv X Me σ H s)(hf:∀ b∈fp,k6 X Me H b)(ho:∀ b∈fp,∃ o,s.heap.get? b=some o/\∀ v,o.data≠.cell v):Inv X (Me++lX fp s.heap) σ H s :=
 I.wm λp hp=>(List.mem_append.mp hp).elim (λz=>I.pin p (List.mem_append_right _ z)) λz=>by
  obtain⟨hb,e⟩:=yj z
  obtain⟨f0,f1,f2,_⟩:=hf p.1 hb
  obtain⟨o,e',d⟩:=ho p.1 hb
  rw[e] at e';cases e'
  exact⟨e,f0,f1,f2,d⟩
theorem Inv.lx{pl:List (Addr×Obj)}(I:Inv X (Me++pl) σ H s):Inv X Me σ H s:=I.wm λp hp=>I.pin p (List.mem_append_right _ (List.mem_append_left _ hp))
theorem rM{iter:Expr}{wi:TI}{g:TG}{pos:Pos}(hp:PassesOwn (model X.prog X.w) X.A X.env X.xe)(hc:X.calm=true)(hi:PI X tg iter wi)(hg:PG X tg g)(hb:kc X body tb)
  (hs:autoParam (∀ x,foldedSetIterable iter X.env x=pure x) aI._auto_1):PS X (.For tg iter body [] pos) (Af wi g tb):=by
 intro Me s σ H D I h
 refine wpAny_For (bT (hi Me s σ H _ I h) λv s1 h1=>bT h1 λitv s2 h2=>?_) hs
 obtain⟨it,fp,tn,J,H2,e,I2,T,OR,f2,W,⟨m0,w0⟩,turn⟩:=h2
 subst e
 have NZ:∀ {H':Hp},(∀ b∈fp,H' b=none)->∀ b∈fp,k6 X Me H' b:=λhn b hb=>⟨hn b hb,(f2 b hb).2⟩
 refine codeAny_forLoop_any (λn s'=>∃ i σ' H',Inv X Me σ' H' s'/\tn i s'.heap/\(∀ b∈fp,H' b=none)/\W i n σ' H') ?_ m0 ⟨0,σ,H2,I2,OR,λb hb=>(f2 b hb).1,w0⟩
 rintro n s3 ⟨i,σ3,H3,I3,st3,fr3,w3⟩
 rcases turn i n σ3 H3 w3 with ⟨stop,qn⟩ | ⟨go,N,hN,step⟩
 ·refine wpAny_passesOwn hp (bT (T.done X rfl rfl rfl hc i Me s3 σ3 H3 X.xe I3 (NZ fr3) st3 stop) λr s4 ⟨hr,I4⟩=>?_)
  subst hr
  exact wpAny_execs_nil ⟨σ3,H3,I4,qn⟩
 ·refine wpAny_passesOwn hp (bT (T.item X rfl rfl rfl hc i Me s3 σ3 H3 X.xe I3 (NZ fr3) st3 go) λr s4 ⟨u,hr,h4⟩=>?_)
  subst hr
  refine wpAny_passesOwn hp (bT h4 λ_ s5 ⟨x,H5,I5,r5,y5,st5,fr5⟩=>?_)
  have I5':=I5.pinned (NZ fr5) (T.obj _ _ st5)
  refine wpAny_passesOwn hp (bT (hg _ s5 σ3 H5 x u _ I5' r5 (step x H5 y5)) λ_ s6 ⟨σ6,H6,I6,q6⟩=>?_)
  refine wpAny_passesOwn hp (bT (hb _ s6 σ6 H6 _ I6 q6) λf s7 q7=>?_)
  have again:∀ {σ7:St} {H7:Hp},Inv X (Me++lX fp s5.heap) σ7 H7 s7->N σ7 H7->∃ m,m<n/\∃ i σ' H',Inv X Me σ' H' s7/\tn i s7.heap/\(∀ b∈fp,H' b=none)/\W i m σ' H':=λ{σ7 H7} I7 n7=>by
   obtain⟨m',hm,w7⟩:=hN σ7 H7 n7
   refine⟨m',hm,i+1,σ7,H7,I7.lx,T.keep _ _ _ st5 λb hb o e=>(I7.pin (b,o) (List.mem_append_right _ (List.mem_append_right _ (iH hb e)))).1,λb hb=>?_,w7⟩
   obtain⟨o,e,d⟩:=T.obj _ _ st5 b hb
   exact(I7.pin (b,o) (List.mem_append_right _ (List.mem_append_right _ (iH hb e)))).2.1
  cases f with
  | next=>obtain⟨σ7,H7,I7,n7⟩:=q7;exact again I7 n7
  | cont=>obtain⟨σ7,H7,I7,n7⟩:=q7;exact again I7 n7
  | brk=>obtain⟨σ7,H7,I7,q7⟩:=q7;exact⟨σ7,H7,I7.lx,q7⟩
  | ret v=>obtain⟨x7,σ7,H7,I7,r7,q7⟩:=q7;exact⟨x7,σ7,H7,I7.lx,r7,q7⟩
abbrev R2:=V->V->Hp->VK->Prop
def gc(X:Cx)(f:Value->Value->Sem Value)(r:R2):Prop :=
 ∀ (Me:List (Addr×Obj)) (s:Shared) (σ:St) (H:Hp) (x y:V) (v u:Value) (Q:VK),Inv X Me σ H s->RelV x v->RelV y u->r x y H Q ->
  wpAny (model X.prog X.w) X.A (f v u) (EP X Me σ Q) X.xe s
def Kw(X:Cx)(f:Value->Sem Value)(r:V->Hp->VK->Prop):Prop :=
 ∀ (Me:List (Addr×Obj)) (s:Shared) (σ:St) (H:Hp) (x:V) (v:Value) (Q:VK),Inv X Me σ H s->RelV x v->r x H Q ->
  wpAny (model X.prog X.w) X.A (f v) (EP X Me σ Q) X.xe s
def cy(X:Cx)(f:Value)(r:List V->Hp->VK->Prop):Prop :=
 ∀ (Me:List (Addr×Obj)) (s:Shared) (σ:St) (H:Hp) (xs:List V) (us:List Value) (Q:VK),Inv X Me σ H s->Vals xs us->r xs H Q ->
  wpAny (model X.prog X.w) X.A (call f us) (EP X Me σ Q) X.xe s
def Gj(r:R2)(ta tb:TE):TE:=fun σ H Q=>ta σ H λx H1=>tb σ H1 λy H2=>r x y H2 Q
def Kx(r:V->Hp->VK->Prop)(ta:TE):TE:=fun σ H Q=>ta σ H λx H1=>r x H1 Q
def rI(C:Int->Int->Prop)(g:Int->Int->V):R2:=λx y H Q=>∃ i j,x=.int i/\y=.int j/\C i j/\Q (g i j) H
def u4(g:Int->Int->V):R2:=λx y H Q=>∃ i j,x=.int i/\y=.int j/\Q (g i j) H
def rU(g:Int->V):V->Hp->VK->Prop:=λx H Q=>∃ i,x=.int i/\Q (g i) H
variable{f:Value->Value->Sem Value}
variable{r:R2}
section
variable{a b:Expr}{tb tc:TE}{pos:Pos}
theorem Fc(ha:PE X a ta)(hb:PE X b tb){R:V->V->Hp->Prop}(I:Inv X Me σ H s)
  (h:ta σ H λx H1=>tb σ H1 λy H2=>R x y H2)
  (hf:∀ v u s2 x y H2,Inv X Me σ H2 s2->RelV x v->RelV y u->R x y H2->wpAny (model X.prog X.w) X.A (f v u) Q X.xe s2) :
  wpAny (model X.prog X.w) X.A (eval a X.env) (λv s₁=>wpAny (model X.prog X.w) X.A (eval b X.env) (λu s₂=>wpAny (model X.prog X.w) X.A (f v u) Q X.xe s₂) X.xe s₁) X.xe s:=by
 refine bT (ha Me s σ H _ I h) λv s1 ⟨x,H1,I1,r1,q1⟩=>?_
 refine bT (hb Me s1 σ H1 _ I1 q1) λu s2 ⟨y,H2,I2,r2,q2⟩=>?_
 exact hf v u s2 x y H2 I2 r1 r2 q2
theorem Ej{op:Operator}(ho:gc X (binaryOp op) r)(ha:PE X a ta)(hb:PE X b tb):PE X (.BinOp a op b pos) (Gj r ta tb):=by
 intro Me s σ H Q I h
 exact wpAny_BinOp (Fc ha hb I h λv u s2 x y H2 I2 rx ry q=>ho Me s2 σ H2 x y v u Q I2 rx ry q)
theorem zP{op:UnaryOp}{r:V->Hp->VK->Prop}(ho:Kw X (unaryOp op) r)(ha:PE X a ta):PE X (.UnaryOp op a pos) (Kx r ta):=by
 intro Me s σ H Q I h
 exact UnaryOp_ (bT (ha Me s σ H _ I h) λv s1 ⟨x,H1,I1,r1,q1⟩=>ho Me s1 σ H1 x v Q I1 r1 q1)
theorem JB{C:Int->Int->Prop}{g:Int->Int->Int}
  (rule:∀ (i j:Int) (t u:Tok) (s:Shared) (Q:Value->Shared->Prop) (E:Value->Shared->Prop),C i j->Q (.int (g i j) s.toks) { s with toks:=s.toks+1 }->wpAny (model X.prog X.w) X.A (f (.int i t) (.int j u)) Q E s) :
  gc X f (rI C λi j=>.int (g i j)):=by
 intro Me s σ H x y v u Q I rx ry h
 obtain⟨i,j,rfl,rfl,hc,q⟩:=h
 obtain⟨t,rfl⟩:=rx
 obtain⟨t',rfl⟩:=ry
 exact rule i j t t' s _ _ hc ⟨.int (g i j),H,I.tok _,⟨_,rfl⟩,q⟩
theorem HR{g:Int->Int->Int}
  (rule:∀ (i j:Int) (t u:Tok) (s:Shared) (Q:Value->Shared->Prop) (E:Value->Shared->Prop),Q (.int (g i j) s.toks) { s with toks:=s.toks+1 }->wpAny (model X.prog X.w) X.A (f (.int i t) (.int j u)) Q E s) :
  gc X f (u4 λi j=>.int (g i j)):=by
 intro Me s σ H x y v u Q I rx ry h
 obtain⟨i,j,rfl,rfl,q⟩:=h
 obtain⟨t,rfl⟩:=rx
 obtain⟨t',rfl⟩:=ry
 exact rule i j t t' s _ _ ⟨.int (g i j),H,I.tok _,⟨_,rfl⟩,q⟩
theorem DG{g:Int->Int->Bool}
  (rule:∀ (i j:Int) (t u:Tok) (s:Shared) (Q:Value->Shared->Prop) (E:Value->Shared->Prop),Q (.bool (g i j)) s->wpAny (model X.prog X.w) X.A (f (.int i t) (.int j u)) Q E s) :
  gc X f (u4 λi j=>.bl (g i j)):=by
 intro Me s σ H x y v u Q I rx ry h
 obtain⟨i,j,rfl,rfl,q⟩:=h
 obtain⟨t,rfl⟩:=rx
 obtain⟨t',rfl⟩:=ry
 exact rule i j t t' s _ _ ⟨.bl (g i j),H,I,rfl,q⟩
def GI(i j:Int):Prop:=0<=j/\j<=1000000/\i.natAbs<2^64
theorem F0:gc X (binaryOp .Add) (u4 λi j=>.int (i+j)):=HR λ_ _ _ _ _ _ _ q=>add_int q
theorem BH:gc X (binaryOp .Sub) (u4 λi j=>.int (i-j)):=HR λ_ _ _ _ _ _ _ q=>sub_int q
theorem CU:gc X (binaryOp .Mod) (rI (λ_ j=>j≠0) λi j=>.int (i.fmod j)):=JB λ_ _ _ _ _ _ _ hc q=>mod_int' hc q
theorem Hj:gc X (binaryOp .Pow) (rI GI λi j=>.int (i^j.toNat)):=JB λ_ _ _ _ _ _ _ hc q=>pow_int_small hc.1 hc.2.1 hc.2.2 q
theorem L4{f:Value->Sem Value}{g:Int->Int}
  (rule:∀ (i:Int) (t:Tok) (s:Shared) (Q:Value->Shared->Prop) (E:Value->Shared->Prop),Q (.int (g i) s.toks) { s with toks:=s.toks+1 }->wpAny (model X.prog X.w) X.A (f (.int i t)) Q E s) :
  Kw X f (rU λi=>.int (g i)):=by
 intro Me s σ H x v Q I rx h
 obtain⟨i,rfl,q⟩:=h
 obtain⟨t,rfl⟩:=rx
 exact rule i t s _ _ ⟨.int (g i),H,I.tok _,⟨_,rfl⟩,q⟩
theorem vq:Kw X (unaryOp .USub) (rU λi=>.int (-i)):=L4 λ_ _ _ _ _ q=>neg_int q
end
variable{us:List Value}
section
variable{a b:Expr}{tb tc:TE}{pos:Pos}
theorem vm{Q:VK}{k k':Bool}(I:Inv X Me σ H s)(q:Q (.bl k) H)(e:k=k'):EP X Me σ Q (.bool k') s:=by
 subst e
 exact⟨.bl k,H,I,rfl,q⟩
theorem wL:gc X (compareOp .Lt) (u4 λi j=>.bl (decide (i<j))):=DG λ_ _ _ _ _ _ _ q=>lt_int q
theorem qt:gc X (compareOp .LtE) (u4 λi j=>.bl (decide (i<=j))):=DG λ_ _ _ _ _ _ _ q=>le_int q
theorem EU:gc X (compareOp .Gt) (u4 λi j=>.bl (decide (j<i))):=DG λ_ _ _ _ _ _ _ q=>gt_int q
theorem Eo:gc X (compareOp .GtE) (u4 λi j=>.bl (decide (j<=i))):=DG λ_ _ _ _ _ _ _ q=>ge_int q
theorem Bb:gc X (compareOp .Is) (λx y H Q=>y=.cL/\Q (.bl (decide (x=.cL))) H):=by
 intro Me s σ H x y v u Q I rx ry h
 obtain⟨rfl,q⟩:=h
 cases ry
 refine is_none_gen (vm I q ?_)
 cases x <;> first
  | (cases rx;rfl)
  | (obtain⟨t,rfl⟩:=rx;rfl)
theorem gc.or{r':R2}(h:gc X f r)(h':gc X f r'):gc X f (λx y H Q=>r x y H Q\/r' x y H Q):=by
 intro Me s σ H x y v u Q I rx ry q
 rcases q with q | q
 ·exact h Me s σ H x y v u Q I rx ry q
 ·exact h' Me s σ H x y v u Q I rx ry q
theorem dQ(b:Expr)(h:autoParam (op≠.In) aD._auto_1)(h2:autoParam (op≠.NotIn) aD._auto_1):behindInMarks op b=false:=by
 have e1:(op==CmpOp.In)=false:=by cases op <;> first | rfl | exact absurd rfl h
 have e2:(op==CmpOp.NotIn)=false:=by cases op <;> first | rfl | exact absurd rfl h2
 cases b <;> simp[behindInMarks,e1,e2]
theorem Cf(ho:gc X (compareOp op) r)(ha:PE X a ta)(hb:PE X b tb)(hm:behindInMarks op b=false):PE X (.Compare a [op] [b] pos) (Gj r ta tb):=by
 intro Me s σ H Q I h
 exact wpAny_Compare1 (Fc ha hb I h λv u s2 x y H2 I2 rx ry q=>ho Me s2 σ H2 x y v u Q I2 rx ry q) hm
def Ee(t:TE):TT:=fun σ H Q=>t σ H λx H'=>∃ k,x=.bl k/\Q k H'
theorem Dm(ho:gc X (compareOp op) r)(ha:PE X a ta)(hb:PE X b tb)(hm:behindInMarks op b=false):PT X (.Compare a [op] [b] pos) (Ee (Gj r ta tb)):=by
 intro Me s σ H Q I h
 refine wpAny_isTrue_Compare1 (bT (ha Me s σ H _ I h) λv s1 ⟨x,H1,I1,r1,q1⟩=>bT (hb Me s1 σ H1 _ I1 q1) λu s2 ⟨y,H2,I2,r2,q2⟩ =>
  bT (ho Me s2 σ H2 x y v u _ I2 r1 r2 q2) λc s3 ⟨z,H3,I3,r3,k,e,q3⟩=>?_) hm
 subst e
 cases r3
 exact wpAny_truthy_bool ⟨H3,I3,q3⟩
def u5(r r':R2)(ta tb tc:TE):TE:=fun σ H Q=>ta σ H λx H1=>tb σ H1 λy H2=>r x y H2 λz H3=>∃ k,z=.bl k ∧
 (if k=true then tc σ H3 λw' H4=>r' y w' H4 Q else Q (.bl false) H3)
theorem yS{NW:CmpOp}{r':R2}(ho:gc X (compareOp op) r)(NF:gc X (compareOp NW) r')(ha:PE X a ta)(hb:PE X b tb)(hc:PE X c tc)
  (hm:autoParam (lastMarks [op,NW] [b,c]=false) aU._auto_1):PE X (.Compare a [op,NW] [b,c] pos) (u5 r r' ta tb tc):=by
 intro Me s σ H Q I h
 refine Compare_chain (bT (ha Me s σ H _ I h) λv s1 ⟨x,H1,I1,r1,q1⟩=>chain_link (bT (hb Me s1 σ H1 _ I1 q1) λu s2 ⟨y,H2,I2,r2,q2⟩ =>
  bT (ho Me s2 σ H2 x y v u _ I2 r1 r2 q2) λd s3 ⟨z,H3,I3,r3,k,e,q3⟩=>?_)) hm
 subst e
 cases r3
 refine wpAny_truthy_bool ?_
 cases k with
 | false=>exact ite_ff ⟨.bl false,H3,I3,rfl,q3⟩
 | true=>exact ite_tt (chain_last (bT (hc Me s3 σ H3 _ I3 q3) λw' s4 ⟨z',H4,I4,r4,q4⟩=>NF Me s4 σ H4 y z' u w' Q I4 r2 r4 q4))
theorem yX{NW:CmpOp}{r':R2}(ho:gc X (compareOp op) r)(NF:gc X (compareOp NW) r')(ha:PE X a ta)(hb:PE X b tb)(hc:PE X c tc)
  (hm:autoParam (lastMarks [op,NW] [b,c]=false) aU._auto_1):PT X (.Compare a [op,NW] [b,c] pos) (Ee (u5 r r' ta tb tc)):=by
 intro Me s σ H Q I h
 refine isTrue_chain (bT (ha Me s σ H _ I h) λv s1 ⟨x,H1,I1,r1,q1⟩=>test_link (bT (hb Me s1 σ H1 _ I1 q1) λu s2 ⟨y,H2,I2,r2,q2⟩ =>
  bT (ho Me s2 σ H2 x y v u _ I2 r1 r2 q2) λd s3 ⟨z,H3,I3,r3,k,e,q3⟩=>?_)) hm
 subst e
 cases r3
 refine wpAny_truthy_bool ?_
 cases k with
 | false =>
  obtain⟨k',e',q'⟩:=q3
  cases e'
  exact ite_ff ⟨H3,I3,q'⟩
 | true =>
  refine ite_tt (test_last (bT (hc Me s3 σ H3 _ I3 q3) λw' s4 ⟨z',H4,I4,r4,q4⟩=>bT (NF Me s4 σ H4 y z' u w' _ I4 r2 r4 q4) λd' s5 ⟨z2,H5,I5,r5,k2,e2,q5⟩=>?_))
  subst e2
  cases r5
  exact wpAny_truthy_bool ⟨H5,I5,q5⟩
theorem kC:(sizeLine:Nat)<2^63:=by rw[sizeLine_eq];decide
theorem va:gc X (binaryOp .Add) (λx y H Q=>∃ i j,x=.str i/\y=.str j/\i.length+j.length<=sizeLine/\Q (.str (i++j)) H):=by
 intro Me s σ H x y v u Q I rx ry h
 obtain⟨i,j,rfl,rfl,hz,q⟩:=h
 obtain⟨t,rfl⟩:=rx
 obtain⟨t',rfl⟩:=ry
 exact add_str (λt' tk=>⟨.str (i++j),H,I.tok _,⟨_,rfl⟩,q⟩) hz
theorem vals1{x:V}(r:Vals [x] us):∃ u,us=[u]/\RelV x u:=by
 cases r with
 | cons r1 r2=>cases r2;exact⟨_,rfl,r1⟩
theorem vals2{x y:V}(r:Vals [x,y] us):∃ u w',us=[u,w']/\RelV x u/\RelV y w':=by
 cases r with
 | cons r1 r2 =>
  cases r2 with
  | cons r3 r4=>cases r4;exact⟨_,_,rfl,r1,r3⟩
theorem xc(hc:X.calm=true):cy X (.builtin "max") (λxs H Q=>∃ i j,xs=[.int i,.int j]/\Q (.int (if j>i then j else i)) H):=by
 intro Me s σ H xs us Q I r h
 obtain⟨i,j,rfl,q⟩:=h
 obtain⟨u,w',rfl,⟨t,rfl⟩,⟨t',rfl⟩⟩:=vals2 r
 refine max_two_ints (I.ok.hd hc) λh' tk k=>⟨_,H,I.kept k,?_,q⟩
 by_cases hj:j>i
 ·rw[if_pos hj,if_pos hj];exact⟨_,rfl⟩
 ·rw[if_neg hj,if_neg hj];exact⟨_,rfl⟩
theorem qi(hc:X.calm=true):cy X (.builtin "min") (λxs H Q=>∃ i j,xs=[.int i,.int j]/\Q (.int (if j<i then j else i)) H):=by
 intro Me s σ H xs us Q I r h
 obtain⟨i,j,rfl,q⟩:=h
 obtain⟨u,w',rfl,⟨t,rfl⟩,⟨t',rfl⟩⟩:=vals2 r
 refine min_two_ints (I.ok.hd hc) λh' tk k=>⟨_,H,I.kept k,?_,q⟩
 by_cases hj:j<i
 ·rw[if_pos hj,if_pos hj];exact⟨_,rfl⟩
 ·rw[if_neg hj,if_neg hj];exact⟨_,rfl⟩
end
structure uQ (h:Heap) (x dx C:Addr) (mA:Str->Option Value):Prop where
 obj:h.get? x=some (PySem.W.instObj C dx)
 ns:h.Ns1 dx mA
 ne:dx≠x
variable{mA:Str->Option Value}{dx:Addr}
theorem lW(n:h.Ns1 dx mA):∃ od,h.get? dx=some od/\∀ name,PySem.W.lookIn name od=some (mA name):=by
 obtain⟨o,es,ep,ho,hd,hk,_,hm⟩:=n
 refine⟨o,ho,λname=>?_⟩
 have e:=hm name
 unfold nsFind findBy at e
 rw[← Array.find?_toList] at e
 unfold PySem.W.lookIn
 rw[hd]
 dsimp only
 split
 ·rename_i y q
  rw[q] at e
  exact congrArg some e
 ·rename_i q
  rw[q] at e
  have a:es.toList.any (·.refKey)=false:=by
   rw[List.any_eq_false]
   intro y hy
   obtain⟨z,t,hkey⟩:=hk y (Array.mem_toList_iff.mp hy)
   simp[DictEntry.refKey,hkey]
  have a':¬ es.toList.any (·.refKey)=true:=by rw[a];exact Bool.false_ne_true
  rw[if_neg a']
  exact congrArg some e
variable{C:Addr}
theorem uQ.look{x:Addr}(I:uQ h x dx C mA):∃ od,PySem.W.InstAt h x (PySem.W.instObj C dx) C (some od)/\∀ name,PySem.W.lookIn name od=some (mA name) :=
 let ⟨od,ho,hl⟩:=lW I.ns
 ⟨od,⟨I.obj,rfl,rfl,ho⟩,hl⟩
variable{prog:Program}
variable{pl:Sem Bool}
variable{kw:List (Str×Value)}
section
variable{K:PySem.W.Frag}{x f:Addr}{name:Str}{v:Value}
theorem get_map{expr:Bool}(X:K.In s.heap)(I:uQ s.heap x dx C mA)(hg:PySem.W.plainGet K C name=true)(hh:PySem.W.hasDictIn K C=true)
  (ha:PySem.W.findIn K (.ref C) name=some none) (hv:mA name=some v) (Pb:PySem.W.handedIn v=true) (h:Q v { s with toks:=s.toks+1 }) :
  wpAny (model prog w) A (getAttr (.ref x) name expr) Q E s:=by
 obtain⟨od,J,hl⟩:=I.look
 exact PySem.W.get_value X J (PySem.W.plainGet_of hg).1 (PySem.W.findObj_own hh ha rfl (by rw[hl,hv])) Pb h
theorem zQ{Q:Value×List Value->Shared->Prop}(X:K.In s.heap)(I:uQ s.heap x dx C mA)(hg:PySem.W.plainGet K C name=true)
  (hf:PySem.W.findIn K (.ref C) name=some (some (.ref f))) (ht:PySem.W.isFn K (.ref f)=true) (hv:mA name=none) (h:Q (.ref f,[.ref x]) s) :
  wpAny (model prog w) A (getMethod (.ref x) name pl) Q E s:=by
 obtain⟨od,J,hl⟩:=I.look
 exact PySem.W.method_fn X J (PySem.W.plainGet_of hg).1 (PySem.W.plainGet_of hg).2 hf (beq_iff_eq.mp ht) (by show (PySem.W.lookIn name od).map (·.isSome)=some false;rw[hl,hv];rfl) h
theorem Cg{ns:List Str}{Q:Unit->Shared->Prop}(X:K.In s.heap)(I:uQ s.heap x dx C mA)
  (hs:PySem.W.findIn K (.ref C) "__setattr__" = some (some (.builtin "object.__setattr__"))) (hp:PySem.W.plainOver K C=true) (ht:PySem.W.takerIn K C name=some none) (hh:PySem.W.hasDictIn K C=true)
  (hw:PySem.Within mA ns) (hsz:ns.length<=sizeLine)
  (h:∀ h',uQ h' x dx C (λy=>if y=name then some v else mA y)->Heap.SameBut dx s.heap h'->Q () { s with heap:=h',toks:=s.toks+2 }) :
  wpAny (model prog w) A (setAttr (.ref x) name v) Q E s:=by
 obtain⟨od,J,hl⟩:=I.look
 refine PySem.W.set_plain X J hs (PySem.W.osa_open (s:={ s with toks:=s.toks+1 }) (r:=none) X J hp ht λb=>?_)
 obtain⟨cd,hc,Px⟩:=PySem.W.any_some hh
 have hx:s.heap.get? x=some ⟨.ref C,some dx,.plain,#[]⟩:=I.obj
 refine wpAny_bind (wpAny_pure (wpAny_bind (wpAny_bind (wpAny_loadPart hx (wpAny_bind (PySem.W.Looks.here (s:={ s with toks:=s.toks+1 }) (PySem.W.looks_clsIn X hc) ?_))))))
 rw[Px]
 refine wpAny_pure (a:=some dx) (wpAny_bind (wpAny_pure (wpAny_bind ?_)))
 refine wpAny_nsSet1 (s:={ s with toks:=s.toks+1 }) I.ns λh' OM Nm=>?_
 obtain⟨oD,esD,epD,hoD,hdD,Ol⟩:=OM.count (PySem.Within.cons name v hw)
 refine wpAny_bind (wpAny_lookBehind hoD (by rw[hdD];exact pastItsLine_dict (Nat.le_trans Ol (by rw[List.length_cons];omega))) ?_)
 exact wpAny_pure (h _ ⟨(Nm.2 _ (Ne.symm I.ne)).trans I.obj,OM,I.ne⟩ Nm)
theorem Bz{R:Result->Shared->Prop}{vs:List Value}(X:K.In s.heap)(hm:PySem.W.makesIn K C=true)
  (hi:PySem.W.findIn K (.ref C) "__init__" = some (some (.ref f))) (hf:PySem.W.typeIn K (.ref f)=some (.type "function"))
  (h:codeAny (model prog w) (A.under (.builtin "type.__call__" ⟨.ref C::vs,kw⟩)) (.call (.ref f) ⟨.ref (s.heap.objs.size+1)::vs,kw⟩) (PySem.W.InitBack (s.heap.objs.size+1) R)
   { s with heap:=(s.heap.push PySem.W.emptyDict).push (PySem.W.instObj C s.heap.objs.size) }) :
  codeAny (model prog w) A (.call (.ref C) ⟨vs,kw⟩) R s:=by
 obtain⟨hh,g,d,t,os⟩:=s
 exact PySem.W.make_core (PySem.W.makes_of X hm) (PySem.W.looks_findIn X hi) (λself=>PySem.W.bind_fn X self hf) (.inl rfl) h
end
def jn(f:Str)(v:V):List (Str×V)->List (Str×V)
 | []=>[(f,v)]
 | (g,x)::r=>if g=f then (g,v)::r else (g,x)::jn f v r
theorem mw(f g:Str)(v:V):∀ fs:List (Str×V),(jn f v fs).lookup g=if g=f then some v else fs.lookup g
 | []=>by
  show List.lookup g [(f,v)]=_
  by_cases h:g=f
  ·have hb:(g==f)=true:=beq_iff_eq.mpr h
   simp only[List.lookup,hb,if_pos h]
  ·have hb:(g==f)=false:=beq_eq_false_iff_ne.mpr h
   simp only[List.lookup,hb,if_neg h]
 | (k,x)::r=>by
  have ih:=mw f g v r
  rw[show jn f v ((k,x)::r)=(if k=f then (k,v)::r else (k,x)::jn f v r) from rfl]
  by_cases hk:k=f
  ·rw[if_pos hk]
   by_cases h:g=k
   ·have hb:(g==k)=true:=beq_iff_eq.mpr h
    simp only[List.lookup,hb,if_pos (h.trans hk)]
   ·have hb:(g==k)=false:=beq_eq_false_iff_ne.mpr h
    simp only[List.lookup,hb,if_neg (λe:g=f=>h (e.trans hk.symm))]
  ·rw[if_neg hk]
   by_cases h:g=k
   ·have hb:(g==k)=true:=beq_iff_eq.mpr h
    simp only[List.lookup,hb,if_neg (λe:g=f=>hk (h.symm.trans e))]
   ·have hb:(g==k)=false:=beq_eq_false_iff_ne.mpr h
    simp only[List.lookup,hb]
    exact ih
theorem lT(f:Str)(v:V):∀ fs:List (Str×V),f∈(jn f v fs).map (·.1)/\∀ g,g∈fs.map (·.1)->g∈(jn f v fs).map (·.1)
 | []=>⟨by simp[jn],λg h=>by simp at h⟩
 | (k,x)::r=>by
  obtain⟨i1,i2⟩:=lT f v r
  rw[show jn f v ((k,x)::r)=(if k=f then (k,v)::r else (k,x)::jn f v r) from rfl]
  by_cases hk:k=f
  ·rw[if_pos hk]
   subst hk
   exact⟨by simp,λg h=>by simpa using h⟩
  ·rw[if_neg hk]
   refine⟨?_,λg h=>?_⟩
   ·rw[List.map_cons]
    exact List.mem_cons_of_mem _ i1
   ·rw[List.map_cons] at h ⊢
    rcases List.mem_cons.mp h with e | e
    ·exact List.mem_cons.mpr (.inl e)
    ·exact List.mem_cons_of_mem _ (i2 g e)
theorem mE(f:Str)(v:V):∀ fs:List (Str×V),(jn f v fs).length<=fs.length+1
 | []=>by simp[jn]
 | (k,x)::r=>by
  have ih:=mE f v r
  rw[show jn f v ((k,x)::r)=(if k=f then (k,v)::r else (k,x)::jn f v r) from rfl]
  by_cases hk:k=f
  ·rw[if_pos hk,List.length_cons,List.length_cons];omega
  ·rw[if_neg hk,List.length_cons,List.length_cons];omega
theorem jA.some_of{o:Option Value}(r:jA (some v) o):∃ u,o=some u/\RelV v u:=by
 cases o with
 | none=>exact(show False from r).elim
 | some u=>exact⟨u,rfl,r⟩
theorem jA.none_of{o:Option Value}(r:jA none o):o=none:=by
 cases o with
 | none=>rfl
 | some u=>exact(show False from r).elim
theorem yA(r:RelV v u):PySem.W.handedIn u=true:=by
 cases v with
 | cL=>cases (show u=Value.none from r);rfl
 | bl b=>cases (show u=Value.bool b from r);rfl
 | int i=>obtain⟨t,e⟩:=(show ∃ t,u=Value.int i t from r);cases e;rfl
 | str x=>obtain⟨t,e⟩:=(show ∃ t,u=Value.str x t from r);cases e;rfl
 | byt b=>obtain⟨t,e⟩:=(show ∃ t,u=Value.bytes b t from r);cases e;rfl
 | Ex b=>obtain⟨t,e⟩:=(show ∃ t,u=Value.float b t from r);cases e;rfl
 | ref a=>cases (show u=Value.ref a from r);rfl
 | ty n=>cases (show u=Value.type n from r);rfl
section
variable{fs OV:List (Str×V)}
theorem ly(bu:ke P w H h)(e:H a=some (.ins C dx fs)):∃ mA,uQ h a dx C mA/\(∀ f,jA (fs.lookup f) (mA f))/\PySem.Within mA (fs.map (·.1))/\fs.length<=1000/\H dx=some (.own a):=by
 obtain⟨d,z,ne,ob,mA,n,r,q⟩:=(show bx P w H h a (.ins C dx fs) from bu a _ e)
 exact⟨mA,⟨ob,n,ne⟩,r,q,z,d⟩
end
structure lK (K:PySem.W.Frag) (C:Addr):Prop where
 pg:PySem.W.plainGet K C Str.empty=true
 hd:PySem.W.hasDictIn K C=true
 po:PySem.W.plainOver K C=true
 sa:PySem.W.findIn K (.ref C) "__setattr__" = some (some (.builtin "object.__setattr__"))
theorem lK.get{K:PySem.W.Frag}(c:lK K C)(f:Str):PySem.W.plainGet K C f=true:=c.pg
def bU(K:PySem.W.Frag)(C:Addr)(f:Str):Prop:=PySem.W.findIn K (.ref C) f=some none
theorem bU.EY{K:PySem.W.Frag}{f:Str}(n:bU K C f):PySem.W.takerIn K C f=some none:=by
 unfold PySem.W.takerIn
 rw[show PySem.W.findIn K (.ref C) f=some none from n]
 rfl
structure Meth (K:PySem.W.Frag) (C:Addr) (m:Str) (f:Addr):Prop where
 at_:PySem.W.findIn K (.ref C) m=some (some (.ref f))
 fn:PySem.W.isFn K (.ref f)=true
 kp:PySem.W.keepIn K (.ref f)=true
variable{m:Str}
section
variable{fs:List (Str×V)}{f:Str}
theorem vW{b:Bool}(I:Inv X Me σ H s)(e:H a=some (.ins C dx fs))(c:lK X.K C)(n:bU X.K C f)(l:fs.lookup f=some v)
  (h:∀ u s',Inv X Me σ H s'->RelV v u->Q u s'):wpAny (model X.prog X.w) A (getAttr (.ref a) f b) Q E s:=by
 obtain⟨mA,O,r,_,_,_⟩:=ly I.bu e
 obtain⟨u,hu,ru⟩:=jA.some_of (v:=v) (o:=mA f) (by rw[← l];exact r f)
 exact get_map I.jt O (c.get f) c.hd n hu (yA ru) (h u _ (I.tok _) ru)
theorem nJ{g:Addr}{Q:Value×List Value->Shared->Prop}(I:Inv X Me σ H s)(e:H a=some (.ins C dx fs))(c:lK X.K C)(k:Meth X.K C m g)(l:fs.lookup m=none)
  (h:Q (.ref g,[.ref a]) s):wpAny (model X.prog X.w) A (getMethod (.ref a) m pl) Q E s:=by
 obtain⟨mA,O,r,_,_,_⟩:=ly I.bu e
 have hn:mA m=none:=jA.none_of (by rw[← l];exact r m)
 exact zQ I.jt O (c.get m) k.at_ k.fn hn h
theorem vR{y:V}{Q:Unit->Shared->Prop}(I:Inv X Me σ H s)(e:H a=some (.ins C dx fs))(c:lK X.K C)(n:bU X.K C f)(hl:fs.length<1000)(ry:RelV y u)
  (h:∀ s',Inv X Me σ (upd H a (.ins C dx (jn f y fs))) s'->Q () s'):wpAny (model X.prog X.w) A (setAttr (.ref a) f u) Q E s:=by
 obtain⟨mA,O,r,wi,_,ho⟩:=ly I.bu e
 have hz:(fs.map (·.1)).length<=sizeLine:=by rw[List.length_map,sizeLine_eq];omega
 refine Cg I.jt O c.sa c.po n.EY c.hd wi hz λh' O' sb=>h _ ?_
 have hd:∃ o,h'.get? dx=some o:=let ⟨o,_,_,e',_⟩:=O'.ns;⟨o,e'⟩
 refine I.write (x:=a) (e:=dx) (by rw[e];exact True.intro) (.inr ho) (λb q hb z=>(sb.2 b hb).trans z) hd ?_
 refine⟨by rw[ao O.ne];exact ho,?_,O.ne,O'.obj,_,O'.ns,λg=>?_,λg hg=>?_⟩
 ·have:=mE f y fs;omega
 ·show jA ((jn f y fs).lookup g) (if g=f then some u else mA g)
  rw[mw]
  by_cases q:g=f
  ·rw[if_pos q,if_pos q];exact ry
  ·rw[if_neg q,if_neg q];exact r g
 ·by_cases q:g=f
  ·rw[q];exact(lT f y fs).1
  ·refine(lT f y fs).2 g (wi g λz=>hg ?_)
   show (if g=f then some u else mA g)=none
   rw[if_neg q];exact z
theorem Inv.made(I:Inv X Me σ H s):Inv X Me σ (upd (upd H s.heap.objs.size (.own (s.heap.objs.size+1))) (s.heap.objs.size+1) (.ins C s.heap.objs.size []))
  { s with heap:=(s.heap.push PySem.W.emptyDict).push (PySem.W.instObj C s.heap.objs.size) }:=by
 have e1:(s.heap.push PySem.W.emptyDict).get? s.heap.objs.size=some PySem.W.emptyDict:=Heap.get?_push_size s.heap rfl
 have e2:((s.heap.push PySem.W.emptyDict).push (PySem.W.instObj C s.heap.objs.size)).get? (s.heap.objs.size+1)=some (PySem.W.instObj C s.heap.objs.size):=by
  have:=Heap.get?_push_size (s.heap.push PySem.W.emptyDict) (o:=PySem.W.instObj C s.heap.objs.size) rfl
  rwa [Heap.size_push] at this
 have e3:(s.heap.push PySem.W.emptyDict).Ns s.heap.objs.size (λ_=>none):=⟨PySem.W.emptyDict,#[],_,e1,rfl,(λe he=>absurd he (by simp)),λ_=>rfl⟩
 have I1:=I.laid (a:=s.heap.objs.size) (o:=.own (s.heap.objs.size+1)) (h':=s.heap.push PySem.W.emptyDict) (t':=s.toks) (λb u q=>Heap.get?_push_of_some _ q) (Nat.le_refl _) ⟨_,e1⟩
 refine I1.laid (a:=s.heap.objs.size+1) (o:=.ins C s.heap.objs.size []) (t':=s.toks) (λb u q=>Heap.get?_push_of_some _ q) (Nat.le_of_eq (Heap.size_push _ _)) ?_
 have ne:s.heap.objs.size≠s.heap.objs.size+1:=Nat.ne_of_lt (Nat.lt_succ_self _)
 refine⟨by rw[ao ne,az],Nat.zero_le _,ne,e2,λ_=>none,(Heap.Ns1.of_empty e3).at λo q=>Heap.get?_push_of_some _ q,λ_=>True.intro,λy hy=>absurd rfl hy⟩
theorem CM{env:Env}{f:Str}{pos:Pos}(hb:attributeBase e f env (eval e env)=eval e env)
  (h:wpAny (model prog w) A (eval e env) (λo s₁=>wpAny (model prog w) A (getAttr o f true) Q E s₁) E s):wpAny (model prog w) A (eval (.Attribute e f pos) env) Q E s :=
 Attribute_any_ h (by rw[arm_eval_Attribute,hb])
end
def Kr(K:PySem.W.Frag)(ta:TE)(f:Str):TE:=fun σ H Q=>ta σ H λx H1=>∃ a C dx fs v,x=.ref a/\H1 a=some (.ins C dx fs)/\lK K C/\bU K C f/\fs.lookup f=some v/\Q v H1
def KU(K:PySem.W.Frag)(ta tv:TE)(f:Str):TS:=λD σ H=>tv σ H λy H1=>ta σ H1 λx H2=>∃ a C dx fs,x=.ref a/\H2 a=some (.ins C dx fs)/\lK K C/\bU K C f/\fs.length<1000 ∧
 D.nx σ (upd H2 a (.ins C dx (jn f y fs)))
section
variable{o value:Expr}{f:Str}{pos pos' Pf:Pos}{tv:TE}
theorem GX(he:PE X e ta)(hb:attributeBase e f X.env (eval e X.env)=eval e X.env):PE X (.Attribute e f pos) (Kr X.K ta f):=by
 intro Me s σ H Q I h
 refine CM hb (bT (he Me s σ H _ I h) λu s1 ⟨x,H1,I1,rx,a,C,dx,fs,v,ex,ea,c,n,l,q⟩=>?_)
 subst ex
 obtain rfl:u=Value.ref a:=rx
 exact vW I1 ea c n l λu' s2 I2 ru=>⟨v,H1,I2,ru,q⟩
theorem E9(ha:PE X o ta)(hv:PE X value tv)(hs:swapsWith value (some (.Attribute o f pos')) pos.line X.env=pure false):PS X (.Assign [.Attribute o f pos'] value pos) (KU X.K ta tv f):=by
 intro Me s σ H D I h
 refine plainObj_wpAny_Assign_Attribute (bT (hv Me s σ H _ I h) λu s1 ⟨y,H1,I1,ry,q⟩=>bT (ha Me s1 σ H1 _ I1 q) λov s2 ⟨x,H2,I2,rx,a,C,dx,fs,ex,ea,c,n,l,q2⟩=>?_) hs
 subst ex
 obtain rfl:ov=Value.ref a:=rx
 exact vR I2 ea c n l ry λs3 I3=>⟨σ,_,I3,q2⟩
end
section
variable{c:Value}{b:Bool}
inductive jo (K:PySem.W.Frag) (H:Hp):V->Value->Prop where
 | cL:jo K H .cL (.type "NoneType")
 | bl (x:Bool):jo K H (.bl x) (.type "bool")
 | int (i:Int):jo K H (.int i) (.type "int")
 | str (x:Str):jo K H (.str x) (.type "str")
 | Ex (x:UInt64):jo K H (.Ex x) (.type "float")
 | lst {a:Addr} {xs:List V} (e:H a=some (.lst xs)):jo K H (.ref a) (.type "list")
 | pT {a:Addr} {o:Obj} {xs:List V} (e:H a=some (.pT o (.lst xs))):jo K H (.ref a) (.type "list")
 | tup {a:Addr} {xs:List V} (e:H a=some (.tup xs)):jo K H (.ref a) (.type "tuple")
 | dK {a:Addr} {Mf:List (Key×V)} (e:H a=some (.dK Mf)):jo K H (.ref a) (.type "dict")
 | dT {a:Addr} {Mf:List (List Key×V)} (e:H a=some (.dT Mf)):jo K H (.ref a) (.type "dict")
 | ins {a C dx:Addr} {fs:List (Str×V)} (e:H a=some (.ins C dx fs)) (cl:lK K C) (ha:PySem.W.findIn K (.ref C) "__class__" = some (some (.builtin "object.__class__")))
   (hn:PySem.W.specialIn K (.builtin "object.__class__") "__get__" = some (some (.builtin "getset_descriptor.__get__"))) (Hz:PySem.W.takesIn K (.builtin "object.__class__")=some true)
   (hm:PySem.W.mroIn K C (.type "object")=some true):jo K H (.ref a) (.ref C)
theorem qe{x:V}{t:Value}(I:Inv X Me σ H s)(rx:RelV x u)(ty:jo X.K H x t)(e:PySem.W.kitOne X.K t c=some b)(h:∀ tk,Q (.bool b) { s with toks:=tk }) :
  wpAny (model X.prog X.w) A (call (.builtin "isinstance") [u,c]) Q E s:=by
 cases ty with
 | cL=>cases (show u=Value.none from rx);exact PySem.W.kia_one PySem.W.kitx_none I.jt True.intro e (λz=>nomatch z) h
 | bl y=>cases (show u=Value.bool y from rx);exact PySem.W.kia_one PySem.W.kitx_bool I.jt True.intro e (λz=>nomatch z) h
 | int i=>obtain⟨t,q⟩:=(show ∃ t,u=Value.int i t from rx);cases q;exact PySem.W.kia_one PySem.W.kitx_int I.jt True.intro e (λz=>nomatch z) h
 | str y=>obtain⟨t,q⟩:=(show ∃ t,u=Value.str y t from rx);cases q;exact PySem.W.kia_one PySem.W.kitx_str I.jt True.intro e (λz=>nomatch z) h
 | Ex y=>obtain⟨t,q⟩:=(show ∃ t,u=Value.float y t from rx);cases q;exact PySem.W.kia_one PySem.W.kitx_float I.jt True.intro e (λz=>nomatch z) h
 | @lst a xs ea =>
  cases (show u=Value.ref a from rx)
  obtain⟨_,_,n,_,h1⟩:=(show bx X.prog X.w H s.heap a (.lst xs) from I.bu a _ ea)
  exact PySem.W.kia_one PySem.W.kitx_list I.jt ⟨_,h1,rfl⟩ e (λz=>nomatch z) h
 | @pT a ob xs ea =>
  cases (show u=Value.ref a from rx)
  obtain⟨_,_,_,n,_,h1⟩:=(show bx X.prog X.w H s.heap a (.pT ob (.lst xs)) from I.bu a _ ea)
  exact PySem.W.kia_one PySem.W.kitx_list I.jt ⟨_,h1,rfl⟩ e (λz=>nomatch z) h
 | @tup a xs ea =>
  cases (show u=Value.ref a from rx)
  obtain⟨_,_,_,p⟩:=(show bx X.prog X.w H s.heap a (.tup xs) from I.bu a _ ea)
  obtain⟨o,h1,h2,_⟩:=p
  exact PySem.W.kia_one PySem.W.kitx_tuple I.jt ⟨o,h1,h2⟩ e (λz=>nomatch z) h
 | @dK a Mf ea =>
  cases (show u=Value.ref a from rx)
  obtain⟨_,_,vs,_,p⟩:=(show bx X.prog X.w H s.heap a (.dK Mf) from I.bu a _ ea)
  obtain⟨o,es,ep,h1,h2,_⟩:=p
  exact PySem.W.kia_one PySem.W.kitx_dict I.jt ⟨o,h1,h2.1⟩ e (λz=>nomatch z) h
 | @dT a Mf ea =>
  cases (show u=Value.ref a from rx)
  obtain⟨_,_,xs,_,o,es,ep,h1,h2,_⟩:=(show bx X.prog X.w H s.heap a (.dT Mf) from I.bu a _ ea)
  exact PySem.W.kia_one PySem.W.kitx_dict I.jt ⟨o,h1,h2.1⟩ e (λz=>nomatch z) h
 | @ins a C dx fs ea cl ha hn Hz hm =>
  cases (show u=Value.ref a from rx)
  obtain⟨mA,O,_⟩:=ly I.bu ea
  obtain⟨od,J,_⟩:=O.look
  exact PySem.W.kia_one (PySem.W.kitx_own (cl.get _) cl.hd ha hn Hz hm) I.jt J e (λz=>nomatch z) h
end
structure bP (k:Nat) (A:Around):Prop where
 hd:A.handled=none
 dp:A.depth+3*k+5<recursionLimit
 un:A.units+16*k+200<cLine
theorem bP.mono{j:Nat}(r:bP k A)(h:j<=k):bP j A:=⟨r.hd,by have:=r.dp;omega,by have:=r.un;omega⟩
theorem bP.deeper{k:Nat}{A:Around}(r:bP (k+1) A)(env:Env):bP k (A.deeper env) :=
 ⟨r.hd,by have:=r.dp;show A.depth+1+3*k+5<_;omega,by have:=r.un;show A.units+3+16*k+200<_;omega⟩
theorem vb:(A.under (.builtin "type.__call__" ⟨.ref C::us,kw⟩)).depth=A.depth+1:=by
 first | rfl | simp[Around.under,Code.weight,Code.isCreation,Code.isGuard,Code.isCaller,Code.frames,Code.isFrame,guardIds]
theorem vy:(A.under (.builtin "type.__call__" ⟨.ref C::us,kw⟩)).units=A.units+1:=by
 first | rfl | simp[Around.under,Code.cUnits,Code.frames,Code.isFrame]
theorem bP.make(r:bP (k+1) A)(C:Addr)(us:List Value)(kw:List (Str×Value)):bP k (A.under (.builtin "type.__call__" ⟨.ref C::us,kw⟩)) :=
 ⟨r.hd,by have:=r.dp;rw[vb];omega,by have:=r.un;rw[vy];omega⟩
theorem bP.depth{k:Nat}{A:Around}(r:bP k A):A.depth<recursionLimit:=by have:=r.dp;omega
theorem bP.units{k:Nat}{A:Around}(r:bP k A):A.units+64<cLine:=by have:=r.un;omega
theorem bP.FE(r:bP k A):A.units<cLine:=by have:=r.un;omega
def uz:TA:=λ_ H Q=>Q [] H
def lH(ta:TE)(tr:TA):TA:=fun σ H Q=>ta σ H λx H1=>tr σ H1 λxs H2=>Q (x::xs) H2
section
variable{t:TA}{pos:Pos}
theorem dC:PA X [] uz:=λ_ _ _ _ H Q I h=>Calls.spliced_nil ⟨[],H,I,.nil,h⟩
theorem bj(ha:PE X e te)(hr:PA X es t)(hs:autoParam (starEach (e::es) X.env=(false,eval e X.env)::starEach es X.env) aR._auto_1):PA X (e::es) (lH te t):=by
 intro pos Me s σ H Q I h
 rw[hs]
 show wpAny _ _ (spliced ((false,eval e X.env)::backTo pos (starEach es X.env))) _ _ s
 refine Calls.spliced_cons (bT (ha Me s σ H _ I h) λu s1 ⟨x,H1,I1,r1,q1⟩=>?_)
 exact bT (hr pos Me s1 σ H1 _ I1 q1) λus s2 ⟨xs,H2,I2,r2,q2⟩=>⟨x::xs,H2,I2,.cons r1 r2,q2⟩
def K1(t:TA):TE:=fun σ H Q=>t σ H λxs H1=>xs.length<=sizeLine/\∀ p,H1 p=none->Q (.ref p) (upd H1 p (.tup xs))
def GY(t:TA):TE:=fun σ H Q=>t σ H λxs H1=>xs.length<=sizeLine/\∀ p,H1 p=none->Q (.ref p) (upd H1 p (.lst xs))
theorem zd{x1}(h:PA X es t):PE X (.Tuple es x1 pos) (K1 t):=by
 intro Me s σ H Q I hq
 refine wpAny_Tuple_spliced (bT (h pos Me s σ H _ I hq) λus s1 ⟨xs,H1,I1,r,z,q⟩=>⟨by rw[← r.length];exact z,?_⟩)
 have hf:H1 s1.heap.objs.size=none:=I1.bu.fresh (Nat.le_refl _)
 refine⟨.ref s1.heap.objs.size,upd H1 s1.heap.objs.size (.tup xs),I1.laid (t':=s1.toks) (λb u e=>Heap.get?_push_of_some _ e) (Nat.le_refl _) ?_,rfl,q _ hf⟩
 exact⟨z,us,r,⟨_,Heap.get?_push_size _ rfl,rfl,_,rfl⟩⟩
theorem sv(h:PA X es t):PE X (.List es pos) (GY t):=by
 intro Me s σ H Q I hq
 refine wpAny_List_spliced (bT (h pos Me s σ H _ I hq) λus s1 ⟨xs,H1,I1,r,z,q⟩=>⟨by rw[← r.length];exact z,?_⟩)
 have hf:H1 s1.heap.objs.size=none:=I1.bu.fresh (Nat.le_refl _)
 refine⟨.ref s1.heap.objs.size,upd H1 s1.heap.objs.size (.lst xs),I1.laid (t':=s1.toks) (λb u e=>Heap.get?_push_of_some _ e) (Nat.le_refl _) ?_,rfl,q _ hf⟩
 exact⟨z,us,0,r,Heap.get?_push_size _ rfl⟩
end
abbrev Sp:=List V->Hp->VK->XK->Prop
abbrev Hv:=List Env->Hp->Shared->XK->Value->Shared->Prop
structure vL (P:Program) (w:World) (K:PySem.W.Frag) (mg:Str->Option Value) (base:Heap) (A:Around) (outer:List Env) (s:Shared) (H:Hp):Prop where
 frames:A.frames=some outer
 mod:Mod K mg base
 bs:∀ b o,base.get? b=some o->s.heap.get? b=some o/\H b=none
 yL:base.objs.size<=s.heap.objs.size
 kL:s.heap.FunFrames base outer
 BV:∀ b∈uJ outer,H b=none
 bu:ke P w H s.heap
 bare:AllBare s.gens
def CE(outer:List Env)(P:Program)(w:World)(H:Hp)(s:Shared)(Q:VK)(u:Value)(s':Shared):Prop :=
 ∃ v H',s'.os=s.os/\AllBare s'.gens/\Un (uJ outer) [] H H' s.heap s'.heap/\ke P w H' s'.heap/\RelV v u/\Q v H'
def CR(CX:Hv)(outer:List Env)(P:Program)(w:World)(H:Hp)(s:Shared)(Q:VK)(E:XK)(r:Result)(s':Shared):Prop :=
 match r with
 | .ok (.ret u)=>CE outer P w H s Q u s'
 | .ok _=>False
 | .error e=>CX outer H s E e s'
structure aW (P:Program) (w:World) (K:PySem.W.Frag) (mg:Str->Option Value) (base:Heap) (CX:Hv) (k:Nat) (f:Addr) (fd:FuncData) (ps:List Str) (sp:Sp):Prop where
 len:∀ vs H Q E,sp vs H Q E->vs.length=ps.length
 run:∀ (A:Around) (outer:List Env) (s:Shared) (H:Hp) (args:Args) (us:List Value) (vs:List V) (Q:VK) (E:XK),bP k A->vL P w K mg base A outer s H->BindsTo s fd args (ps.zip us)->Vals vs us->sp vs H Q E ->
  codeAny (model P w) A (.call (.ref f) args) (CR CX outer P w H s Q E) s
variable{outer:List Env}{base:Heap}{mg:Str->Option Value}
theorem vL.make{K:PySem.W.Frag}(e:vL P w K mg base A outer s H)(C:Addr)(us:List Value)(kw:List (Str×Value)) :
  vL P w K mg base (A.under (.builtin "type.__call__" ⟨.ref C::us,kw⟩)) outer s H:=⟨by first | exact e.frames | (simpa [Around.under,Code.envs,Code.isFrame,pushEnvs] using e.frames),e.mod,e.bs,e.yL,e.kL,e.BV,e.bu,e.bare⟩
section
variable{s':Shared}
theorem Inv.jL(I:Inv X Me σ H s):vL X.prog X.w X.K X.mg X.base X.A X.stack s H :=
 ⟨I.ok.frames,I.ok.mod,I.bs,Nat.le_trans I.ok.yL I.sz,I.stack,I.rH,I.bu,I.bare⟩
theorem Inv.after{Q:VK}(I:Inv X Me σ H s)(h:CE X.stack X.prog X.w H s Q u s'):EP X Me σ Q u s':=by
 obtain⟨v,H',os,bare,un,bu,r,q⟩:=h
 obtain⟨hh,g,d,t,os'⟩:=s'
 obtain rfl:os'=s.os:=os
 exact⟨v,H',I.call (h':=hh) (g':=g) (d':=d) (t':=t) (ch:=[]) un bu bare (λb z=>absurd z (by simp)),r,q⟩
end
def Binds(K:PySem.W.Frag)(fd:FuncData)(ps:List Str)(ds:List Value):Prop :=
 ∀ (s:Shared) (us:List Value),K.In s.heap->(us++ds).length=ps.length->BindsTo s fd ⟨us,[]⟩ (ps.zip (us++ds))
variable{ps:List Str}{fd:FuncData}
theorem Binds.all{K:PySem.W.Frag}(h:∀ us:List Value,us.length=ps.length->bindArgs fd ⟨us,[]⟩=pure (ps.zip us)):Binds K fd ps []:=λs us _ hl=>by
 rw[List.append_nil] at hl ⊢
 exact .of_eq (h us hl)
variable{sp:Sp}{CX:Hv}
section
variable{f:Addr}{MR:List V}{ds:List Value}{E:XK}{p pos apos:Pos}{o:Expr}{t:TA}
structure Mk (K:PySem.W.Frag) (C f:Addr):Prop where
 makes:PySem.W.makesIn K C=true
 init:PySem.W.findIn K (.ref C) "__init__" = some (some (.ref f))
 fn:PySem.W.isFn K (.ref f)=true
 kp:PySem.W.keepIn K (.ref C)=true
end
section
variable{f:Addr}{ks:List Str}{E:XK}{p pos apos kpos:Pos}{o:Expr}{kws:List Keyword}{t tk:TA}{nm:Option Str}
variable{g:List Value->List Value->List Value}{gV:List V->List V->List V}
end
structure b_ (N P:List Str) (sc:Scope):Prop where
 kind:sc.kind=.function
 co:sc.isCoroutine=false
 gen:sc.isGenerator=false
 nd:N.Nodup
 pre:N.take P.length=P
 par:∀ x∈P,sc.names.lookup x=some .local\/sc.names.lookup x=some .cell
 FA:∀ y∈sc.names,y.2≠.free
theorem p7{kindOf:Str->Option NameKind}{x:Str}:∀ {binds:List (Str×Value)} {m:Str->Option Value},(∀ v,(x,v) ∉ binds)->bindL kindOf binds m x=m x
 | [],_,_=>rfl
 | (n,v)::r,m,h=>by
  unfold bindL
  rw[p7 λw hw=>h w (List.mem_cons_of_mem _ hw)]
  split
  ·have:x≠n:=by rintro rfl;exact h v List.mem_cons_self
   simp[this]
  ·rfl
theorem qj{kindOf:Str->Option NameKind}{x:Str}:∀ {binds:List (Str×Value)} {m:Str->Option Value},(∀ v,(x,v) ∉ binds)->bindC kindOf binds m x=m x
 | [],_,_=>rfl
 | (n,v)::r,m,h=>by
  unfold bindC
  rw[qj λw hw=>h w (List.mem_cons_of_mem _ hw)]
  split
  ·rfl
  ·have:x≠n:=by rintro rfl;exact h v List.mem_cons_self
   simp[this]
theorem qD{kindOf:Str->Option NameKind}{x:Str}{v:Value}:∀ {P:List Str} {vs:List Value} {i:Nat} {m:Str->Option Value},P.Nodup->P[i]?=some x->vs[i]?=some v->kindOf x=some .local ->
  bindL kindOf (P.zip vs) m x=some v
 | [],_,_,_,_,h,_,_=>by simp at h
 | _::_,[],_,_,_,_,h,_=>by simp at h
 | p::P,w::vs,0,m,nd,h1,h2,hk=>by
  simp at h1 h2;subst h1;subst h2
  show bindL kindOf ((p,w)::P.zip vs) m p=_
  unfold bindL
  rw[p7 λv hv=>(List.nodup_cons.mp nd).1 (List.of_mem_zip hv).1,if_pos hk]
  simp
 | p::P,w::vs,i+1,m,nd,h1,h2,hk=>by
  show bindL kindOf ((p,w)::P.zip vs) m x=_
  unfold bindL
  exact qD (i:=i) (List.nodup_cons.mp nd).2 (by simpa using h1) (by simpa using h2) hk
theorem p6{kindOf:Str->Option NameKind}{x:Str}{v:Value}:∀ {P:List Str} {vs:List Value} {i:Nat} {m:Str->Option Value},P.Nodup->P[i]?=some x->vs[i]?=some v->kindOf x≠some .local ->
  bindC kindOf (P.zip vs) m x=some v
 | [],_,_,_,_,h,_,_=>by simp at h
 | _::_,[],_,_,_,_,h,_=>by simp at h
 | p::P,w::vs,0,m,nd,h1,h2,hk=>by
  simp at h1 h2;subst h1;subst h2
  show bindC kindOf ((p,w)::P.zip vs) m p=_
  unfold bindC
  rw[qj λv hv=>(List.nodup_cons.mp nd).1 (List.of_mem_zip hv).1,if_neg hk]
  simp
 | p::P,w::vs,i+1,m,nd,h1,h2,hk=>by
  show bindC kindOf ((p,w)::P.zip vs) m x=_
  unfold bindC
  exact p6 (i:=i) (List.nodup_cons.mp nd).2 (by simpa using h1) (by simpa using h2) hk
def start(N:List Str)(vs:List V):St:=vs.map some++List.replicate (N.length-vs.length) none
def kb(CX:Hv)(P:Program)(w:World)(K:PySem.W.Frag)(mg:Str->Option Value)(base:Heap)(N:List Str)(qual:Str)(scope:Scope)(f:Addr)(cd:Value)(A:Around)(outer:List Env)(s:Shared)(H:Hp)(E:XK):Cx where
 prog:=P
 w:=w
 K:=K
 mg:=mg
 base:=base
 A:=A.deeper (envOfC qual scope s.heap.objs.size f cd)
 N:=N
 s₀:=s
 H₀:=H
 env:=envOfC qual scope s.heap.objs.size f cd
 outer:=outer
 stack:=envOfC qual scope s.heap.objs.size f cd::outer
 ex:=[]
 calm:=true
 fn:=λ_=>true
 pn:=[]
 xe:=λe s'=>wpAny (model P w) (A.deeper (envOfC qual scope s.heap.objs.size f cd)) (leaving (envOfC qual scope s.heap.objs.size f cd) e) (λ_ s''=>CX outer H s E e s'') (λe' s''=>CX outer H s E e' s'') s'
theorem tq{sc:Scope}(h:sc.names.lookup x=some .cell):∃ c,(cellsFrom n sc.names []).lookup x=some c:=by
 have q:=PySem.W.cellsFrom_some sc.names n [] (.inl h)
 exact Option.isSome_iff_exists.mp q
variable{scope:Scope}
theorem xH{K:PySem.W.Frag}{qual:Str}{f:Addr}{cd:Value}{s1:Shared}{E:XK}{vs:List V}
  (S:b_ N ps scope) (hd:A.handled=none) (e0:vL P w K mg base A outer s H) (hl:vs.length=ps.length) (r:Vals vs us)
  (x:InCallC s s.heap.objs.size (bindL (envOfC qual scope s.heap.objs.size f cd).kindOf (ps.zip us) λ_=>none) (cellsFrom (s.heap.objs.size+1) scope.names []) (bindC (envOfC qual scope s.heap.objs.size f cd).kindOf (ps.zip us) λ_=>none) s1) :
  Inv (kb CX P w K mg base N qual scope f cd A outer s H E) [] (start N vs) H s1:=by
 have Mt:ps.length<=N.length:=by have:=congrArg List.length S.pre;rw[List.length_take] at this;omega
 obtain⟨h1,tk,rfl,hk⟩:=x.done
 have kT:∀ b:Addr,b ∉ (kb CX P w K mg base N qual scope f cd A outer s H E).ex:=λb z=>absurd (show b∈([]:List Addr) from z) (by simp)
 refine⟨⟨e0.mod,S.kind,rfl,rfl,Nat.le_refl _,λy z c h1 h2=>?_,λy hy=>?_,λy c _ h=>?_,λ_=>hd,Around.frames_deeper e0.frames,.inr ⟨rfl,rfl⟩,λb z=>absurd z (kT b),e0.bs,e0.yL,λb _ _=>kT b,λb z=>absurd z (kT b),e0.kL,e0.BV⟩,
  rfl,e0.bare,Un.kept hk,⟨_,x.toInCall.ns,λi y v h1 h2 h3=>?_⟩,λy c h=>⟨_,x.cell y c h⟩,e0.bu.fresh (Nat.le_refl _),λy c h=>?_,λp hp=>absurd (show p∈([]:List (Addr×Obj)) from hp) (by simp),e0.bu.kept hk,?_⟩
 ·exact name_of_addr x.apart (PySem.mem_of_lookup h1) (PySem.mem_of_lookup h2)
 ·have hy:scope.names.lookup y=some .cell\/scope.names.lookup y=some .free:=hy
  rcases hy with hy | hy
  ·exact tq hy
  ·exact absurd rfl (S.FA _ (PySem.mem_of_lookup hy))
 ·exact Nat.le_of_lt (x.above y c (PySem.mem_of_lookup h))
 ·have hi:i<vs.length:=by
   unfold start at h2
   by_cases hi:i<vs.length
   ·exact hi
   ·rw[List.getElem?_append_right (by simpa using hi)] at h2
    rw[List.getElem?_replicate] at h2
    split at h2 <;> cases h2
  have ha:vs[i]?=some v:=by
   unfold start at h2
   rw[List.getElem?_append_left (by simpa using hi),List.getElem?_map] at h2
   cases e:vs[i]? with
   | none=>rw[e] at h2;cases h2
   | some a=>rw[e] at h2;cases h2;rfl
  obtain⟨u,hu,rv⟩:=r.get ha
  have hp:ps[i]?=some y:=by
   rw[← S.pre,List.getElem?_take_of_lt (by omega)];exact h1
  have ndP:ps.Nodup:=by rw[← S.pre];exact S.nd.sublist (List.take_sublist _ _)
  refine⟨u,rv,?_⟩
  rcases S.par y (List.mem_of_getElem? hp) with k | k
  ·exact .inl ⟨k,qD ndP hp hu k⟩
  ·obtain⟨c,e⟩:=tq (n:=s.heap.objs.size+1) k
   refine .inr ⟨.inl k,c,e,?_⟩
   have q:=x.cell y c e
   rw[p6 ndP hp hu (by show scope.names.lookup y≠_;rw[k];decide)] at q
   exact q
 ·exact e0.bu.fresh (Nat.le_of_lt (x.above y c (PySem.mem_of_lookup h)))
 ·unfold start
  show _=N.length
  rw[List.length_append,List.length_map,List.length_replicate]
  omega
theorem HW{K:PySem.W.Frag}{f:Addr}{name qual:Str}{params:Arguments}{dV kV doc pm Mr ct oc:Value}{an od:Option Addr}
  {Od:Array (Option Value)} (lk:K.lookup f=some ⟨oc,od,.func (PySem.W.fnOf name qual params body scope dV kV doc pm an Mr ct),Od⟩) (Nc:PySem.W.codeIn K Mr qual=true) (S:b_ N ps scope)
  (len:∀ vs H Q E,sp vs H Q E->vs.length=ps.length)
  (Oi:∀ (A:Around) (outer:List Env) (s:Shared) (H:Hp) (vs:List V) (Q:VK) (E:XK),bP k (A.deeper (envOfC qual scope s.heap.objs.size f Mr))->sp vs H Q E ->
   ∃ t,kc (kb CX P w K mg base N qual scope f Mr A outer s H E) body t/\t { nx:=λ_ H'=>Q .cL H',rt:=Q } (start N vs) H) :
  aW P w K mg base CX (k+1) f (PySem.W.fnOf name qual params body scope dV kV doc pm an Mr ct) ps sp:=by
 refine⟨len,λA outer s H args us vs Q E hr e0 hb r hsp=>?_⟩
 have hl:=len _ _ _ _ hsp
 have KX:K.In s.heap:=e0.mod.EL.keeps λb o e=>(e0.bs b o e).1
 have lim:s.heap.NoLimit:=e0.mod.nolimit.keeps λb o e=>(e0.bs b o e).1
 have PD:∀ y∈ps.zip us,scope.names.lookup y.1=some .local\/(scope.names.lookup y.1=some .cell/\((cellsFrom (s.heap.objs.size+1) scope.names []).lookup y.1).isSome=true):=λ⟨n,v⟩ hy=>by
  rcases S.par n (List.of_mem_zip hy).1 with q | q
  ·exact .inl q
  ·exact .inr ⟨q,PySem.W.cellsFrom_some _ _ _ (.inl q)⟩
 refine codeAny_call_function hr.depth (KX _ _ lk) rfl S.co S.gen rfl (PySem.W.codeRec_of KX Nc) (hb _ _ _ _ ?_)
 refine wpAny_newFunctionEnv_cells S.kind PD λenv he s1 x=>?_
 subst he
 refine⟨lim.keeps x.toInCall.keep,codeAny_func ?_⟩
 obtain⟨t,ht,hq⟩:=Oi A outer s H vs Q E (hr.deeper _) hsp
 have I:Inv (kb CX P w K mg base N qual scope f Mr A outer s H E) [] (start N vs) H s1:=xH S hr.hd e0 hl r x
 refine wpAny_mono (ht [] s1 (start N vs) H _ I hq) (λfl s' hs=>?_) λe s' hs=>hs
 have fin:∀ {σ':St} {H':Hp} {v:V} {u:Value},Inv (kb CX P w K mg base N qual scope f Mr A outer s H E) [] σ' H' s'->RelV v u->Q v H'->CE outer P w H s Q u s' :=
  λ{σ' H' v u} J rv q=>⟨v,H',J.os,J.bare,J.base,J.bu,rv,q⟩
 cases fl with
 | ret u =>
  obtain⟨v,σ',H',J,rv,q⟩:=hs
  exact fin J rv q
 | next =>
  obtain⟨σ',H',J,q⟩:=hs
  exact fin (v:=V.cL) (u:=Value.none) J rfl q
 | brk =>
  obtain⟨_,_,_,q⟩:=hs
  exact False.elim q
 | cont =>
  obtain⟨_,_,_,q⟩:=hs
  exact False.elim q
section
variable{p pos:Pos}{t:TA}{id T:String}{r:List V->Hp->VK->Prop}
def JL(r:List V->Hp->VK->Prop)(t:TA):TE:=fun σ H Q=>t σ H λvs H1=>r vs H1 Q
theorem jB(hc:cy X (.builtin id) r)(hg:Gl X x)(hm:X.mg x=none)(hv:bootBuiltins x=some (.builtin id))(ha:PA X (e::es) t)(hn:autoParam (x ≠ "__name__") aD._auto_1)(MP:autoParam ((x==("__debug__" : Str))=false) aD._auto_1)
  (he:autoParam (starEach (e::es) X.env=(false,eval e X.env)::starEach es X.env) aR._auto_1) (Mt:autoParam ((backTo pos (starEach es X.env)).any (·.1)=false) aR._auto_1):PE X (.Call (.Name x p) (e::es) [] pos) (JL r t):=by
 intro Me s σ H Q I h
 refine wpAny_Call_Name_kw (i4 I hg hm hv ?_ hn MP)
 exact PyProof.Rows.callWith_builtin1 (bT (ha pos Me s σ H _ I h) λus s1 ⟨vs,H1,I1,r1,q1⟩=>hc Me s1 σ H1 vs us Q I1 r1 q1) he Mt
theorem qa(hc:cy X (.type T) r)(hg:Gl X x)(hm:X.mg x=none)(hv:bootBuiltins x=some (.type T))(ha:PA X (e::es) t)(hn:autoParam (x ≠ "__name__") aD._auto_1)(MP:autoParam ((x==("__debug__" : Str))=false) aD._auto_1)
  (he:autoParam (starEach (e::es) X.env=(false,eval e X.env)::starEach es X.env) aR._auto_1) (Mt:autoParam ((backTo pos (starEach es X.env)).any (·.1)=false) aR._auto_1):PE X (.Call (.Name x p) (e::es) [] pos) (JL r t):=by
 intro Me s σ H Q I h
 refine wpAny_Call_Name_kw (i4 I hg hm hv ?_ hn MP)
 exact PyProof.Rows.callWith_type1 (bT (ha pos Me s σ H _ I h) λus s1 ⟨vs,H1,I1,r1,q1⟩=>hc Me s1 σ H1 vs us Q I1 r1 q1) he Mt
end
end L2
namespace HT
open PySem PyProof.Rows
section
open PySem.SeqAt
open PySem.AutoSeq1 (wpAny_loadPart')
open PySem.MeetsSeq PySem.MeetsSeq2 PySem.MeetsSeq3
end
variable{Q:Value->Shared->Prop}
section
variable{prog:Program}{w:World}{A:Around}{E:Value->Shared->Prop}{s:Shared}
theorem Dg{t b:Addr}{vs ws:List Value}(ht:IsTup s.heap t vs.toArray)(hb:IsTup s.heap b ws.toArray)(hv:vs≠[])
  (h1:ws=[]->Q (.ref t) s) (h2:ws≠[]->Q (.ref s.heap.objs.size) { s with heap:=s.heap.push { cls:=.type "tuple", data:=.seq (vs++ws).toArray } })
  (hsz:vs.length+ws.length<=sizeLine):wpAny (model prog w) A (binaryOp .Add (.ref t) (.ref b)) Q E s:=by
 obtain⟨⟨cls,dd,data,sl⟩,ho,hc,n,hd⟩:=id ht
 obtain⟨⟨cls2,Pp,data2,sl2⟩,Oa,Oj,n2,hd2⟩:=id hb
 simp only at hc hd Oj hd2
 subst hc hd Oj hd2
 have e:vs.toArray++ws.toArray=(vs++ws).toArray:=by simp
 by_cases hw:ws=[]
 ·exact concat_meets ⟨_,ho,rfl⟩ ⟨_,Oa,rfl⟩ noFill_tuple_add seq_tuple_add PySem.F.slot_tuple_add PySem.F.entry_tuple_add (PySem.F.args_tuple_add_2 _ _)
   (tuple_addW1 t b vs.toArray ws.toArray n n2 dd Pp sl sl2 (by simpa using hv) (by simp[hw])) ⟨ho,Oa,h1 hw⟩
 ·refine concat_meets ⟨_,ho,rfl⟩ ⟨_,Oa,rfl⟩ noFill_tuple_add seq_tuple_add PySem.F.slot_tuple_add PySem.F.entry_tuple_add (PySem.F.args_tuple_add_2 _ _)
   (tuple_addW2 t b vs.toArray ws.toArray n n2 dd Pp sl sl2 (by simpa using hv) (by simpa using hw) (by rw[List.size_toArray,List.size_toArray];exact hsz)) ⟨ho,Oa,?_⟩
  rw[e]
  exact h2 hw
def dh(n d:Nat):Option Int->Nat
 | none=>d
 | some v=>if v<0 then (v+(n:Int)).toNat else min v.toNat n
theorem GQ(n d:Nat)(hd:d<=n)(o:Option Int):dh n d o<=n:=by
 cases o with
 | none=>exact hd
 | some v =>
  show (if v<0 then (v+(n:Int)).toNat else min v.toNat n)<=n
  by_cases hv:v<0
  ·rw[if_pos hv];omega
  ·rw[if_neg hv];exact Nat.min_le_right _ _
theorem wa(v:Int)(n d:Nat):(if v<0 then max (v+(n:Int)) 0 else min v (n:Int))=((dh n d (some v):Nat):Int):=by
 show (if v<0 then max (v+(n:Int)) 0 else min v (n:Int))=(((if v<0 then (v+(n:Int)).toNat else min v.toNat n):Nat):Int)
 by_cases hv:v<0
 ·simp only[if_pos hv];omega
 ·simp only[if_neg hv];omega
theorem vF(lo hi:Option Int)(n:Nat):Builtin.Slice.sliceAdjust lo hi 1 (n:Int)=(((dh n 0 lo:Nat):Int),((dh n n hi:Nat):Int)):=by
 have h1:¬ ((1:Int)<0):=by omega
 unfold Builtin.Slice.sliceAdjust
 simp only[h1,if_false]
 refine Prod.ext ?_ ?_
 ·cases lo with
  | none=>rfl
  | some v=>exact wa v n 0
 ·cases hi with
  | none=>rfl
  | some v=>exact wa v n n
theorem uU(i j:Nat):Builtin.Slice.slicePlaces (i:Int) (j:Int) 1=j-i:=by
 unfold Builtin.Slice.slicePlaces
 have h1:(1:Int)>0:=by omega
 simp only[h1,if_true,Int.ediv_one]
 split <;> omega
theorem o4{v:Value}{o:Option Int}{Q:Option Int->Shared->Prop}(p:IsPart v o)(h:Q o s):wpAny (model prog w) A (Builtin.Slice.slicePartIndex v) Q E s:=by
 cases p with
 | none=>exact slicePart_none h
 | int i t=>exact slicePart_int h
theorem ie{sl:Addr}{vl vu:Value}{lo hi:Option Int}{n:Nat}{Q:Int×Int×Nat->Shared->Prop}(hs:s.heap.IsSliceOf sl vl vu .none)(pl:IsPart vl lo)(pu:IsPart vu hi)
  (h:Q (((dh n 0 lo:Nat):Int),1,dh n n hi-dh n 0 lo) s):wpAny (model prog w) A (Builtin.Slice.sliceApplied (.ref sl) (pure (n:Int))) Q E s:=by
 obtain⟨os,O8,hcs,Py⟩:=id hs
 unfold Builtin.Slice.sliceApplied Builtin.Slice.sliceFields
 refine wpAny_bind (wpAny_bind (wpAny_field O8 Py (x:=vl) rfl (wpAny_bind (wpAny_field O8 Py (x:=vu) rfl (wpAny_bind (wpAny_field O8 Py (x:=.none) rfl (wpAny_pure ?_)))))))
 refine wpAny_bind (slicePart_none ?_)
 show wpAny _ _ (if ((1:Int)==0)=true then _ else _) _ _ s
 rw[if_neg (by decide)]
 refine wpAny_bind (o4 pl (wpAny_bind (o4 pu (wpAny_bind (wpAny_pure ?_)))))
 show wpAny _ _ (match Builtin.Slice.sliceAdjust lo hi 1 (n:Int) with | (lo,hi)=>pure (lo,(1:Int),Builtin.Slice.slicePlaces lo hi 1)) _ _ s
 rw[vF lo hi n]
 show wpAny _ _ (pure (((dh n 0 lo:Nat):Int),(1:Int),Builtin.Slice.slicePlaces ((dh n 0 lo:Nat):Int) ((dh n n hi:Nat):Int) 1)) _ _ s
 rw[uU]
 exact wpAny_pure h
theorem zq(xs:Array Value)(i k:Nat):((List.range k).filterMap λ(m:Nat)=>xs[((i:Int)+(m:Int)*1).toNat]?).toArray=((xs.toList.drop i).take k).toArray:=by
 have e:(λ(m:Nat)=>xs[((i:Int)+(m:Int)*1).toNat]?)=λm=>xs[i+m]?:=by
  funext m
  have:((i:Int)+(m:Int)*1).toNat=i+m:=by omega
  rw[this]
 rw[e]
 have:=pick_run xs i k
 rw[List.filterMap_map] at this
 have e2:((λx=>xs[x]?)∘λx=>i+x)=λm=>xs[i+m]?:=rfl
 rw[e2] at this
 rw[this]
theorem kZ{t sl:Addr}{items:Array Value}{vl vu:Value}{lo hi:Option Int}(ht:IsTup s.heap t items)(hs:s.heap.IsSliceOf sl vl vu .none)(pl:IsPart vl lo)(pu:IsPart vu hi)
  (hw:¬ (dh items.size 0 lo=0/\dh items.size items.size hi=items.size))
  (h:Q (.ref s.heap.objs.size) { s with heap:=s.heap.push { cls:=.type "tuple", data:=.seq ((items.toList.drop (dh items.size 0 lo)).take (dh items.size items.size hi-dh items.size 0 lo)).toArray } })
  (hsz:items.size<=sizeLine):wpAny (model prog w) A (getItem (.ref t) (.ref sl)) Q E s:=by
 have N6:sizeOk (.seq ((items.toList.drop (dh items.size 0 lo)).take (dh items.size items.size hi-dh items.size 0 lo)).toArray):=by
  show ((items.toList.drop (dh items.size 0 lo)).take (dh items.size items.size hi-dh items.size 0 lo)).toArray.size<=sizeLine
  rw[List.size_toArray,List.length_take,List.length_drop,Array.length_toList]
  omega
 have hj:dh items.size items.size hi<=items.size:=GQ _ _ (Nat.le_refl _) hi
 obtain⟨os,O8,hcs,Py⟩:=id hs
 have hTs:s.TypeIs (.ref sl) "slice" := ⟨os,O8,hcs⟩
 unfold getItem
 try with_reducible refine wpAny_holding ?_
 first | refine wpAny_bind (wpAny_pure ?_) | skip
 refine wpAny_bind (wpAny_sequenceKey ht.typeIs (by decide) ?_)
 refine wpAny_bind (wpAny_callSpecial?_slot (name:=Str.ofString "__getitem__") ht.typeIs PyProof.Rows.slot_tuple_getitem
  (wpAny_call_entry PyProof.Rows.slot_tuple_getitem ht.typeIs entry_tuple_getitem ?_ (args_tuple_getitem _ _)))
 show wpAny _ _ (Builtin.Tuple.tupleItemsOf (.ref t) >>= _) _ _ s
 refine wpAny_bind (tupleItemsOf_ ht ?_)
 refine wpAny_bind (wpAny_typeOf hTs ?_)
 rw[if_pos (by decide)]
 refine wpAny_bind (ie hs pl pu ?_)
 have hno:¬ ((((dh items.size 0 lo:Nat):Int)==0&&(1:Int)==1&&(dh items.size items.size hi-dh items.size 0 lo)==items.size)=true):=by
  intro q
  rw[Bool.and_eq_true,Bool.and_eq_true] at q
  have q1:((dh items.size 0 lo:Nat):Int)=0:=eq_of_beq q.1.1
  have q2:dh items.size items.size hi-dh items.size 0 lo=items.size:=eq_of_beq q.2
  exact hw ⟨by omega,by omega⟩
 show wpAny _ _ (if (((dh items.size 0 lo:Nat):Int)==0&&(1:Int)==1&&(dh items.size items.size hi-dh items.size 0 lo)==items.size)=true then _ else _) _ _ s
 rw[if_neg hno,zq]
 first
  | exact wpAny_bind (m:=Builtin.Tuple.tupleExact _) (wpAny_newObj_type (wpAny_pure ⟨_,rfl,wpAny_pure h⟩) N6)
  | exact wpAny_bind (m:=Builtin.Tuple.tupleExact _) (wpAny_newObj_type (wpAny_bind (wpAny_pure (wpAny_pure ⟨_,rfl,wpAny_pure h⟩))) N6)
  | exact wpAny_bind (wpAny_bind (m:=Builtin.Tuple.tupleExact _) (wpAny_newObj_type (wpAny_pure (wpAny_pure ⟨_,rfl,wpAny_pure h⟩)) N6))
  | exact wpAny_bind (wpAny_bind (m:=Builtin.Tuple.tupleExact _) (wpAny_newObj_type (wpAny_pure ⟨_,rfl,wpAny_pure h⟩) N6))
end
end HT
namespace L2
open PySem PySem.Spec PyProof.Rows
abbrev TO:=St->Hp->(Option Int->Hp->Prop)->Prop
def PO(X:Cx)(e:Option Expr)(t:TO):Prop :=
 ∀ (Me:List (Addr×Obj)) (s:Shared) (σ:St) (H:Hp) (Q:Option Int->Hp->Prop),Inv X Me σ H s->t σ H Q ->
  wpAny (model X.prog X.w) X.A (evalPart e X.env) (λu s'=>∃ o H',Inv X Me σ H' s'/\IsPart u o/\Q o H') X.xe s
def HE(t:TE):TO:=fun σ H Q=>t σ H λx H1=>∃ i,x=.int i/\Q (some i) H1
theorem intsAre_of{ns:List Int}:∀ {us:List Value},Vals (ns.map V.int) us->IntsAre us ns:=by
 induction ns with
 | nil=>intro us r;rw[List.map_nil] at r;cases r;exact .nil
 | cons n ns ih =>
  intro us r
  rw[List.map_cons] at r
  cases r with
  | cons r1 r2 =>
   obtain⟨t,e⟩:=r1
   subst e
   exact .cons n t (ih r2)
variable{e:Expr}{X:Cx}
variable{r:V->Option Int->Option Int->Hp->VK->Prop}
section
variable{te:TE}{lo hi:Option Expr}{tl th:TO}{pos p2:Pos}
theorem Ck(h:PE X e te):PO X (some e) (HE te):=by
 intro Me s σ H Q I hw
 rw[evalPart_some]
 refine bT (h Me s σ H _ I hw) λu s1 ⟨x,H1,I1,r1,q1⟩=>?_
 obtain⟨i,rfl,q⟩:=q1
 obtain⟨t,rfl⟩:=r1
 exact⟨some i,H1,I1,.int i t,q⟩
def BX(X:Cx)(r:V->Option Int->Option Int->Hp->VK->Prop):Prop :=
 ∀ (Me:List (Addr×Obj)) (s:Shared) (σ:St) (H:Hp) (x:V) (v vl vu:Value) (lo hi:Option Int) (sl:Addr) (Q:VK),Inv X Me σ H s->RelV x v->s.heap.IsSliceOf sl vl vu .none->IsPart vl lo->IsPart vu hi->r x lo hi H Q ->
  ∃ T id,typeLookup (.type T) "__getitem__" = pure (some (.builtin id))/\s.TypeIs v T/\wpAny (model X.prog X.w) X.A (getItem v (.ref sl)) (EP X Me σ Q) X.xe s
theorem BX.or{r':V->Option Int->Option Int->Hp->VK->Prop}(h:BX X r)(h':BX X r'):BX X (λx lo hi H Q=>r x lo hi H Q\/r' x lo hi H Q):=by
 intro Me s σ H x v vl vu lo hi sl Q I rx hs pl pu q
 rcases q with q | q
 ·exact h Me s σ H x v vl vu lo hi sl Q I rx hs pl pu q
 ·exact h' Me s σ H x v vl vu lo hi sl Q I rx hs pl pu q
def LR(r:V->Option Int->Option Int->Hp->VK->Prop)(te:TE)(tl th:TO):TE:=fun σ H Q=>te σ H λx H1=>tl σ H1 λl H2=>th σ H2 λu H3=>r x l u H3 Q
theorem zx(hr:BX X r)(he:PE X e te)(hl:PO X lo tl)(hu:PO X hi th):PE X (.Subscript e (.Slice lo hi none p2) pos) (LR r te tl th):=by
 intro Me s σ H Q I h
 refine Subscript_ (bT (he Me s σ H _ I h) λv s1 ⟨x,H1,I1,r1,q1⟩=>?_)
 refine wpAny_Slice (bT (hl Me s1 σ H1 _ I1 q1) λvl s2 ⟨l,H2,I2,pl,q2⟩=>bT (hu Me s2 σ H2 _ I2 q2) λvu s3 ⟨u,H3,I3,pu,q3⟩=>?_)
 rw[evalPart_none]
 refine wpAny_pure ?_
 have I4:Inv X Me σ H3 { s3 with heap:=s3.heap.push { cls:=.type "slice", data:=.fields #[vl,vu,.none] } }:=I3.kept (t':=s3.toks) λb ob q=>Heap.get?_push_of_some _ q
 obtain⟨T,id,hT,ht,hg⟩:=hr Me { s3 with heap:=s3.heap.push { cls:=.type "slice", data:=.fields #[vl,vu,.none] } } σ H3 x v vl vu l u s3.heap.objs.size Q I4 r1 (Heap.IsSliceOf.new ..) pl pu q3
 show wpAny (model X.prog X.w) X.A (subscriptTail e (.Slice lo hi none p2) v (.ref s3.heap.objs.size)) (EP X Me σ Q) X.xe { s3 with heap:=s3.heap.push { cls:=.type "slice", data:=.fields #[vl,vu,.none] } }
 exact tail_any (ops:=[.ref s3.heap.objs.size,v]) ht hT hg (by with_unfolding_all rfl)
def tU(xs:List V)(lo hi:Option Int):List V:=(xs.drop (HT.dh xs.length 0 lo)).take (HT.dh xs.length xs.length hi-HT.dh xs.length 0 lo)
theorem mr(xs:List V)(lo hi:Option Int):(tU xs lo hi).length<=xs.length:=by
 unfold tU
 rw[List.length_take,List.length_drop]
 omega
def Ln(K:PySem.W.Frag):V->Option Int->Option Int->Hp->VK->Prop:=λx lo hi H Q=>∃ a xs,x=.ref a/\gx K H a xs ∧
 ¬ (HT.dh xs.length 0 lo=0/\HT.dh xs.length xs.length hi=xs.length)/\∀ p,H p=none->Q (.ref p) (upd H p (.tup (tU xs lo hi)))
theorem Fq:BX X (Ln X.K):=by
 intro Me s σ H x v vl vu lo hi sl Q I rx hs pl pu h
 obtain⟨a,xs,rfl,hx,hw,q⟩:=h
 cases rx
 obtain⟨Mg,r,ht,hz⟩:=I.tuple hx
 have hlen:Mg.toArray.size=xs.length:=by rw[List.size_toArray];exact r.length.symm
 refine⟨"tuple", _,PyProof.Rows.slot_tuple_getitem.lookup,ht.typeIs,?_⟩
 refine HT.kZ ht hs pl pu (by rw[hlen];exact hw) ?_ (by rw[hlen];exact hz)
 rw[hlen]
 refine⟨.ref s.heap.objs.size,_,I.laid (t':=s.toks) (o:=.tup (tU xs lo hi)) (λb ob q=>Heap.get?_push_of_some _ q) (Nat.le_refl _) ?_,rfl,q _ (I.bu.fresh (Nat.le_refl _))⟩
 exact⟨Nat.le_trans (mr xs lo hi) hz,_,(r.drop (HT.dh xs.length 0 lo)).take (HT.dh xs.length xs.length hi-HT.dh xs.length 0 lo),IsTup.new _ _⟩
def Eg(K:PySem.W.Frag):R2:=λx y H Q=>∃ a b xs ys,x=.ref a/\y=.ref b/\gx K H a xs/\gx K H b ys/\xs≠[]/\xs.length+ys.length<=sizeLine ∧
 (ys=[]->Q (.ref a) H)/\(ys≠[]->∀ p,H p=none->Q (.ref p) (upd H p (.tup (xs++ys))))
theorem Vals.kY{xs:List V}{us:List Value}(r:Vals xs us):us=[] ↔ xs=[]:=by
 cases r with
 | nil=>simp
 | cons _ _=>simp
theorem Cs:gc X (binaryOp .Add) (Eg X.K):=by
 intro Me s σ H x y v u Q I rx ry h
 obtain⟨a,b,xs,ys,rfl,rfl,ha,hb,hx,hz,q1,q2⟩:=h
 cases rx
 cases ry
 obtain⟨Mg,r1,p1,_⟩:=I.tuple ha
 obtain⟨NB,r2,p2,_⟩:=I.tuple hb
 refine HT.Dg p1 p2 (λz=>hx (r1.kY.mp z)) (λz=>⟨.ref a,H,I,rfl,q1 (r2.kY.mp z)⟩) (λz=>?_) (by rw[← r1.length,← r2.length];exact hz)
 refine⟨.ref s.heap.objs.size,_,I.laid (t':=s.toks) (o:=.tup (xs++ys)) (λb ob q=>Heap.get?_push_of_some _ q) (Nat.le_refl _) ?_,rfl,q2 (λw=>z (r2.kY.mpr w)) _ (I.bu.fresh (Nat.le_refl _))⟩
 exact⟨by rw[List.length_append];exact hz,_,r1.append r2,IsTup.new _ _⟩
end
def xa(n:Nat)(i:Int):Option Nat:=if 0<=i then (if i<n then some i.toNat else none) else if -(n:Int)<=i then some (i+n).toNat else none
variable{α:Type}
def nv(xs:List α)(i:Int):Option α:=(xa xs.length i).bind λj=>xs[j]?
variable{j n:Nat}{i:Int}
theorem wy(h:xa n i=some j):seqIndex? i n=some j/\j<n/\-(n:Int)<=i/\i<n:=by
 unfold xa at h
 by_cases h0:0<=i
 ·rw[if_pos h0] at h
  by_cases h1:i<n
  ·rw[if_pos h1] at h
   have e:i.toNat=j:=Option.some.inj h
   exact⟨by rw[seqIndex_of h0 h1,e],by omega,by omega,h1⟩
  ·rw[if_neg h1] at h;cases h
 ·rw[if_neg h0] at h
  by_cases h1:-(n:Int)<=i
  ·rw[if_pos h1] at h
   have e:(i+n).toNat=j:=Option.some.inj h
   exact⟨by rw[seqIndex_neg (by omega) h1,e],by omega,h1,by omega⟩
  ·rw[if_neg h1] at h;cases h
theorem mW{xs:List α}{v:α}(h:nv xs i=some v):∃ j,seqIndex? i xs.length=some j/\xs[j]?=some v/\j<xs.length/\-(xs.length:Int)<=i/\i<xs.length:=by
 unfold nv at h
 cases e:xa xs.length i with
 | none=>rw[e] at h;cases h
 | some j =>
  rw[e] at h
  obtain⟨h1,h2,h3,h4⟩:=wy e
  exact⟨j,h1,h,h2,h3,h4⟩
theorem rW{xs:List α}{v:α}(h:xs[j]?=some v):nv xs (j:Int)=some v:=by
 have hj:j<xs.length:=(List.getElem?_eq_some_iff.mp h).1
 have e:xa xs.length (j:Int)=some j:=by
  unfold xa
  rw[if_pos (by omega),if_pos (by omega)];simp
 unfold nv;rw[e];exact h
def si(b:Expr):Prop:=∀ o i,subscripted b false o i=operate [o,i] (getItem o i)
def B6(X:Cx)(r:R2):Prop :=
 ∀ (value slice:Expr) (Me:List (Addr×Obj)) (s:Shared) (σ:St) (H:Hp) (x y:V) (v u:Value) (Q:VK),Inv X Me σ H s->RelV x v->RelV y u->r x y H Q ->
  subscripted slice false v u=operate [v,u] (getItem v u)->wpAny (model X.prog X.w) X.A (subscriptTail value slice v u) (EP X Me σ Q) X.xe s
def LV(X:Cx)(id:String)(r:V->List V->Hp->VK->Prop):Prop :=
 ∀ (Me:List (Addr×Obj)) (s:Shared) (σ:St) (H:Hp) (x:V) (xs:List V) (v:Value) (us:List Value) (Q:VK),Inv X Me σ H s->RelV x v->Vals xs us->r x xs H Q ->
  wpAny (model X.prog X.w) X.A (call (.builtin id) (v::us)) (EP X Me σ Q) X.xe s
variable{Mg:List Value}{s:Shared}{H:Hp}{σ:St}{Me:List (Addr×Obj)}
section
variable{a b:Expr}{ta tb:TE}{pos:Pos}
theorem B6.or{r r':R2}(h:B6 X r)(h':B6 X r'):B6 X (λx y H Q=>r x y H Q\/r' x y H Q):=by
 intro value slice Me s σ H x y v u Q I rx ry q hs
 rcases q with q | q
 ·exact h value slice Me s σ H x y v u Q I rx ry q hs
 ·exact h' value slice Me s σ H x y v u Q I rx ry q hs
theorem AS{r:R2}(hr:B6 X r)(ha:PE X a ta)(hb:PE X b tb)(hs:si b):PE X (.Subscript a b pos) (Gj r ta tb):=by
 intro Me s σ H Q I h
 exact Subscript_ (Fc ha hb I h λv u s2 x y H2 I2 rx ry q=>hr a b Me s2 σ H2 x y v u Q I2 rx ry q (hs _ _))
def IW(K:PySem.W.Frag):R2:=λx y H Q=>∃ p xs i v,x=.ref p/\y=.int i/\eI K H p xs/\nv xs i=some v/\Q v H
def H0(K:PySem.W.Frag):R2:=λx y H Q=>∃ p xs i v,x=.ref p/\y=.int i/\gx K H p xs/\nv xs i=some v/\Q v H
def IV:R2:=λx y H Q=>∃ z i c,x=.str z/\y=.int i/\z.length<=sizeLine/\nv z.cps.toList i=some c/\Q (.str ⟨#[c]⟩) H
theorem Dt:B6 X (IW X.K):=by
 intro value slice Me s σ H x y v u Q I rx ry h hs
 obtain⟨p,xs,i,z,rfl,rfl,hq,he,q⟩:=h
 cases rx
 obtain⟨t,rfl⟩:=ry
 obtain⟨Mg,r,pl,hz⟩:=I.list hq
 obtain⟨j,h1,h2,h3,h4,h5⟩:=mW he
 obtain⟨w,ew,NC⟩:=r.get h2
 have hl:=r.length
 have hn:=kC
 have fin:EP X Me σ Q w s:=⟨z,H,I,NC,q⟩
 by_cases h0:0<=i
 ·have hj:i.toNat=j:=by
   rw[seqIndex_of h0 h5] at h1
   exact Option.some.inj h1
  exact item_listR pl.isList h0 (by omega) (by rw[hj];simpa using ew) fin hs
 ·have hj:(i+(Mg.toArray.size:Int)).toNat=j:=by
   rw[seqIndex_neg (by omega) h4] at h1
   rw[List.size_toArray,← hl]
   exact Option.some.inj h1
  exact subscriptTail_builtinR (x:=w) pl.isList.typeIs slot_list_getitem.lookup
   (wpAny_getItem_list_neg (Q:=λr s'=>r=w/\EP X Me σ Q r s') pl.isList (by omega) (by rw[List.size_toArray] <;> omega) (by omega) (by rw[hj];simpa using ew) ⟨rfl,fin⟩) hs
theorem He:B6 X (H0 X.K):=by
 intro value slice Me s σ H x y v u Q I rx ry h hs
 obtain⟨p,xs,i,z,rfl,rfl,hq,he,q⟩:=h
 cases rx
 obtain⟨t,rfl⟩:=ry
 obtain⟨Mg,r,pl,hz⟩:=I.tuple hq
 obtain⟨j,h1,h2,h3,h4,h5⟩:=mW he
 obtain⟨w,ew,NC⟩:=r.get h2
 have hl:=r.length
 have hn:=kC
 have fin:EP X Me σ Q w s:=⟨z,H,I,NC,q⟩
 exact subscriptTail_builtinR (x:=w) pl.typeIs slot_tuple_getitem.lookup
  (getItem_tuple (j:=j) (Q:=λr s'=>r=w/\EP X Me σ Q r s') pl (by omega) (by omega) (by rw[List.size_toArray,← hl];exact h1) (by simpa using ew) ⟨rfl,fin⟩) hs
theorem Gf:B6 X IV:=by
 intro value slice Me s σ H x y v u Q I rx ry h hs
 obtain⟨z,i,c,rfl,rfl,hz,he,q⟩:=h
 obtain⟨t,rfl⟩:=rx
 obtain⟨t',rfl⟩:=ry
 obtain⟨j,h1,h2,h3,h4,h5⟩:=mW he
 have hl:z.cps.toList.length=z.length:=by simp[Str.length]
 rw[hl] at h1 h4 h5
 have hn:=kC
 exact tail_any (typeIs_str s z t) slot_str_getitem.lookup (getItem_str (c:=c) (by
  have e1:decide (i < -(2^63:Int))=false:=decide_eq_false (by omega)
  have e2:decide (i>=2^63)=false:=decide_eq_false (by omega)
  rw[e1,e2,Bool.or_false]) (by rw[h1];simpa using h2) ⟨.str ⟨#[c]⟩,H,I.tok _,⟨_,rfl⟩,q⟩) hs
def Kj(K:PySem.W.Frag):R2:=λx y H Q=>IW K x y H Q\/H0 K x y H Q\/IV x y H Q
theorem ve:B6 X (Kj X.K):=Dt.or (He.or Gf)
theorem uZ(Mg:List Value)(n j:Nat)(u:Value):Obj.mapSeq (·.setIfInBounds j u) { cls:=.type "list", data:=.seq Mg.toArray n }={ cls:=.type "list", data:=.seq (Mg.set j u).toArray n }:=by
 simp[Obj.mapSeq]
theorem Inv.lst{Me:List (Addr×Obj)}{σ:St}{H:Hp}{s:Shared}{p:Addr}{xs:List V}(I:Inv X Me σ H s)(h:H p=some (.lst xs)) :
  ∃ (Mg:List Value) (n:Nat),Vals xs Mg/\s.heap.get? p=some { cls:=.type "list", data:=.seq Mg.toArray n }/\xs.length<=sizeLine:=by
 obtain⟨z,Mg,n,r,e⟩:=I.bu p _ h
 exact⟨Mg,n,r,e,z⟩
theorem Inv.GB{p:Addr}{xs ys:List V}{its':List Value}{n':Nat}{f:Obj->Obj}(I:Inv X Me σ H s)(h:H p=some (.lst xs))
  (ho:s.heap.get? p=some { cls:=.type "list", data:=.seq Mg.toArray n }) (hf:f { cls:=.type "list", data:=.seq Mg.toArray n }={ cls:=.type "list", data:=.seq its'.toArray n' }) (r:Vals ys its') (hz:ys.length<=sizeLine) (t:Nat) :
  Inv X Me σ (upd H p (.lst ys)) { s with heap:=s.heap.update p f,toks:=t }:=by
 have e:(s.heap.update p f).get? p=some { cls:=.type "list", data:=.seq its'.toArray n' }:=by
  rw[Heap.get?_update_self f ho (by rw[hf] <;> rfl),hf]
 refine I.write (x:=p) (e:=p) (by rw[h];trivial) (.inl rfl) (λb u hb q=>(Heap.get?_update_other _ _ (Ne.symm hb)).trans q) ⟨_,e⟩ ?_
 exact⟨hz,its',n',r,e⟩
def Ec:V->V->V->Hp->(Hp->Prop)->Prop:=λo i v H Q=>∃ p xs k j,o=.ref p/\i=.int k/\H p=some (.lst xs)/\xa xs.length k=some j/\Q (upd H p (.lst (xs.set j v)))
theorem set_list:Jm X Ec:=by
 intro Me s σ H o i v ov iv u Q I ro ri rv h
 obtain⟨p,xs,k,j,rfl,rfl,hp,hj,q⟩:=h
 cases ro
 obtain⟨t,rfl⟩:=ri
 obtain⟨Mg,n,r,ho,hz⟩:=I.lst hp
 obtain⟨h1,h2,h3,h4⟩:=wy hj
 have hl:=r.length
 have hn:=kC
 have I':Inv X Me σ (upd H p (.lst (xs.set j v))) { s with heap:=s.heap.update p (Obj.mapSeq (·.setIfInBounds j u)) } :=
  I.GB hp ho (uZ Mg n j u) (r.set rv j) (by rw[List.length_set];exact hz) s.toks
 by_cases h0:0<=k
 ·have hk:k.toNat=j:=by
   rw[seqIndex_of h0 h4] at h1
   exact Option.some.inj h1
  exact PySem.W.ki_setAt ho h0 (by omega) (by rw[List.size_toArray,← hl];exact h4) (by rw[hk];exact⟨_,I',q⟩)
 ·have hk:(k+(Mg.toArray.size:Int)).toNat=j:=by
   rw[seqIndex_neg (by omega) h3] at h1
   rw[List.size_toArray,← hl]
   exact Option.some.inj h1
  exact PySem.W.ki_setBack ho (by omega) (by rw[List.size_toArray,← hl];exact h3) (by omega) (by rw[hk];exact⟨_,I',q⟩)
theorem qU(lo hi:Option Int)(n:Nat):(sliceBounds lo hi none n).1=((HT.dh n 0 lo:Nat):Int)/\(sliceBounds lo hi none n).2.1=((HT.dh n n hi:Nat):Int)/\(sliceBounds lo hi none n).2.2=1:=by
 refine⟨?_,?_,rfl⟩
 ·cases lo with
  | none=>simp[sliceBounds,HT.dh]
  | some i =>
   simp only[sliceBounds,HT.dh,Option.getD_none,show (1:Int)>0 by decide,if_true]
   by_cases h:i<0
   ·simp only[h,if_true] <;> omega
   ·simp only[h,if_false] <;> omega
 ·cases hi with
  | none=>simp[sliceBounds,HT.dh]
  | some i =>
   simp only[sliceBounds,HT.dh,Option.getD_none,show (1:Int)>0 by decide,if_true]
   by_cases h:i<0
   ·simp only[h,if_true] <;> omega
   ·simp only[h,if_false] <;> omega
theorem pA(Mg:List Value)(lo hi:Option Int):slicePick Mg.toArray lo hi none=((Mg.drop (HT.dh Mg.length 0 lo)).take (HT.dh Mg.length Mg.length hi-HT.dh Mg.length 0 lo)).toArray:=by
 obtain⟨h1,h2,h3⟩:=qU lo hi Mg.toArray.size
 unfold slicePick
 rw[h1,h2,h3]
 simp only[sliceRange_one,pick_run,List.size_toArray] <;> rfl
def JY(K:PySem.W.Frag):V->Option Int->Option Int->Hp->VK->Prop:=λx lo hi H Q=>∃ a xs,x=.ref a/\eI K H a xs/\∀ p,H p=none->Q (.ref p) (upd H p (.lst (tU xs lo hi)))
theorem Dk:BX X (JY X.K):=by
 intro Me s σ H x v vl vu lo hi sl Q I rx hs pl pu h
 obtain⟨a,xs,rfl,hx,q⟩:=h
 cases rx
 obtain⟨Mg,r,ht,hz⟩:=I.list hx
 have hlen:=r.length
 refine⟨"list", _,slot_list_getitem.lookup,ht.isList.typeIs,?_⟩
 refine wpAny_getItem_list_slice ht.isList hs pl pu .none (by simp) ?_ (by rw[List.size_toArray] <;> omega)
 rw[pA,← hlen]
 refine⟨.ref s.heap.objs.size,_,I.laid (t':=s.toks) (o:=.lst (tU xs lo hi)) (λb ob q=>Heap.get?_push_of_some _ q) (Nat.le_refl _) ?_,rfl,q _ (I.bu.fresh (Nat.le_refl _))⟩
 exact⟨Nat.le_trans (mr xs lo hi) hz,_,0,(r.drop (HT.dh xs.length 0 lo)).take (HT.dh xs.length xs.length hi-HT.dh xs.length 0 lo),Heap.get?_push_size _ rfl⟩
theorem qZ:cy X (.builtin "len") (λxs H Q=>∃ p ys,xs=[.ref p]/\(eI X.K H p ys\/gx X.K H p ys)/\Q (.int ys.length) H):=by
 intro Me s σ H xs us Q I r h
 obtain⟨p,ys,rfl,hq,q⟩:=h
 obtain⟨u,rfl,rx⟩:=vals1 r
 cases rx
 have hn:=kC
 rcases hq with hq | hq
 ·obtain⟨Mg,r',pl,hz⟩:=I.list hq
  have hlen:=r'.length
  exact Calls.call_len_list pl.isList (by simp only[List.size_toArray] <;> omega) ⟨.int ys.length,H,I.tok _,⟨s.toks+1,by rw[List.size_toArray,hlen]⟩,q⟩
 ·obtain⟨Mg,r',pl,hz⟩:=I.tuple hq
  have hlen:=r'.length
  exact len_tuple pl (by simp only[List.size_toArray] <;> omega) ⟨.int ys.length,H,I.tok _,⟨s.toks+1,by rw[List.size_toArray,hlen]⟩,q⟩
theorem sF:cy X (.builtin "len") (λxs H Q=>∃ z,xs=[.str z]/\z.length<=sizeLine/\Q (.int z.length) H):=by
 intro Me s σ H xs us Q I r h
 obtain⟨z,rfl,hz,q⟩:=h
 obtain⟨u,rfl,t,rfl⟩:=vals1 r
 have hn:=kC
 exact len_str (by omega) ⟨.int z.length,H,I.tok _,⟨_,rfl⟩,q⟩
theorem cy.or{f:Value}{r r':List V->Hp->VK->Prop}(h:cy X f r)(h':cy X f r'):cy X f (λxs H Q=>r xs H Q\/r' xs H Q):=by
 intro Me s σ H xs us Q I rs q
 rcases q with q | q
 ·exact h Me s σ H xs us Q I rs q
 ·exact h' Me s σ H xs us Q I rs q
theorem rQ:cy X (.type "list") (λxs H Q=>∃ p ys,xs=[.ref p]/\(eI X.K H p ys\/gx X.K H p ys)/\∀ l,H l=none->Q (.ref l) (upd H l (.lst ys))):=by
 intro Me s σ H xs us Q I r h
 obtain⟨p,ys,rfl,hq,q⟩:=h
 obtain⟨u,rfl,rx⟩:=vals1 r
 cases rx
 have fin:∀ (Mg:List Value),Vals ys Mg->ys.length<=sizeLine->∀ (h':Heap) (c':Nat),(∀ b o',s.heap.get? b=some o'->h'.get? b=some o') ->
   h'.get? s.heap.objs.size=some { cls:=.type "list", dict:=none,data:=.seq Mg.toArray c',slots:=#[] }->EP X Me σ Q (.ref s.heap.objs.size) { s with heap:=h' }:=λMg r' hz h' c' kp e =>
  ⟨.ref s.heap.objs.size,_,I.laid (t':=s.toks) kp (Nat.le_refl _) (show bx X.prog X.w _ h' _ (.lst ys) from ⟨hz,Mg,c',r',e⟩),rfl,q _ (I.bu.fresh (Nat.le_refl _))⟩
 rcases hq with hq | hq
 ·obtain⟨Mg,r',pl,hz⟩:=I.list hq
  have hlen:=r'.length
  obtain⟨o,ho,hc,n,hd⟩:=pl.isList
  exact call_list_seq p (.inl rfl) ho hc hd (λh' c' kp e=>fin Mg r' hz h' c' kp e) (by simp only[List.size_toArray] <;> omega)
 ·obtain⟨Mg,r',pl,hz⟩:=I.tuple hq
  have hlen:=r'.length
  obtain⟨o,ho,hc,n,hd⟩:=pl
  exact call_list_seq p (.inr rfl) ho hc hd (λh' c' kp e=>fin Mg r' hz h' c' kp e) (by simp only[List.size_toArray] <;> omega)
theorem pR:cy X (.type "tuple") (λxs H Q=>∃ p ys,xs=[.ref p]/\((eI X.K H p ys/\∀ l,H l=none->Q (.ref l) (upd H l (.tup ys)))\/(gx X.K H p ys/\Q (.ref p) H))):=by
 intro Me s σ H xs us Q I r h
 obtain⟨p,ys,rfl,h⟩:=h
 obtain⟨u,rfl,rx⟩:=vals1 r
 cases rx
 rcases h with ⟨hq,q⟩ | ⟨hq,q⟩
 ·obtain⟨Mg,r',pl,hz⟩:=I.list hq
  have hlen:=r'.length
  refine call_tuple_list pl.isList (λh' kp=>?_) (by simp only[List.size_toArray] <;> omega)
  have I1:Inv X Me σ H { s with heap:=h' }:=I.kept (t':=s.toks) kp
  have I2:Inv X Me σ (upd H h'.objs.size (.tup ys)) { s with heap:=h'.push { cls:=.type "tuple", data:=.seq Mg.toArray } } :=
   I1.laid (t':=s.toks) (λb o e=>Heap.get?_push_of_some _ e) (Nat.le_refl _) (show bx X.prog X.w _ _ _ (.tup ys) from ⟨hz,Mg,r',IsTup.new _ _⟩)
  exact⟨.ref h'.objs.size,_,I2,rfl,q _ (I1.bu.fresh (Nat.le_refl _))⟩
 ·obtain⟨Mg,r',pl,hz⟩:=I.tuple hq
  exact call_tuple_same pl ⟨.ref p,H,I,rfl,q⟩
def Lw(K:PySem.W.Frag)(T:String)(x:V)(H:Hp):Prop:=match x with
 | .str _=>T = "str"
 | .int _=>T = "int"
 | .ref p=>(T = "list" /\ ∃ xs,eI K H p xs)\/(T = "tuple" /\ ∃ o,K.lookup p=some o/\o.cls=.type "tuple" /\ o.dict=none) ∨
   (T = "dict" /\ ((∃ Mf,H p=some (.dK Mf))\/∃ Mf,H p=some (.dT Mf)))\/(T = "set" /\ ∃ S n,H p=some (.set S n))
 | _=>False
theorem FU{T:String}{x:V}{v:Value}(I:Inv X Me σ H s)(r:RelV x v)(ty:Lw X.K T x H) :
  s.TypeIs v T/\∀ a,v=.ref a->∃ ob,s.heap.get? a=some ob/\ob.dict=none:=by
 cases x with
 | str z =>
  obtain⟨t,rfl⟩:=r
  cases (show T = "str" from ty)
  exact⟨typeIs_str s z t,λ_ e=>nomatch e⟩
 | int i =>
  obtain⟨t,rfl⟩:=r
  cases (show T = "int" from ty)
  exact⟨typeIs_int s i t,λ_ e=>nomatch e⟩
 | ref p =>
  cases r
  rcases ty with ⟨rfl,xs,hq⟩ | ⟨rfl,o,hk,hc,hd⟩ | ⟨rfl,hk⟩ | ⟨rfl,S,n,hk⟩
  ·obtain⟨Mg,_,pl,_⟩:=I.list hq
   refine⟨pl.isList.typeIs,λa e=>?_⟩
   cases e
   obtain⟨o,n,e,c,hd,_⟩:=pl
   exact⟨o,e,hd⟩
  ·refine⟨⟨o,I.jt p o hk,hc⟩,λa e=>?_⟩
   cases e
   exact⟨o,I.jt _ o hk,hd⟩
  ·have z:∃ o,s.heap.get? p=some o/\o.ExactDict:=by
    rcases hk with ⟨Mf,hk⟩ | ⟨Mf,hk⟩
    ·obtain⟨_,_,_,_,o,_,_,e,ex,_⟩:=I.bu p _ hk
     exact⟨o,e,ex⟩
    ·obtain⟨_,_,_,_,o,_,_,e,ex,_⟩:=I.bu p _ hk
     exact⟨o,e,ex⟩
   obtain⟨o,e,ex⟩:=z
   refine⟨⟨o,e,ex.1⟩,λa e2=>?_⟩
   cases e2
   exact⟨o,e,ex.2.1⟩
  ·obtain⟨o,_,_,_,e,ex,_⟩:=I.bu p _ hk
   refine⟨⟨o,e,ex.1⟩,λa e2=>?_⟩
   cases e2
   exact⟨o,e,ex.2.1⟩
 | _=>exact False.elim ty
def LG(K:PySem.W.Frag)(T:String)(r:V->List V->Hp->VK->Prop)(to:TE)(t:TA):TE:=fun σ H Q=>to σ H λx H1=>Lw K T x H1/\t σ H1 λxs H2=>r x xs H2 Q
variable{o:Expr}{es:List Expr}{to:TE}{t:TA}{name:Str}{apos Mw:Pos}{T id:String}{r:V->List V->Hp->VK->Prop}
theorem Ep(pa:PlainAttrs T)(slot:Slot T name id)(hty:typeOf (.builtin id)=pure (.type "method_descriptor"))(hm:LV X id r)(ho:PE X o to)(ha:PA X (e::es) t)
  (Oh:autoParam (attributeBase o name X.env (eval o X.env)=eval o X.env) aR._auto_1)
  (O3:autoParam (((backTo Mw (starEach (e::es) X.env)).all (λx=>!x.1)&&(backToKw Mw (keywordEach [] X.env)).all (λx=>x.1.isSome)
   && decide ((e::es).length+([]:List Keyword).length+(if ([]:List Keyword).isEmpty then 0 else 1)<30))=true) aR._auto_1)
  (Ou:autoParam ((apos.endLine==Mw.line)=true) aR._auto_1) (hs:autoParam (starEach (e::es) X.env=(false,eval e X.env)::starEach es X.env) aR._auto_1) (NT:autoParam ((backTo Mw (starEach es X.env)).any (·.1)=false) aR._auto_1) :
  PE X (.Call (.Attribute o name apos) (e::es) [] Mw) (LG X.K T r to t):=by
 intro Me s σ H Q I h
 refine wpAny_Call_method_late Oh O3 Ou rfl (bT (ho Me s σ H _ I h) λv s1 ⟨x,H1,I1,r1,ty,q1⟩=>?_)
 obtain⟨h1,h2⟩:=FU I1 r1 ty
 refine⟨T,id,pa,slot,hty,h1,h2,?_⟩
 have hA:=ha Mw Me s1 σ H1 _ I1 q1
 rw[hs] at hA ⊢
 refine Calls.callWith_builtin (by show (false||(backTo Mw (starEach es X.env)).any (·.1))=false;rw[NT] <;> rfl) (Calls.evalArgs_plain ?_)
 exact bT hA λus s2 ⟨vs,H2,I2,r2,q2⟩=>hm Me s2 σ H2 x vs v us Q I2 r1 r2 q2
end
def L8(X:Cx)(id:String)(r:V->List V->Hp->VK->Prop):Prop :=
 ∀ (Me:List (Addr×Obj)) (s:Shared) (σ:St) (H:Hp) (x:V) (xs:List V) (v:Value) (us:List Value) (Q:VK),Inv X Me σ H s->RelV x v->Vals xs us->r x xs H Q ->
  wpAny (model X.prog X.w) X.A (call (.builtin id) (v::us)) (EP X Me σ Q) X.xe s
theorem Vals.one:∀ {x:V} {us:List Value},Vals [x] us->∃ u,us=[u]/\RelV x u
 | _,_,.cons r .nil=>⟨_,rfl,r⟩
theorem Vals.rep{xs:List V}{us:List Value}(h:Vals xs us):∀ k:Nat,Vals (List.replicate k xs).flatten (List.replicate k us).flatten
 | 0=>.nil
 | k+1=>by
  rw[List.replicate_succ,List.replicate_succ,List.flatten_cons,List.flatten_cons]
  exact Vals.append h (Vals.rep h k)
theorem foldl_rep(Mg:List Value):∀ (k:Nat) (acc:List Value),
  List.foldl (λx1 x2=>x1++x2) acc.toArray (List.replicate k Mg.toArray)=(acc++(List.replicate k Mg).flatten).toArray
 | 0,acc=>by simp
 | k+1,acc=>by
  have e:acc.toArray++Mg.toArray=(acc++Mg).toArray:=by simp
  have e2:(acc++Mg)++(List.replicate k Mg).flatten=acc++(List.replicate (k+1) Mg).flatten:=by
   rw[List.replicate_succ,List.flatten_cons,List.append_assoc]
  rw[← e2,← foldl_rep Mg k (acc++Mg),← e,List.replicate_succ,List.foldl_cons]
variable{b:Addr}
variable{t':Nat}
section
variable{l:Addr}{xs ys zs:List V}
theorem Inv.Ld{its':List Value}{f:Array Value->Array Value}(I:Inv X Me σ H s)(hH:H l=some (.lst xs))
  (e:s.heap.get? l=some { cls:=.type "list", data:=.seq Mg.toArray n }) (hf:f Mg.toArray=its'.toArray) (hv:Vals ys its') (hz:ys.length<=sizeLine) :
  Inv X Me σ (upd H l (.lst ys)) { s with heap:=s.heap.update l (Obj.mapSeq f),toks:=t' }:=by
 have q:=PySem.IsL.update e f
 rw[hf] at q
 refine I.write (x:=l) (e:=l) (by rw[hH];exact trivial) (.inl rfl) (λb' u hb hu=>(Heap.get?_update_other s.heap (Obj.mapSeq f) (Ne.symm hb)).trans hu) ⟨_,q⟩ ?_
 exact⟨hz,its',_,hv,q⟩
theorem Inv.IS(I:Inv X Me σ H s)(hv:Vals ys Mg)(hz:ys.length<=sizeLine) :
  Inv X Me σ (upd H s.heap.objs.size (.lst ys)) { s with heap:=s.heap.push { cls:=.type "list", data:=.seq Mg.toArray },toks:=t' } :=
 I.laid (λ_ _ q=>Heap.get?_push_of_some _ q) (Nat.le_refl _) ⟨hz,Mg,0,hv,Heap.get?_push_size _ rfl⟩
theorem Inv.fresh(I:Inv X Me σ H s):H s.heap.objs.size=none:=I.bu.fresh (Nat.le_refl _)
theorem Inv.DB(I:Inv X Me σ H s)(hH:H l=some (.lst xs)):xs.length<=sizeLine/\∃ (Mg:List Value) (n:Nat),Vals xs Mg/\xs.length=Mg.length/\s.heap.get? l=some { cls:=.type "list", data:=.seq Mg.toArray n }:=by
 obtain⟨z,Mg,n,r,e⟩:=I.bu l _ hH
 exact⟨z,Mg,n,r,r.length,e⟩
theorem zt(h:n<=sizeLine):Builtin.List.listTooLong n=false:=by
 unfold Builtin.List.listTooLong
 exact decide_eq_false (by omega)
end
def vZ:V->List V->Hp->VK->Prop:=λx vs H Q=>∃ l xs y,x=.ref l/\vs=[y]/\H l=some (.lst xs)/\xs.length<sizeLine/\Q .cL (upd H l (.lst (xs++[y])))
theorem mj:L8 X "list.append" vZ:=by
 intro Me s σ H x vs v us Q I rx rv h
 obtain⟨l,xs,y,rfl,rfl,hH,hz,q⟩:=h
 cases rx
 obtain⟨u,rfl,ru⟩:=rv.one
 obtain⟨z,Mg,n,r,hl,e⟩:=I.DB hH
 refine call_meets F.slot_list_append ⟨_,e,rfl⟩ F.entry_list_append (F.args_list_append_2 _ _) (PySem.list_append l Mg.toArray n u (by rw[List.size_toArray];omega)) ⟨e,?_⟩
 refine⟨.cL,_,I.Ld (its':=Mg++[u]) hH e (by simp) (r.append (.cons ru .nil)) ?_,rfl,q⟩
 rw[List.length_append,List.length_singleton]
 omega
def Ir:R2:=λx y H Q=>∃ l b xs zs,x=.ref l/\y=.ref b/\H l=some (.lst xs)/\H b=some (.lst zs)/\xs.length+zs.length<=sizeLine/\∀ p,H p=none->Q (.ref p) (upd H p (.lst (xs++zs)))
theorem E4:gc X (binaryOp .Add) Ir:=by
 intro Me s σ H x y v u Q I rx ry h
 obtain⟨l,b,xs,zs,rfl,rfl,hH,hB,hz,q⟩:=h
 cases rx
 cases ry
 obtain⟨z,Mg,n,r,hl,e⟩:=I.DB hH
 obtain⟨z2,NB,n2,r2,Nk,e2⟩:=I.DB hB
 refine PySem.P.add_list e e2 ?_ (by rw[List.size_toArray,List.size_toArray];omega)
 have ea:Mg.toArray++NB.toArray=(Mg++NB).toArray:=by simp
 rw[ea]
 exact⟨.ref _,_,I.IS (t':=s.toks) (r.append r2) (by rw[List.length_append];omega),rfl,q _ I.fresh⟩
def Ji:R2:=λx y H Q=>∃ l k xs,x=.ref l/\y=.int k/\H l=some (.lst xs)/\-(2^63)<=k/\k<2^63/\xs.length*k.toNat<=sizeLine ∧
 ∀ p,H p=none->Q (.ref p) (upd H p (.lst (List.replicate k.toNat xs).flatten))
theorem len_rep(xs:List α)(k:Nat):(List.replicate k xs).flatten.length=k*xs.length:=by
 induction k with
 | zero=>simp
 | succ k ih=>rw[List.replicate_succ,List.flatten_cons,List.length_append,ih,Nat.succ_mul,Nat.add_comm]
theorem FJ:gc X (binaryOp .Mult) Ji:=by
 intro Me s σ H x y v u Q I rx ry h
 obtain⟨l,k,xs,rfl,rfl,hH,h1,h2,hz,q⟩:=h
 cases rx
 obtain⟨t,rfl⟩:=ry
 obtain⟨z,Mg,n,r,hl,e⟩:=I.DB hH
 have hlen:Mg.toArray.size*k.toNat<=sizeLine:=by rw[List.size_toArray,← hl];exact hz
 have hcap:¬ Mg.toArray.size*k.toNat>(2^63-1)/8:=by
  have:(sizeLine:Nat)<=(2^63-1)/8:=by decide
  omega
 have hfit:¬ (!Builtin.List.listFitsIndex k)=true:=by
  rw[fitsIndex_both h1 h2]
  exact Bool.false_ne_true
 have PF:¬ Builtin.List.listTooLong (Mg.toArray.size*k.toNat)=true:=by
  rw[zt hlen]
  exact Bool.false_ne_true
 have Nl:List.foldl (λx1 x2=>x1++x2) #[] (List.replicate (if Mg.toArray.isEmpty=true then 0 else k.toNat) Mg.toArray)=(List.replicate k.toNat Mg).flatten.toArray:=by
  have f0:∀ m:Nat,List.foldl (λx1 x2=>x1++x2) #[] (List.replicate m Mg.toArray)=(List.replicate m Mg).flatten.toArray:=λm=>by
   have:=foldl_rep Mg m []
   rw[List.nil_append] at this
   exact this
  rw[f0]
  cases Mg with
  | nil=>simp
  | cons a r'=>rw[if_neg (by simp)]
 refine wpAny_binaryOp_repeat_ref (T := "list") (U := "int") (by decide) ⟨_,e,rfl⟩ (λs'=>typeIs_int s' k t) noFill_list_mul F.fills_int_mul F.slot_int_rmul repeat_list F.slot_int_index.lookup
  (call_meets F.slot_int_rmul (typeIs_int s k t) F.entry_int_rmul (F.args_int_rmul_2 _ _) (int___rmul___int_list k t l Mg.toArray n)
   ⟨e,rfl,⟨_,e,rfl⟩,call_meets F.slot_list_mul ⟨_,e,rfl⟩ F.entry_list_mul (F.args_list_mul_2 _ _) (AutoListH.list___mul___list_int_3 l Mg.toArray n k t hfit hcap PF) ⟨e,?_⟩⟩)
 rw[Nl]
 exact⟨.ref _,_,I.IS (t':=s.toks) (r.rep k.toNat) (by rw[len_rep,Nat.mul_comm];exact hz),rfl,q _ I.fresh⟩
variable{E:Value->Shared->Prop}{A:Around}{w:World}
section
variable{prog:Program}
end
variable{o:Option V}
variable{u:Value}{y:V}
section
variable{κ:Type}[DecidableEq κ]
def kA(Mf:List (κ×V))(k:κ):Option V:=(Mf.find? λkv=>decide (kv.1=k)).map (·.2)
def putK(Mf:List (κ×V))(k:κ)(v:V):List (κ×V) :=
 if (Mf.any λkv=>decide (kv.1=k))=true then Mf.map (λkv=>if kv.1=k then (kv.1,v) else kv) else Mf++[(k,v)]
theorem oG{p:κ×V}{r:List (κ×V)}{k:κ}(e:p.1=k):kA (p::r) k=some p.2:=by simp[kA,List.find?_cons,e]
theorem nN{p:κ×V}{r:List (κ×V)}{k:κ}(e:¬ p.1=k):kA (p::r) k=kA r k:=by simp[kA,List.find?_cons,e]
theorem lD(k:κ):∀ Mf:List (κ×V),(Mf.any λkv=>decide (kv.1=k))=(kA Mf k).isSome
 | []=>rfl
 | p::r=>by
  rw[List.any_cons]
  by_cases e:p.1=k
  ·simp only[oG e,decide_eq_true e,Bool.true_or,Option.isSome_some]
  ·rw[nN e,decide_eq_false e,Bool.false_or];exact lD k r
theorem mF(Mf:List (κ×V))(k:κ)(v:V):(putK Mf k v).length<=Mf.length+1:=by
 unfold putK
 split
 ·rw[List.length_map];omega
 ·rw[List.length_append,List.length_cons,List.length_nil];omega
theorem jA.me{u:Option Value}(r:jA o u):o.isSome=u.isSome:=by
 cases o with
 | none=>cases u with
  | none=>rfl
  | some _=>exact(show False from r).elim
 | some _=>cases u with
  | none=>exact(show False from r).elim
  | some _=>rfl
theorem KV.val{Mf:List (κ×V)}{vs:List (κ×Value)}(r:KV Mf vs)(k:κ):jA (kA Mf k) (valueAt vs k):=by
 unfold KV at r
 induction r with
 | nil=>exact True.intro
 | @cons p q ps qs h t ih =>
  obtain⟨h1,h2⟩:=h
  by_cases e:p.1=k
  ·have e':q.1=k:=h1.symm.trans e
   have b:valueAt (q::qs) k=some q.2:=by simp[valueAt,List.find?_cons,e']
   rw[oG e,b];exact h2
  ·have e':¬ q.1=k:=λz=>e (h1.trans z)
   have b:valueAt (q::qs) k=valueAt qs k:=by simp[valueAt,List.find?_cons,e']
   rw[nN e,b];exact ih
theorem KV.any{Mf:List (κ×V)}{vs:List (κ×Value)}(r:KV Mf vs)(k:κ):(Mf.any λkv=>decide (kv.1=k))=vs.any λkv=>decide (kv.1=k):=by
 unfold KV at r
 induction r with
 | nil=>rfl
 | cons h t ih=>rw[List.any_cons,List.any_cons,ih,h.1]
theorem KV.Fn{Mf:List (κ×V)}{vs:List (κ×Value)}(r:KV Mf vs)(k:κ)(ry:RelV y u) :
  KV (Mf.map λkv=>if kv.1=k then (kv.1,y) else kv) (vs.map λkv=>if kv.1=k then (kv.1,u) else kv):=by
 unfold KV at r ⊢
 induction r with
 | nil=>exact .nil
 | @cons p q ps qs h t ih =>
  rw[List.map_cons,List.map_cons]
  refine .cons ?_ ih
  obtain⟨h1,h2⟩:=h
  by_cases e:p.1=k
  ·rw[if_pos e,if_pos (h1.symm.trans e)];exact⟨h1,ry⟩
  ·rw[if_neg e,if_neg (λz=>e (h1.trans z))];exact⟨h1,h2⟩
theorem KV.put{Mf:List (κ×V)}{vs:List (κ×Value)}(r:KV Mf vs)(k:κ)(ry:RelV y u):KV (putK Mf k y) (stored vs k u):=by
 unfold putK stored
 rw[r.any k]
 by_cases e:(vs.any λkv=>decide (kv.1=k))=true
 ·rw[if_pos e,if_pos e];exact r.Fn k ry
 ·rw[if_neg e,if_neg e];exact Paired.snoc r ⟨rfl,ry⟩
theorem KV.length{Mf:List (κ×V)}{vs:List (κ×Value)}(r:KV Mf vs):Mf.length=vs.length:=Paired.length r
end
variable{P:Program}
theorem zD{k:Key}(r:RelV (kV k) u):(cv P w).is k u=true:=by
 cases k with
 | inl i=>obtain⟨t,e⟩:=(show ∃ t,u=Value.int i t from r);subst e;exact sI P w i t
 | inr x=>obtain⟨t,e⟩:=(show ∃ t,u=Value.str x t from r);subst e;exact sZ P w x t
theorem qk{P:Program}{w:World}:∀ {ks:List Key} {us:List Value},Vals (ks.map kV) us->ItemsAre (cv P w) ks us
 | [],_,r=>by rw[List.map_nil] at r;cases r;exact .nil
 | k::ks,_,r=>by
  rw[List.map_cons] at r
  cases r with
  | cons h t=>exact .cons (zD h) (qk t)
abbrev KT(H:Hp):List (List Key×V)->List (List Key×Addr×Value)->Prop:=Paired λp q=>p.1=q.1/\H q.2.1=some (.tup (p.1.map kV))/\RelV p.2 q.2.2
variable{xs:List (List Key×Addr×Value)}{Mf:List (List Key×V)}
theorem KT.val(r:KT H Mf xs)(k:List Key):jA (kA Mf k) ((atKey xs k).map (·.2)):=by
 induction r with
 | nil=>exact True.intro
 | @cons p q ps qs h t ih =>
  obtain⟨h1,_,h2⟩:=h
  by_cases e:p.1=k
  ·have e':q.1=k:=h1.symm.trans e
   have b:atKey (q::qs) k=some q.2:=by simp[atKey,List.find?_cons,e']
   rw[oG e,b];exact h2
  ·have e':¬ q.1=k:=λz=>e (h1.trans z)
   have b:atKey (q::qs) k=atKey qs k:=by simp[atKey,List.find?_cons,e']
   rw[nN e,b];exact ih
theorem KT.Fn(r:KT H Mf xs)(k:List Key)(ry:RelV y u) :
  KT H (Mf.map λkv=>if kv.1=k then (kv.1,y) else kv) (xs.map (putAt k u)):=by
 induction r with
 | nil=>exact .nil
 | @cons p q ps qs h t ih =>
  rw[List.map_cons,List.map_cons]
  refine .cons ?_ ih
  obtain⟨h1,h2,h3⟩:=h
  unfold putAt
  by_cases e:p.1=k
  ·rw[if_pos e,if_pos (h1.symm.trans e)];exact⟨h1,h2,ry⟩
  ·rw[if_neg e,if_neg (λz=>e (h1.trans z))];exact⟨h1,h2,h3⟩
theorem KT.put(r:KT H Mf xs)(k:List Key)(hb:H b=some (.tup (k.map kV)))(ry:RelV y u) :
  KT H (putK Mf k y) (storedH xs k b u):=by
 have e:(Mf.any λkv=>decide (kv.1=k))=(atKey xs k).isSome:=by
  rw[lD,(r.val k).me,Option.isSome_map]
 unfold putK storedH
 rw[e]
 by_cases q:(atKey xs k).isSome=true
 ·rw[if_pos q,if_pos q];exact r.Fn k ry
 ·rw[if_neg q,if_neg q];exact Paired.snoc r ⟨rfl,hb,ry⟩
variable{H':Hp}
theorem KT.keeps(r:KT H Mf xs)(ht:∀ b ys,H b=some (.tup ys)->H' b=some (.tup ys)):KT H' Mf xs :=
 Paired.Fh r λ_ _ z=>⟨z.1,ht _ _ z.2.1,z.2.2⟩
variable{a:Addr}
section
variable{h:Heap}
theorem Eb{u:HO}(ok:ke P w H h)(e:Rd H a u):bx P w H h a u:=e.ok ok
theorem D_{Mf:List (Key×V)}(ok:ke P w H h)(e:Rd H a (.dK Mf)):Mf.length<=sizeLine/\(a==sysModules)=false/\∃ vs,KV Mf vs/\h.DictOf (cv P w) a vs :=
 show bx P w H h a (.dK Mf) from Eb ok e
theorem IQ{Mf:List (Key×V)}(ok:ke P w H h)(e:H a=some (.dK Mf)):Mf.length<=sizeLine/\(a==sysModules)=false/\∃ vs,KV Mf vs/\h.DictOf (cv P w) a vs:=D_ ok (.inl e)
theorem sk{ks:List Key}(ok:ke P w H h)(e:H a=some (.tup (ks.map kV))):(tupleKind (cv P w)).is h ks a:=by
 obtain⟨_,Mg,r,o,h1,h2,n,h3⟩:=(show bx P w H h a (.tup (ks.map kV)) from ok a _ e)
 exact⟨o,Mg.toArray,n,h1,h2,h3,by simpa using qk r⟩
theorem D9(ok:ke P w H h)(e:Rd H a (.dT Mf)):Mf.length<=sizeLine/\(a==sysModules)=false ∧
  ∃ xs,KT H Mf xs/\h.DictOfH (tupleKind (cv P w)) a xs:=by
 obtain⟨z,y,xs,r,o,es,ep,h1,h2,h3,h4,h5⟩:=(show bx P w H h a (.dT Mf) from Eb ok e)
 refine⟨z,y,xs,r,o,es,ep,h1,h2,h3,h4,λx hx=>?_,h5⟩
 have all:∀ {l:List (List Key×V)} {m:List (List Key×Addr×Value)},KT H l m->∀ x∈m,(tupleKind (cv P w)).is h x.1 x.2.1:=by
  intro l m q
  induction q with
  | nil=>intro x hx;exact nomatch hx
  | @cons p q ps qs hq t ih =>
   intro x hx
   rcases List.mem_cons.mp hx with e | hx
   ·subst e
    exact sk ok (by rw[← hq.1];exact hq.2.1)
   ·exact ih x hx
 exact all r x hx
theorem Ew(ok:ke P w H h)(e:H a=some (.dT Mf)):Mf.length<=sizeLine/\(a==sysModules)=false ∧
  ∃ xs,KT H Mf xs/\h.DictOfH (tupleKind (cv P w)) a xs:=D9 ok (.inl e)
end
def z0(H:Hp)(a:Addr)(y:V)(r:Option V):Prop :=
 (∃ Mf k,Rd H a (.dK Mf)/\y=kV k/\r=kA Mf k)\/∃ Mf k b,Rd H a (.dT Mf)/\y=.ref b/\H b=some (.tup (k.map kV))/\r=kA Mf k
def A_(H:Hp)(a:Addr)(y v:V)(H':Hp):Prop :=
 (∃ Mf k,H a=some (.dK Mf)/\y=kV k/\Mf.length<sizeLine/\H'=upd H a (.dK (putK Mf k v))) ∨
 ∃ Mf k b,H a=some (.dT Mf)/\y=.ref b/\H b=some (.tup (k.map kV))/\Mf.length<sizeLine/\H'=upd H a (.dT (putK Mf k v))
variable{k:List Key}
theorem z0.t(e:H a=some (.dT Mf))(eb:H b=some (.tup (k.map kV))):z0 H a (.ref b) (kA Mf k):=.inr ⟨Mf,k,b,.inl e,rfl,eb,rfl⟩
theorem A_.t{v:V}(e:H a=some (.dT Mf))(eb:H b=some (.tup (k.map kV)))(hl:Mf.length<sizeLine) :
  A_ H a (.ref b) v (upd H a (.dT (putK Mf k v))):=.inr ⟨Mf,k,b,e,rfl,eb,hl,rfl⟩
variable{h':Heap}
section
variable{v:V}{r:Value}
theorem Inv.big(I:Inv X Me σ H s):sysModules<s.heap.objs.size:=by
 have h:mainGlobals<s.heap.objs.size:=(I.mod.glob.keeps I.bk).lt
 exact Nat.lt_trans (by decide) h
theorem Dz{Q:Value->Shared->Prop}(hu:A.units+1<cLine)(I:Inv X Me σ H s)(g:z0 H a y o)(ry:RelV y u)(h:∀ s',Inv X Me σ H s'->Q (.bool (!o.isSome)) s') :
  wpAny (model X.prog X.w) A (compareOp .NotIn u (.ref a)) Q E s:=by
 rcases g with ⟨Mf,k,e,ey,l⟩ | ⟨Mf,k,b,e,ey,eb,l⟩
 ·subst ey
  obtain⟨z,hd,vs,rel,dd⟩:=D_ I.bu e
  refine wpAny_notIn_of (zD ry) hd dd.mapOf ?_
  rw[← (rel.val k).me,← l]
  exact h _ (I.tok _)
 ·subst ey
  cases (show u=Value.ref b from ry)
  obtain⟨z,hd,xs,rel,dd⟩:=D9 I.bu e
  refine wpAny_notIn_heap (tupleKind_room_in1 hu) (sk I.bu eb) hd dd ?_
  have q:=(rel.val k).me
  rw[Option.isSome_map] at q
  rw[← q,← l]
  exact h _ (I.tok _)
theorem rL{ob:HO}(I:Inv X Me σ H s)(mu:Ip (H a))(hs:Heap.SameBut a s.heap h')(he:∃ q,h'.get? a=some q)(new:bx X.prog X.w (upd H a ob) h' a ob) :
  Inv X Me σ (upd H a ob) { s with heap:=h',toks:=t' } :=
 I.write (x:=a) (e:=a) mu (.inl rfl) (λb q hb z=>(hs.2 b hb).trans z) he new
theorem Fm{Mf:List (Key×V)}{vs:List (Key×Value)}(z:Mf.length<=sizeLine)(hd:(a==sysModules)=false)(rel:KV Mf vs)(dd:h'.DictOf (cv P w) a vs) :
  bx P w H' h' a (.dK Mf):=⟨z,hd,vs,rel,dd⟩
theorem xZ{Q:Unit->Shared->Prop}(hu:A.units+1<cLine)(I:Inv X Me σ H s)(g:A_ H a y v H')(ry:RelV y u)(rv:RelV v r)(h:∀ s',Inv X Me σ H' s'->Q () s') :
  wpAny (model X.prog X.w) A (setItem (.ref a) u r) Q E s:=by
 rcases g with ⟨Mf,k,e,ey,l,eH⟩ | ⟨Mf,k,b,e,ey,eb,l,eH⟩
 ·subst ey eH
  obtain⟨z,hd,vs,rel,dd⟩:=IQ I.bu e
  have hz:vs.length<=sizeLine:=by rw[← rel.length];exact z
  have hl:(putK Mf k v).length<=sizeLine:=by have:=mF Mf k v;omega
  refine wpAny_setItem_pairs (hsz:=hz) (zD ry) dd λh' Pj hs=>h _ ?_
  have he:∃ q,h'.get? a=some q:=let ⟨q,_,_,hq,_⟩:=Pj;⟨q,hq⟩
  exact rL I (by rw[e];exact True.intro) hs he (Fm hl hd (rel.put k rv) Pj)
 ·subst ey eH
  cases (show u=Value.ref b from ry)
  obtain⟨z,hd,xs,rel,dd⟩:=Ew I.bu e
  have hz:xs.length<=sizeLine:=by rw[← Paired.length rel];exact z
  have hl:(putK Mf k v).length<=sizeLine:=by have:=mF Mf k v;omega
  refine wpAny_setItem_heap (hsz:=hz) (tupleKind_room_in1 hu) (sk I.bu eb) dd λh' Pj hs=>h _ ?_
  obtain⟨q,es,ep,hq,h2,h3,h4,_,h5⟩:=Pj
  refine rL I (by rw[e];exact True.intro) hs ⟨q,hq⟩ ⟨hl,hd,_,(rel.put k eb rv).keeps λc ys ec=>?_,q,es,ep,hq,h2,h3,h4,h5⟩
  rw[ao (EM ec e (λz=>nomatch z))]
  exact ec
end
section
variable{Mf:List (Key×V)}{k:Key}
end
def wK(ty td:TE):TE:=fun σ H Q=>ty σ H λy H1=>td σ H1 λx H2=>∃ a o,x=.ref a/\z0 H2 a y o/\Q (.bl (!o.isSome)) H2
def BM(td ty tv:TE):TS:=λD σ H=>tv σ H λv H1=>td σ H1 λx H2=>ty σ H2 λy H3=>∃ a H4,x=.ref a/\A_ H3 a y v H4/\D.nx σ H4
section
variable{o i value:Expr}{pos pos' Pf:Pos}{td ty tv:TE}
theorem yc(hu:X.A.units+1<cLine)(hi:PE X i ty)(ho:PE X o td):PC X .NotIn i o (wK ty td):=by
 intro Me s σ H Q I h
 refine bT (hi Me s σ H _ I h) λiv s1 ⟨y,H1,I1,ry,q1⟩=>bT (ho Me s1 σ H1 _ I1 q1) λu s2 ⟨x,H2,I2,rx,a,ov,ex,g,q2⟩=>?_
 subst ex
 obtain rfl:u=Value.ref a:=rx
 exact Dz hu I2 g ry λs3 I3=>⟨.bl (!ov.isSome),H2,I3,rfl,q2⟩
theorem Ce(hu:X.A.units+1<cLine)(ho:PE X o td)(hi:PE X i ty)(hv:PE X value tv)(hs:swapsWith value (some (.Subscript o i pos')) pos.line X.env=pure false) :
  PS X (.Assign [.Subscript o i pos'] value pos) (BM td ty tv):=by
 intro Me s σ H D I h
 refine wpAny_Assign_Subscript (bT (hv Me s σ H _ I h) λr s1 ⟨v,H1,I1,rv,q1⟩=>bT (ho Me s1 σ H1 _ I1 q1) λu s2 ⟨x,H2,I2,rx,q2⟩=>bT (hi Me s2 σ H2 _ I2 q2) λiv s3 ⟨y,H3,I3,ry,a,H4,ex,g,q3⟩=>?_) hs
 subst ex
 obtain rfl:u=Value.ref a:=rx
 exact xZ hu I3 g ry rv λs4 I4=>⟨σ,H4,I4,q3⟩
end
theorem zv(h:Heap)(hb:sysModules<h.objs.size):bx P w H (h.push { cls:=.type "dict", data:=.dict #[] }) h.objs.size (.dT []) :=
 ⟨Nat.zero_le _,beq_eq_false_iff_ne.mpr (Ne.symm (Nat.ne_of_lt hb)),[],.nil,_,#[],0,Heap.get?_push_size _ rfl,⟨rfl,rfl,rfl⟩,rfl,rfl,List.nodup_nil⟩
section
variable{pos:Pos}
end
def vd:List (TE×TE)->St->Hp->(List (V×V)->Hp->Prop)->Prop
 | [],_,H,Q=>Q [] H
 | (tk,tv)::r,σ,H,Q=>tk σ H λx H1=>tv σ H1 λy H2=>vd r σ H2 λps H3=>Q ((x,y)::ps) H3
abbrev VV:List (V×V)->List (Value×Value)->Prop:=Paired λp q=>RelV p.1 q.1/\RelV p.2 q.2
def JX(X:Cx)(pos:Pos)(keys:List (Option Expr))(values:List Expr)(trs:List (TE×TE)):Prop :=
 ∀ (Me:List (Addr×Obj)) (s:Shared) (σ:St) (H:Hp) (Q:List (V×V)->Hp->Prop),Inv X Me σ H s->vd trs σ H Q ->
  wpAny (model X.prog X.w) X.A (evalPairs (pairTrees keys values X.env pos)) (λvs s'=>∃ ps H',Inv X Me σ H' s'/\VV ps vs/\Q ps H') X.xe s
theorem DW{pos:Pos}:JX X pos [] [] []:=λMe s σ H Q I h=>pairTrees_nil_walk ⟨[],H,I,.nil,h⟩
theorem yV{pos:Pos}{k v:Expr}{ks:List (Option Expr)}{vs:List Expr}{tk tv:TE}{trs:List (TE×TE)}(hk:PE X k tk)(hv:PE X v tv)(hr:JX X pos ks vs trs) :
  JX X pos (some k::ks) (v::vs) ((tk,tv)::trs):=λMe s σ H Q I h =>
 pairTrees_cons_walk (bT (hk Me s σ H _ I h) λu s1 ⟨x,H1,I1,rx,q1⟩=>bT (hv Me s1 σ H1 _ I1 q1) λw2 s2 ⟨y,H2,I2,ry,q2⟩ =>
  bT (hr Me s2 σ H2 _ I2 q2) λws s3 ⟨ps,H3,I3,rel,q3⟩=>⟨(x,y)::ps,H3,I3,.cons ⟨rx,ry⟩ rel,q3⟩)
section
variable{d:V}{r:Value}
end
section
variable{o f:Expr}{apos Mw:Pos}{td ty tx:TE}
end
section
variable{Mf:List (Key×V)}
end
end L2
namespace Att
open PySem PySem.W PySem.Calls PyProof.Rows
variable{h:Heap}{P:Params}
theorem mI:∀ (ns:List Int) (vs:List Value),WellAll P h vs (ns.map WData.int)->IntsAre vs ns:=by
 intro ns
 induction ns with
 | nil =>
  intro vs w
  rw[List.map_nil] at w
  cases w
  exact .nil
 | cons n ns ih =>
  intro vs w
  rw[List.map_cons] at w
  cases w with
  | cons a b =>
   cases a
   exact .cons _ _ (ih _ b)
theorem xM{l:OpenLaw}{n:Nat}(hn:l.most=some n){args:List WData}{vals:List Value}
  (yd:l.row.toRowW.claim.pre args=true) (hwl:WellAll P h vals args) :
  ∃ a vs ns,vals=[Value.ref a]/\args=[WData.list (ns.map WData.int)]/\h.get? a=some { cls:=.type "list", data:=.seq vs.toArray }/\IntsAre vs ns/\ns.length<=n:=by
 have PL:WShape.hasAll [] args [.list .int]=true:=(pre_splitW yd).1
 have hc:l.pre.holds [] { args:=args }=true:=(pre_splitW yd).2
 obtain⟨d,r,rfl,h1,h2⟩:=hasAllW_cons PL
 obtain rfl:=hasAllW_nil h2
 obtain⟨xs,rfl,h3⟩:=hasW_list h1
 obtain⟨ns,rfl⟩:=items_int h3
 have hlen:ns.length<=n:=by
  unfold OpenLaw.pre at hc
  have h4:(WTm.not (.lt (.lit (.int (n:Int))) (.len (.arg 0)))).holds [] { args:=[.list (ns.map .int)] }=true:=by
   have h4:=(holds_andW hc).1
   rw[hn] at h4
   exact h4
  have h5:=condW_of h4 (w_not (w_lt w_lit (w_len_list (w_arg rfl))))
  rw[List.length_map] at h5
  refine Nat.le_of_not_lt λq=>?_
  have q':(n:Int)<((ns.length:Nat):Int):=by omega
  first
   | (rw[decide_eq_true q'] at h5;exact absurd h5 (by decide))
   | (simp at h5;omega)
 cases hwl with
 | cons w1 w2 =>
  cases w2
  cases w1 with
  | list ho hall=>exact⟨_,_,ns,rfl,rfl,ho,mI ns _ hall,hlen⟩
theorem yF(l:OpenLaw)(args:List WData):l.row.toRowW.claim.post args (.bool true) args=true :=
 postW_of (r:=l.row.toRowW) (X:=(true==true))
  (show WShape.has [] (.bool true) .bool=true by first | rfl | decide | simp[WShape.has,WShape.arms,WShape.armsAll])
  (show (WTm.eq .res (.lit (.bool true))).value [] { args:=args,res:=some (.bool true),after:=args }=some (.bool (true==true)) from w_eq_bool (w_res rfl) w_lit) rfl
section
variable{prog:Program}{w:World}{A:Around}{E:Value->Shared->Prop}{s:Shared}{K:Frag}
end
end Att
namespace L2
open PySem PySem.Spec PyProof.Rows
theorem qu:∀ {vs:List Value} {ns:List Int},IntsAre vs ns->Vals (ns.map V.int) vs
 | _,_,.nil=>.nil
 | _,_,.cons n t h=>.cons ⟨t,rfl⟩ (qu h)
def Jd(H:Hp):Prop:=∀ b,H b=none\/∃ o xs,H b=some (.pT o (.lst xs))
variable{mg:Str->Option Value}{w:World}{P:Program}
theorem zJ{K:PySem.W.Frag}{mb:Str->Option Value}{CX:Hv}{k:Nat}{fa a:Addr}{fd:FuncData}{x:Str}{sp:Sp}{s₁:Shared}{vs:List Value}{ns:List Int}
  (KX:K.In s₁.heap) (hns:s₁.heap.Ns mainGlobals mg) (hb:s₁.heap.Ns builtinsNs mb) (hbb:∀ x:Str,x ≠ "__name__" -> mb x=bootBuiltins x) (hlim:s₁.heap.NoLimit) (hg:s₁.gens=#[])
  (ha:s₁.heap.get? a=some { cls:=.type "list", data:=.seq vs.toArray }) (hi:IntsAre vs ns) (hl:ns.length<=sizeLine) (hr:bP k callerA)
  (F:∀ base:Heap,K.In base->base.Ns mainGlobals mg->aW P w K mg base CX k fa fd [x] sp) (Pu:∀ (s:Shared) (u:Value),BindsTo s fd ⟨[u],[]⟩ [(x,u)])
  (hsp:∀ H:Hp,Jd H->eI K H a (ns.map V.int)->sp [.ref a] H (λv _=>v=.bl true) λ_ _ _=>False)
  (hCX:∀ H e s',CX [] H s₁ (λ_ _ _=>False) e s'->False) :
  codeAny (model P w) callerA (.call (.ref fa) ⟨[.ref a],[]⟩) (λr s'=>r=.ok (.ret (.bool true))/\OldK s₁.heap s'.heap/\s'.os=s₁.os/\AllBare s'.gens) s₁:=by
 have rv:=qu hi
 have lenV:=hi.length
 have core:∀ H:Hp,Jd H->eI K H a (ns.map V.int)->ke P w H s₁.heap->(∀ b,H b≠none->b=a)->(H a≠none->K.lookup a=none) ->
   codeAny (model P w) callerA (.call (.ref fa) ⟨[.ref a],[]⟩) (λr s'=>r=.ok (.ret (.bool true))/\OldK s₁.heap s'.heap/\s'.os=s₁.os/\AllBare s'.gens) s₁:=by
  intro H hO hS bu hA hK
  have N0:∀ {b:Addr} {o:Obj},s₁.heap.get? b=some o->H b=none->(rO s₁.heap H).get? b=some o:=λe n=>BK e n
  have kT:∀ {b:Addr} {o:Obj} {es:Array DictEntry} {ep:Nat},s₁.heap.get? b=some o->o.data=.dict es ep->H b=none:=λ{b o es ep} e d=>by
   cases q:H b with
   | none=>rfl
   | some u =>
    have e':b=a:=hA b (by rw[q];simp)
    subst e'
    rw[ha] at e;cases e
    have d':Data.seq vs.toArray _=Data.dict es ep:=d
    cases d'
  have nsK:∀ {b:Addr} {m:Str->Option Value},s₁.heap.Ns b m->(rO s₁.heap H).Ns b m:=λ{b m} ⟨o,es,ep,e,d,r⟩=>⟨o,es,ep,N0 e (kT e d),d,r⟩
  have hKb:K.In (rO s₁.heap H):=λb o e=>N0 (KX b o e) (by
   cases q:H b with
   | none=>rfl
   | some u =>
    have e':b=a:=hA b (by rw[q];simp)
    subst e'
    rw[hK (by rw[q];simp)] at e;cases e)
  have hM:Mod K mg (rO s₁.heap H):=⟨hKb,nsK hns,⟨mb,nsK hb,hbb⟩,let ⟨mc,h1,h2⟩:=hlim;⟨mc,nsK h1,h2⟩⟩
  have e0:vL P w K mg (rO s₁.heap H) callerA [] s₁ H:=⟨rfl,hM,λb o e=>CA e,Nat.le_of_eq (xP _ _),trivial,λb hb=>absurd (show b∈([]:List Addr) from hb) (by simp),bu,.of_eq hg⟩
  refine codeAny_mono ((F _ hKb (nsK hns)).run callerA [] s₁ H ⟨[.ref a],[]⟩ [.ref a] [.ref a] _ _ hr e0 (Pu s₁ (.ref a)) (.cons rfl .nil) (hsp H hO hS)) λr s' h=>?_
  cases r with
  | error e=>exact(hCX H e s' h).elim
  | ok fl =>
   cases fl with
   | next=>exact False.elim h
   | brk=>exact False.elim h
   | cont=>exact False.elim h
   | ret u =>
    obtain⟨v,H',os,bare,un,hok',r',q⟩:=h
    have q':v=.bl true:=q
    subst q'
    obtain rfl:u=Value.bool true:=r'
    refine⟨rfl,OldK.of_keep λb o e=>?_,os,bare⟩
    cases q:H b with
    | none=>exact un.keep b o e q (by intro z;exact absurd (show b∈([]:List Addr) from z) (by simp)) (by simp)
    | some u =>
     rcases hO b with z | ⟨ob,xs,z⟩
     ·rw[q] at z;cases z
     ·have z2:=un.kx b ob _ z
      obtain⟨e1,_⟩:=bu b _ z
      obtain⟨e2,_⟩:=hok' b _ z2
      rw[e] at e1;cases e1
      exact e2
 cases hk:K.lookup a with
 | some o =>
  have e:=KX a o hk
  rw[ha] at e
  cases e
  refine core (λ_=>none) (λ_=>.inl rfl) (.inr ⟨_,vs.toArray,_,hk,rfl,rfl,rfl,by rw[List.size_toArray,lenV];exact hl,by simpa using rv⟩) (λb u z=>by have z':(none:Option HO)=some u:=z;cases z') (λb z=>absurd rfl z) λz=>absurd rfl z
 | none =>
  refine core (λb=>if b=a then some (.pT { cls:=.type "list", data:=.seq vs.toArray } (.lst (ns.map V.int))) else none) (λb=>?_) (.inl (.inr ⟨{ cls:=.type "list", data:=.seq vs.toArray },if_pos rfl⟩)) (λb u z=>?_) (λb z=>?_) λ_=>hk
  ·by_cases hb:b=a
   ·exact .inr ⟨_,_,if_pos hb⟩
   ·exact .inl (if_neg hb)
  ·by_cases hb:b=a
   ·have z':=(if_pos hb).symm.trans z
    cases z'
    subst hb
    exact⟨ha,by rw[List.length_map];exact hl,vs,_,rv,ha⟩
   ·have z':=(if_neg hb).symm.trans z
    cases z'
  ·by_cases hb:b=a
   ·exact hb
   ·exact absurd (if_neg hb) z
def inClass(s:Stmt)(j:Nat):Stmt:=match s with
 | .ClassDef _ _ _ body _ _ _ _ _ _ _=>body.getD j (.Pass ⟨0,0,0,0⟩)
 | _=>.Pass ⟨0,0,0,0⟩
def gD(s:Stmt):Arguments:=match s with
 | .FunctionDef _ a _ _ _ _ _ _ _ _=>a
 | _=>{ posonlyargs:=[],args:=[],vararg:=none,kwonlyargs:=[],kw_defaults:=[],kwarg:=none,defaults:=[] }
def dw(s:Stmt):List Stmt:=match s with
 | .FunctionDef _ _ b _ _ _ _ _ _ _=>b
 | _=>[]
def aM(s:Stmt):Scope:=match s with
 | .FunctionDef _ _ _ _ _ _ sc _ _ _=>sc
 | _=>{ kind:=.function,names:=[],isGenerator:=false,isCoroutine:=false }
abbrev E0:XK:=λ_ _ _=>False
section
variable{K:PySem.W.Frag}{base:Heap}
end
theorem lN{n:Nat}(h:n<=1000):n<sizeLine:=Nat.lt_of_le_of_lt h (by decide)
section
variable{X:Cx}
end
def bf(H H':Hp):Prop:=∀ b o,H b=some o->H' b=some o
end L2
section
namespace HD
open PySem PySem.W L2
abbrev pw:Program:=PySem.Challenge.pw_dialvault_k33_normal_forms_of_pulls
noncomputable section
noncomputable def st(s:String)(t:Nat):Value:=.str (Str.ofString s) t
def en(P:Params)(s:String)(t:Nat)(v:Value):DictEntry:=⟨PyData.keyHash P (Str.ofString s),st s t,v⟩
def tu(xs:List Value):Obj:=⟨.type "tuple", none,.seq ⟨xs⟩ 0,⟨[]⟩⟩
def di(n:Nat)(es:List DictEntry):Obj:=⟨.type "dict", none,.dict ⟨es⟩ n,⟨[]⟩⟩
def tp(i:Nat):Stmt:=pw.main.body.getD i (.Pass ⟨0,0,0,0⟩)
def mp(i j:Nat):Stmt:=inClass (tp i) j
def co(a b:String)(t:Nat)(l n:Int)(x1 x2 x3 x4 x5:Nat)(u:Nat):Obj:=⟨.type "code", none,.fields ⟨[st a t,st b (t+1),st "/claim/cut.py" (t+2),.int l 0,.int n 0,.int 0 0,.int 0 0,.int 3 0,.ref x1,.bool true,.int 181 0,.ref x2,.none,.ref x3,.ref x4,.ref x5,.int u 0,.int l 0,st "/claim/cut.py" (u+1)]⟩,⟨[]⟩⟩
def ft(a b:String)(s:Stmt):Obj:=⟨.none,none,.func ⟨Str.ofString a,Str.ofString b,gD s,.stmts (dw s),aM s,0,[],.none,.none,.none,.none,none,.none,.none,0⟩,⟨[]⟩⟩
def fo(a b:String)(s:Stmt)(df pm:Value)(cd:Nat):Obj:=⟨.type "function", none,.func ⟨Str.ofString a,Str.ofString b,gD s,.stmts (dw s),aM s,3,[],df,.none,.none,pm,none,.ref cd,.none,0⟩,⟨[]⟩⟩
def Fp:List Obj->List Obj
 | []=>[]
 | [a]=>[a]
 | a::_::r=>a::Fp r
def bt:Nat->List Obj->BT
 | 0,_=>.nil
 | _+1,[]=>.nil
 | n+1,a::r=>.node a (bt n (Fp r)) (bt n (Fp (r.drop 1)))
def S(L:Params->List Obj)(n k:Nat)(w:World)(os:OsState):SharedT:=⟨bt 14 (L w.params),n,{},⟨[]⟩,⟨0,0,0,0⟩,k,os⟩
def F(L:Params->List Obj)(k:Nat)(w:World)(os:OsState):Shared:=⟨⟨⟨L w.params⟩,{}⟩,⟨[]⟩,⟨0,0,0,0⟩,k,os⟩
def cc(a:String)(t:Nat)(l:Int)(x y u:Nat):Obj:=⟨.type "code", none,.fields ⟨[st a t,st a (t+1),st "/claim/cut.py" (t+2),.int l 0,.int 0 0,.int 0 0,.int 0 0,.int 0 0,.ref x,.bool false,.int 181 0,.ref y,.none,.none,.none,.none,.int u 0,.int l 0,st "/claim/cut.py" (u+1)]⟩,⟨[]⟩⟩
def fr(a b:Nat)(s:String)(t:Nat):Obj:=⟨.type "frame", none,.plain,⟨[some (.ref a),some (.ref 3),some (.ref b),none,some (st s t),none,some (.ref 0)]⟩⟩
def su(a:Nat):Obj:=⟨.type "super", none,.fields ⟨[.ref a,.ref a,.ref a]⟩,⟨[]⟩⟩
def ii(a:Nat):Obj:=⟨.type "builtin_function_or_method", none,.fields ⟨[.builtin "object.__init_subclass__", .ref a]⟩,⟨[]⟩⟩
def v5:List Nat->List Value
 | a::b::c::r=>.int a 0::.int b 0::.ref c::v5 r
 | _=>[]
def fi(xs:List Nat):Obj:=⟨.none,none,.fields ⟨v5 xs⟩,⟨[]⟩⟩
def cl(n:Str)(bs ms:List Value)(k:Nat)(ss:List Value)(sl:List (Option Value)):Obj:=⟨.type "type", none,.cls ⟨n,bs,ms,k,n,true,[],ss,false,none,false⟩,⟨sl⟩⟩
def pt(L:List Obj)(us:List (Nat×Obj))(ns:List Obj):List Obj:=us.foldl (λl u=>l.set u.1 u.2) L++ns
abbrev b0:=boot_o_0
abbrev b1:=boot_o_1
abbrev b2:=boot_o_2
abbrev b3:=boot_o_3
abbrev b4:=boot_o_4
abbrev b5:=boot_o_5
abbrev b6:=boot_o_6
abbrev b7:=boot_o_7
abbrev b8:=boot_o_8
abbrev b9:=boot_o_9
abbrev LO:=boot_o_10
def m0:Value:=st "__main__" 164
def m1:Value:=st "dialvault.errors" 194
def m2:Value:=st "dialvault.wholes" 386
def m3:Value:=st "dialvault.vault" 428
def m4:Value:=st "dialvault.rungs" 598
def m5:Value:=st "dialvault.classes" 769
def m6:Value:=st "law_dialvault_k33_normal_forms_of_pulls" 779
def nl:List String->Nat->List Value
 | [],_=>[]
 | x::r,t=>st x t::nl r (t+1)
def fA(P:Params)(a t:Nat)(x q:String)(s:Stmt)(l n:Int)(vs:List String)(df pm:Value):List Obj:=[b7 P,b8 P,tu (nl vs (t+3)),b7 P,ft x q s,co x q t l n a (a+1) (a+2) (a+3) (a+4) (t+3+vs.length),fo x q s df pm (a+5)]
def fT(P:Params)(a t:Nat)(x:String)(s:Stmt)(l n:Int)(vs:List String)(pm:Value):List Obj:=fA P a t x x s l n vs .none pm
def fB(P:Params)(a t:Nat)(x q:String)(s:Stmt)(l n:Int)(df pm:Value):List Obj:=[b7 P,b8 P,ft x q s,⟨.type "code", none,.fields ⟨[st x t,st q (t+1),st "/claim/cut.py" (t+2),.int l 0,.int n 0,.int 0 0,.int 0 0,.int 3 0,.ref a,.bool true,.int 181 0,.ref (a+1),.none,.none,.none,.ref (a+2),.int (t+3) 0,.int l 0,st "/claim/cut.py" (t+4)]⟩,⟨[]⟩⟩,fo x q s df pm (a+3)]
def dB(P:Params)(n t:Nat)(m:Value)(l:Int)(r:List DictEntry):Obj:=di n (en P "__module__" t m::en P "__firstlineno__" (t+4) (.int l (t+3))::r)
def dA(P:Params)(n t:Nat)(m:Value)(x:String)(l:Int)(r:List DictEntry):Obj:=di n (en P "__module__" t m::en P "__qualname__" (t+2) (st x (t+1))::en P "__firstlineno__" (t+4) (.int l (t+3))::r)
def gw(t a:Nat):Obj:=⟨.type "getset_descriptor", none,.fields ⟨[st "__weakref__" t,.ref a,.builtin "ExceptionGroup.__weakref__", .none]⟩,⟨[]⟩⟩
def gd(t a:Nat):Obj:=⟨.type "getset_descriptor", none,.fields ⟨[st "__dict__" t,.ref a,.builtin "function.__dict__", .builtin "function.__dict__#set"]⟩,⟨[]⟩⟩
def ce(x:String)(b a k:Nat)(ss:List Value)(d t u:Nat):Obj:=cl x [.ref b] [.ref a,.ref b,.type "ValueError", .type "Exception", .type "BaseException", .type "object"] k ss [some (.ref d),none,some (st x t),some (st x u),some (.builtin "ValueError.__new__"),some (.bool true)]
def gl P:=[en P "__doc__" 166 .none,en P "__package__" 167 .none,en P "__loader__" 168 (.builtin "__main__.__loader__#opaque"),en P "__spec__" 169 .none,en P "__annotations__" 170 (.ref 6),en P "__builtins__" 171 (.ref 4),en P "__file__" 173 (st "/claim/cut.py" 172),en P "__cached__" 174 .none,en P "_wall" 193 (.ref 21),en P "VaultError" 220 (.ref 38),en P "NoDial" 252 (.ref 65),en P "NoLever" 284 (.ref 91),en P "NoPrice" 316 (.ref 117),en P "NoSetting" 339 (.ref 136),en P "NoPulls" 362 (.ref 155),en P "TooMany" 385 (.ref 174),en P "is_whole" 394 (.ref 183),en P "is_row" 400 (.ref 188),en P "common" 412 (.ref 195),en P "multiple_of" 421 (.ref 202),en P "unit_row" 427 (.ref 207),en P "MOST_DIALS" 431 (.int 6 430),en P "LEAST_SIZE" 433 (.int 2 432),en P "MOST_SIZE" 435 (.int 360 434),en P "MOST_LEVERS" 437 (.int 8 436),en P "LEAST_PRICE" 439 (.int 1 438),en P "MOST_PRICE" 441 (.int 1000 440),en P "Vault" 499 (.ref 251),en P "is_within" 508 (.ref 262),en P "need_sizes" 517 (.ref 269),en P "need_levers" 527 (.ref 276),en P "prices_for" 536 (.ref 283),en P "rests" 542 (.ref 288),en P "nought" 549 (.ref 295),en P "is_setting" 555 (.ref 300),en P "is_pulls" 563 (.ref 307),en P "need_setting" 571 (.ref 314),en P "need_pulls" 579 (.ref 321),en P "added" 585 (.ref 326),en P "turned" 597 (.ref 333),en P "mixed" 605 (.ref 338),en P "mixed_made" 617 (.ref 345),en P "unpulled" 625 (.ref 352),en P "pulled_once" 634 (.ref 359),en P "step_size" 644 (.ref 366),en P "taken_in" 659 (.ref 373),en P "lowered" 671 (.ref 380),en P "in_spans" 681 (.ref 387),en P "Rungs" 768 (.ref 456),en P "normal" 778 (.ref 467),en P "_law_cell" 788 (.ref 474),en P "_law_mixed" 797 (.ref 481),en P "_law_whole" 805 (.ref 488),en P "_law_same" 811 (.ref 493),en P "_law_free_sizes" 821 (.ref 500),en P "_law_sizes" 833 (.ref 507),en P "_law_digits" 843 (.ref 514),en P "_law_lever" 857 (.ref 521),en P "_law_sum" 863 (.ref 526),en P "_law_group" 869 (.ref 531),en P "_law_kept" 875 (.ref 536),en P "_law_pulls" 887 (.ref 543),en P "_law_led" 893 (.ref 548),en P "_law_good" 907 (.ref 555),en P "_law_refused" 917 (.ref 562),en P "law" 923 (.ref 567)]
def LA(P:Params):List Obj:=[b0 P,b1 P,b2 P,b3 P,b4 P,b5 P,b6 P,b7 P,b8 P,b9 P,LO P,b7 P,b8 P,cc "<module>" 182 1 11 12 185,fr 13 3 "__main__" 164]
def o9:Obj:=⟨.type "builtin_function_or_method", none,(.fields ⟨[.builtin "type.__prepare__", .type "type"]⟩),⟨[]⟩⟩
def L9:Obj:=gw 216 38
def HB:=tu [.ref 38]
def L0 P:=pt (LA P) [(3,di 15 (en P "__name__" 165 m1::(gl P).take 14)),(12,fi [1,0,20,5,0,27,9,0,47,16,0,73,23,0,99,30,0,125])] (fT P 15 187 "_wall" (tp 0) 1 1 ["k"] m0++([tu [.type "ValueError"],o9,dA P 5 203 m1 "VaultError" 5 [en P "word" 214 (.ref 35),en P "__static_attributes__" 215 (.ref 36)],b7 P,fi [7,4,34],cc "VaultError" 198 5 25 26 201,fr 27 24 "dialvault.errors" 194]++(fA P 29 208 "word" "VaultError.word" (mp 2 0) 7 1 ["self"] .none m1++([b7 P,dB P 3 203 m1 5 [en P "word" 214 (.ref 35),en P "__static_attributes__" 215 (.ref 36),en P "__weakref__" 217 (.ref 39),en P "__doc__" 218 .none],cl "VaultError" [.type "ValueError"] [.ref 38,.type "ValueError", .type "Exception", .type "BaseException", .type "object"] 37 [.ref 65,.ref 91,.ref 117,.ref 136] [some (.ref 22),none,some (st "VaultError" 196),some (st "VaultError" 204),some (.builtin "ValueError.__new__"),some (.bool true)],L9,su 38,ii 38,HB,o9,dA P 6 228 m1 "NoDial" 9 [en P "__init__" 240 (.ref 55),en P "word" 247 (.ref 62),en P "__static_attributes__" 249 (.ref 63)],b7 P,fi [11,4,54,14,4,61],cc "NoDial" 223 9 45 46 226,fr 47 44 "dialvault.errors" 194]++(fA P 49 233 "__init__" "NoDial.__init__" (mp 3 0) 11 2 ["self", "dial"] .none m1++(fA P 56 241 "word" "NoDial.word" (mp 3 1) 14 1 ["self"] .none m1++([tu [st "dial" 248],dB P 2 228 m1 9 [en P "__init__" 240 (.ref 55),en P "word" 247 (.ref 62),en P "__static_attributes__" 249 (.ref 63),en P "__doc__" 250 .none],ce "NoDial" 38 65 64 [] 42 221 229,su 65,ii 65,HB,o9,dA P 6 260 m1 "NoLever" 16 [en P "__init__" 272 (.ref 81),en P "word" 279 (.ref 88),en P "__static_attributes__" 281 (.ref 89)],b7 P,fi [18,4,80,21,4,87],cc "NoLever" 255 16 71 72 258,fr 73 70 "dialvault.errors" 194]++(fA P 75 265 "__init__" "NoLever.__init__" (mp 4 0) 18 2 ["self", "lever"] .none m1++(fA P 82 273 "word" "NoLever.word" (mp 4 1) 21 1 ["self"] .none m1++([tu [st "lever" 280],dB P 2 260 m1 16 [en P "__init__" 272 (.ref 81),en P "word" 279 (.ref 88),en P "__static_attributes__" 281 (.ref 89),en P "__doc__" 282 .none],ce "NoLever" 38 91 90 [] 68 253 261,su 91,ii 91,HB,o9,dA P 6 292 m1 "NoPrice" 23 [en P "__init__" 304 (.ref 107),en P "word" 311 (.ref 114),en P "__static_attributes__" 313 (.ref 115)],b7 P,fi [25,4,106,28,4,113],cc "NoPrice" 287 23 97 98 290,fr 99 96 "dialvault.errors" 194]++(fA P 101 297 "__init__" "NoPrice.__init__" (mp 5 0) 25 2 ["self", "lever"] .none m1++(fA P 108 305 "word" "NoPrice.word" (mp 5 1) 28 1 ["self"] .none m1++([tu [st "lever" 312],dB P 2 292 m1 23 [en P "__init__" 304 (.ref 107),en P "word" 311 (.ref 114),en P "__static_attributes__" 313 (.ref 115),en P "__doc__" 314 .none],ce "NoPrice" 38 117 116 [] 94 285 293,su 117,ii 117,HB,o9,dA P 5 324 m1 "NoSetting" 30 [en P "word" 335 (.ref 133),en P "__static_attributes__" 336 (.ref 134)],b7 P,fi [32,4,132],cc "NoSetting" 319 30 123 124 322,fr 125 122 "dialvault.errors" 194]++(fA P 127 329 "word" "NoSetting.word" (mp 6 0) 32 1 ["self"] .none m1++([b7 P,dB P 2 324 m1 30 [en P "word" 335 (.ref 133),en P "__static_attributes__" 336 (.ref 134),en P "__doc__" 337 .none],ce "NoSetting" 38 136 135 [] 120 317 325,su 136,ii 136])))))))))))))))
def J5:Obj:=gd 493 251
def K8:Obj:=gw 495 251
def L1 P:=pt (L0 P) [(3,di 43 (en P "__name__" 165 m4::(gl P).take 42)),(12,fi [1,0,20,5,0,27,9,0,47,16,0,73,23,0,99,30,0,125,34,0,144,38,0,163,43,0,182,45,0,187,49,0,194,60,0,201,65,0,206,74,0,213,95,0,261,97,0,268,105,0,275,111,0,282,120,0,287,122,0,294,124,0,299,129,0,306,131,0,313,134,0,320,137,0,325,140,0,332,148,0,337,150,0,344]),(38,cl "VaultError" [.type "ValueError"] [.ref 38,.type "ValueError", .type "Exception", .type "BaseException", .type "object"] 37 [.ref 65,.ref 91,.ref 117,.ref 136,.ref 155,.ref 174] [some (.ref 22),none,some (st "VaultError" 196),some (st "VaultError" 204),some (.builtin "ValueError.__new__"),some (.bool true)])] ([HB,o9,dA P 5 347 m1 "NoPulls" 34 [en P "word" 358 (.ref 152),en P "__static_attributes__" 359 (.ref 153)],b7 P,fi [36,4,151],cc "NoPulls" 342 34 142 143 345,fr 144 141 "dialvault.errors" 194]++(fA P 146 352 "word" "NoPulls.word" (mp 7 0) 36 1 ["self"] .none m1++([b7 P,dB P 2 347 m1 34 [en P "word" 358 (.ref 152),en P "__static_attributes__" 359 (.ref 153),en P "__doc__" 360 .none],ce "NoPulls" 38 155 154 [] 139 340 348,su 155,ii 155,HB,o9,dA P 5 370 m1 "TooMany" 38 [en P "word" 381 (.ref 171),en P "__static_attributes__" 382 (.ref 172)],b7 P,fi [40,4,170],cc "TooMany" 365 38 161 162 368,fr 163 160 "dialvault.errors" 194]++(fA P 165 375 "word" "TooMany.word" (mp 8 0) 40 1 ["self"] .none m1++([b7 P,dB P 2 370 m1 38 [en P "word" 381 (.ref 171),en P "__static_attributes__" 382 (.ref 172),en P "__doc__" 383 .none],ce "TooMany" 38 174 173 [] 158 363 371,su 174,ii 174]++(fT P 177 388 "is_whole" (tp 10) 43 1 ["thing"] m2++(fB P 184 395 "is_row" "is_row" (tp 11) 45 2 .none m2++(fT P 189 401 "common" (tp 12) 49 2 ["one", "other", "row", "behind", "times", "rest"] m2++(fT P 196 413 "multiple_of" (tp 13) 60 1 ["numbers", "multiple", "number"] m2++(fB P 203 422 "unit_row" "unit_row" (tp 14) 65 2 .none m2++([b7 P,o9,dA P 9 449 m3 "Vault" 74 [en P "__init__" 459 (.ref 220),en P "sizes" 466 (.ref 227),en P "levers" 473 (.ref 234),en P "prices" 480 (.ref 241),en P "around" 487 (.ref 248),en P "__static_attributes__" 492 (.ref 249)],b7 P,fi [76,4,219,84,4,226,87,4,233,90,4,240,93,4,247],cc "Vault" 444 74 211 212 447,fr 213 210 "dialvault.vault" 428,tu [.none]]++(fB P 216 454 "__init__" "Vault.__init__" (mp 22 0) 76 4 (.ref 215) m3++(fA P 221 460 "sizes" "Vault.sizes" (mp 22 1) 84 1 ["self"] .none m3++(fA P 228 467 "levers" "Vault.levers" (mp 22 2) 87 1 ["self"] .none m3++(fA P 235 474 "prices" "Vault.prices" (mp 22 3) 90 1 ["self"] .none m3++(fA P 242 481 "around" "Vault.around" (mp 22 4) 93 1 ["self"] .none m3++([tu [st "dial_sizes" 488,st "least_round" 489,st "lever_prices" 490,st "lever_settings" 491],dB P 4 449 m3 74 [en P "__init__" 459 (.ref 220),en P "sizes" 466 (.ref 227),en P "levers" 473 (.ref 234),en P "prices" 480 (.ref 241),en P "around" 487 (.ref 248),en P "__static_attributes__" 492 (.ref 249),en P "__dict__" 494 (.ref 252),en P "__weakref__" 496 (.ref 253),en P "__doc__" 497 .none],cl "Vault" [.type "object"] [.ref 251,.type "object"] 250 [] [none,none,some (st "Vault" 442),some (st "Vault" 450),some (.builtin "object.__new__"),some (.bool true)],J5,K8,su 251,ii 251]++(fT P 256 500 "is_within" (tp 23) 95 3 ["thing", "least", "most"] m3++(fT P 263 509 "need_sizes" (tp 24) 97 1 ["sizes", "dial", "size"] m3++(fT P 270 518 "need_levers" (tp 25) 105 2 ["levers", "dials", "place", "lever"] m3++(fT P 277 528 "prices_for" (tp 26) 111 2 ["levers", "prices", "place"] m3++(fB P 284 537 "rests" "rests" (tp 27) 120 2 .none m3++(fT P 289 543 "nought" (tp 28) 122 1 ["vault"] m3++(fB P 296 550 "is_setting" "is_setting" (tp 29) 124 2 .none m3++(fT P 301 556 "is_pulls" (tp 30) 129 2 ["vault", "thing"] m3++(fT P 308 564 "need_setting" (tp 31) 131 2 ["vault", "thing"] m3++(fT P 315 572 "need_pulls" (tp 32) 134 2 ["vault", "thing"] m3++(fB P 322 580 "added" "added" (tp 33) 137 4 .none m3++(fT P 327 586 "turned" (tp 34) 140 3 ["vault", "setting", "pulls", "reached", "lever", "times"] m3++(fB P 334 600 "mixed" "mixed" (tp 36) 148 4 .none m4++(fT P 339 606 "mixed_made" (tp 37) 150 5 ["sizes", "made", "times", "other", "others", "doing"] m4)))))))))))))))))))))))))))))))
def JN:Obj:=gd 762 456
def KQ:Obj:=gw 764 456
def L2 P:=pt (L1 P) [(3,di 67 (en P "__name__" 165 m6::gl P)),(12,fi [1,0,20,5,0,27,9,0,47,16,0,73,23,0,99,30,0,125,34,0,144,38,0,163,43,0,182,45,0,187,49,0,194,60,0,201,65,0,206,74,0,213,95,0,261,97,0,268,105,0,275,111,0,282,120,0,287,122,0,294,124,0,299,129,0,306,131,0,313,134,0,320,137,0,325,140,0,332,148,0,337,150,0,344,153,0,351,155,0,358,158,0,365,161,0,372,170,0,379,175,0,386,180,0,393,222,0,466,225,0,473,229,0,480,233,0,487,235,0,492,239,0,499,248,0,506,259,0,513,265,0,520,276,0,525,278,0,530,295,0,535,297,0,542,304,0,547,309,0,554,317,0,561,324,0,566])] (fT P 346 618 "unpulled" (tp 38) 153 2 ["vault", "setting"] m4++(fT P 353 626 "pulled_once" (tp 39) 155 2 ["vault", "lever", "levers"] m4++(fT P 360 635 "step_size" (tp 40) 158 3 ["sizes", "made_rows", "dial", "notch"] m4++(fT P 367 645 "taken_in" (tp 41) 161 3 ["sizes", "made_rows", "left", "wider", "dial", "made", "step", "notch", "found"] m4++(fT P 374 660 "lowered" (tp 42) 170 4 ["sizes", "made_rows", "made", "first", "dial", "times"] m4++(fT P 381 672 "in_spans" (tp 43) 175 2 ["pulls", "idle_rows", "lever", "row"] m4++([b7 P,o9,dA P 13 689 m4 "Rungs" 180 [en P "__init__" 699 (.ref 399),en P "steps" 706 (.ref 406),en P "rows" 713 (.ref 413),en P "spans" 720 (.ref 420),en P "idle" 727 (.ref 427),en P "brought_down" 735 (.ref 434),en P "least" 743 (.ref 441),en P "pulls_to" 749 (.ref 446),en P "weights_at" 757 (.ref 453),en P "__static_attributes__" 761 (.ref 454)],b7 P,fi [182,4,398,194,4,405,197,4,412,200,4,419,203,4,426,206,4,433,210,4,440,213,4,445,219,4,452],cc "Rungs" 684 180 391 392 687,fr 393 390 "dialvault.rungs" 598]++(fB P 395 694 "__init__" "Rungs.__init__" (mp 44 0) 182 2 .none m4++(fA P 400 700 "steps" "Rungs.steps" (mp 44 1) 194 1 ["self"] .none m4++(fA P 407 707 "rows" "Rungs.rows" (mp 44 2) 197 1 ["self"] .none m4++(fA P 414 714 "spans" "Rungs.spans" (mp 44 3) 200 1 ["self"] .none m4++(fA P 421 721 "idle" "Rungs.idle" (mp 44 4) 203 1 ["self"] .none m4++(fA P 428 728 "brought_down" "Rungs.brought_down" (mp 44 5) 206 2 ["self", "setting"] .none m4++(fA P 435 736 "least" "Rungs.least" (mp 44 6) 210 2 ["self", "setting"] .none m4++(fB P 442 744 "pulls_to" "Rungs.pulls_to" (mp 44 7) 213 2 .none m4++(fA P 447 750 "weights_at" "Rungs.weights_at" (mp 44 8) 219 2 ["self", "dial"] .none m4++([tu [st "idle_rows" 758,st "made_rows" 759,st "vault" 760],dB P 4 689 m4 180 [en P "__init__" 699 (.ref 399),en P "steps" 706 (.ref 406),en P "rows" 713 (.ref 413),en P "spans" 720 (.ref 420),en P "idle" 727 (.ref 427),en P "brought_down" 735 (.ref 434),en P "least" 743 (.ref 441),en P "pulls_to" 749 (.ref 446),en P "weights_at" 757 (.ref 453),en P "__static_attributes__" 761 (.ref 454),en P "__dict__" 763 (.ref 457),en P "__weakref__" 765 (.ref 458),en P "__doc__" 766 .none],cl "Rungs" [.type "object"] [.ref 456,.type "object"] 455 [] [none,none,some (st "Rungs" 682),some (st "Rungs" 690),some (.builtin "object.__new__"),some (.bool true)],JN,KQ,su 456,ii 456]++(fT P 461 771 "normal" (tp 46) 222 2 ["vault", "pulls"] m5++(fT P 468 781 "_law_cell" (tp 48) 225 2 ["_law_script", "_law_k"] m6++(fT P 475 789 "_law_mixed" (tp 49) 229 2 ["_law_cell_here", "_law_k", "_law_number"] m6++(fT P 482 798 "_law_whole" (tp 50) 233 2 ["_law_found", "_law_due"] m6++(fB P 489 806 "_law_same" "_law_same" (tp 51) 235 2 .none m6++(fT P 494 812 "_law_free_sizes" (tp 52) 239 2 ["_law_rest", "_law_most", "_law_sizes_here", "_law_room"] m6++(fT P 501 822 "_law_sizes" (tp 53) 248 2 ["_law_cell_here", "_law_most", "_law_sizes_here", "_law_room", "_law_k", "_law_top"] m6++(fT P 508 834 "_law_digits" (tp 54) 259 2 ["_law_rest", "_law_sizes_here", "_law_found", "_law_size"] m6++(fT P 515 844 "_law_lever" (tp 55) 265 2 ["_law_cell_here", "_law_sizes_here", "_law_by", "_law_far", "_law_lever_here", "_law_k", "_law_number", "_law_turns"] m6++(fB P 522 858 "_law_sum" "_law_sum" (tp 56) 276 3 .none m6++(fB P 527 864 "_law_group" "_law_group" (tp 57) 278 2 .none m6++(fB P 532 870 "_law_kept" "_law_kept" (tp 58) 295 2 .none m6++(fT P 537 876 "_law_pulls" (tp 59) 297 2 ["_law_cell_here", "_law_many", "_law_far", "_law_found", "_law_k", "_law_number"] m6++(fB P 544 888 "_law_led" "_law_led" (tp 60) 304 3 .none m6++(fT P 549 894 "_law_good" (tp 61) 309 5 ["_law_vault", "_law_rows", "_law_spans", "_law_pulls_here", "_law_sizes_here", "_law_found", "_law_times", "_law_span"] m6++(fT P 556 908 "_law_refused" (tp 62) 317 2 ["_law_vault", "_law_thing", "_law_kinds", "e"] m6++(fB P 563 918 "law" "law" (tp 63) 324 1 .none m6))))))))))))))))))))))))))))))))))
def LF(P:Params):=L2 P
def bE:List Stmt:=behindTheImports pw
def env:Env:={ scope:=pw.main.scope,locals:=mainNs,globals:=mainNs,cells:=[],code:=.ref 13,frame:=some 14 }
def cE:Code:=.body bE env
abbrev B:List Frame:=[topFrame ⟨0,0,0,0⟩]
abbrev ann:Option Value:=(some (.ref 6))
def Fb:List Stmt:=(bE.drop 0).take 7
def G0:List Stmt:=(bE.drop 7).take 31
def FD:List Stmt:=(bE.drop 38).take 26
end
theorem yd:∀ w:World,(λos=>topGo treeTable pw w 11 ann 12 ⟨boot_heap w.params,⟨[]⟩,boot_drawn,boot_toks,os⟩ (topStub pw))=λos=>some (F LA 187 w os,⟨denote treeTable cE,cE,⟨0,0,0,0⟩,B⟩):=λw=>by
 rw[PySem.W.Fast.te15667345088766844465,PySem.W.Fast.te14364793385576792824,PySem.W.Fast.te11892475500146522536]
 kernel_rfl
theorem JU:∀ w:World,(λos=>segRun treeTable pw w 11 ann 1 1 (F LA 187 w os) (blockOf bE env cE ⟨0,0,0,0⟩ B))=λos=>some (Flow.next,(S LA 15 187 w os).abs,cE,⟨0,0,0,0⟩):=λw=>by
 rw[PySem.W.Fast.te14374325043358763698,PySem.W.Fast.te14364793385576792824]
 kernel_rfl
theorem LS:∀ w:World,(λos=>segRunT treeTable pw w 11 ann 1 1326 (S LA 15 187 w os) (piecesOf Fb env cE ⟨0,0,0,0⟩ B))=λos=>some (Flow.next,S L0 139 340 w os,cE,⟨30,0,33,16⟩):=λw=>by
 rw[PySem.W.Fast.te10110043849684766642,PySem.W.Fast.te14364793385576792824]
 kernel_rfl
theorem Ma:∀ w:World,(λos=>segRunT treeTable pw w 11 ann 1 1476 (S L0 139 340 w os) (piecesOf G0 env cE ⟨30,0,33,16⟩ B))=λos=>some (Flow.next,S L1 346 618 w os,cE,⟨150,0,152,73⟩):=λw=>by
 rw[PySem.W.Fast.te10110043849684766642,PySem.W.Fast.te14364793385576792824]
 kernel_rfl
theorem Hy:∀ w:World,(λos=>segRunT treeTable pw w 11 ann 1 1196 (S L1 346 618 w os) (piecesOf FD env cE ⟨150,0,152,73⟩ B))=λos=>some (Flow.next,S L2 568 924 w os,cE,⟨324,0,337,115⟩):=λw=>by
 rw[PySem.W.Fast.te10110043849684766642,PySem.W.Fast.te14364793385576792824]
 kernel_rfl
theorem Gy:∀ w:World,(λos=>topRun treeTable pw w 11 ann 2 (S L2 568 924 w os).abs ⟨doneF .next,cE,⟨324,0,337,115⟩,B⟩)=λos=>some (F LF 924 w os):=λw=>by
 rw[PySem.W.Fast.te14082659384304107361,PySem.W.Fast.te14364793385576792824]
 kernel_rfl
theorem LN:bE=(Fb++(G0++(FD++[]))):=by kernel_rfl
theorem zL(w:World)(os:OsState):topRun treeTable pw w 11 ann (1326+(1476+(1196+2))) (S LA 15 187 w os).abs (restOf bE env cE ⟨0,0,0,0⟩ B)=some (F LF 924 w os):=by
 rw[show restOf bE env cE ⟨0,0,0,0⟩ B=restOf (Fb++(G0++(FD++[]))) env cE ⟨0,0,0,0⟩ B from congrArg (λb=>restOf b env cE ⟨0,0,0,0⟩ B) LN]
 exact piece_app (segRun_of (congrFun (LS w) os)) (piece_app (segRun_of (congrFun (Ma w) os)) (piece_app (segRun_of (congrFun (Hy w) os)) (piece_nil (congrFun (Gy w) os))))
theorem Ks(w:World)(os:OsState):topRun treeTable pw w 11 ann (12+(1+(1326+(1476+(1196+2))))) ⟨boot_heap w.params,⟨[]⟩,boot_drawn,boot_toks,os⟩ (topStub pw)=some (F LF 924 w os) :=
 go_top (congrFun (yd w) os) (piece_block (congrFun (JU w) os) (zL w os))
end HD
end
section
namespace HD
open PySem PySem.W L2
noncomputable section
def vw:Program:=PySem.W.view pw [0,2,3,4,5,6,7,8,10,11,12,13,14,16,17,18,19,20,21,22,23,24,25,26,27,28,29,30,31,32,33,34,36,37,38,39,40,41,42,43,44,46,48,49,50,51,52,53,54,55,56,57,58,59,60,61,62,63]
def loose:List Str:=[]
noncomputable def as:List Addr:=[2,3,15,17,18,20,21,22,29,31,32,34,35,36,37,38,39,42,49,51,52,54,55,56,58,59,61,62,63,64,65,68,75,77,78,80,81,82,84,85,87,88,89,90,91,94,101,103,104,106,107,108,110,111,113,114,115,116,117,120,127,129,130,132,133,134,135,136,139,146,148,149,151,152,153,154,155,158,165,167,168,170,171,172,173,174,177,179,180,182,183,184,187,188,189,191,192,194,195,196,198,199,201,202,203,206,207,215,216,219,220,221,223,224,226,227,228,230,231,233,234,235,237,238,240,241,242,244,245,247,248,249,250,251,252,253,256,258,259,261,262,263,265,266,268,269,270,272,273,275,276,277,279,280,282,283,284,287,288,289,291,292,294,295,296,299,300,301,303,304,306,307,308,310,311,313,314,315,317,318,320,321,322,325,326,327,329,330,332,333,334,337,338,339,341,342,344,345,346,348,349,351,352,353,355,356,358,359,360,362,363,365,366,367,369,370,372,373,374,376,377,379,380,381,383,384,386,387,395,398,399,400,402,403,405,406,407,409,410,412,413,414,416,417,419,420,421,423,424,426,427,428,430,431,433,434,435,437,438,440,441,442,445,446,447,449,450,452,453,454,455,456,457,458,461,463,464,466,467,468,470,471,473,474,475,477,478,480,481,482,484,485,487,488,489,492,493,494,496,497,499,500,501,503,504,506,507,508,510,511,513,514,515,517,518,520,521,522,525,526,527,530,531,532,535,536,537,539,540,542,543,544,547,548,549,551,552,554,555,556,558,559,561,562,563,566,567]
def K(P:Params):Frag:=as.map λa=>(a,(LF P).getD a (su 0))
def hook:Hook:=kHook K as (λ_=>by kernel_rfl)
abbrev rr:RowW:=(PySem.Challenge.rw_dialvault_k33_normal_forms_of_pulls.row).toRowW
def Xt:Shared->Bool:=λs=>xlAt vw [] s&&recOk (RowW.records rr) s
def H1(P:Params):Heap:=⟨⟨LF P⟩,{}⟩
end
theorem IY:∀ w:World,((boot_heap w.params).isNs mainGlobals&&(Array.mk []:Array GenState).size==0,(boot_heap w.params).objs.size,(boot_heap w.params).nsMap mainGlobals "__annotations__")=(true,11,ann):=λw=>by
 rw[PySem.W.Fast.te8920871248978507458]
 kernel_rfl
theorem Mc(w:World):staticsOk (importedModules pw.main.body) (boot_heap w.params) (H1 w.params)=true:=by
 first | (rw[PySem.W.Fast.te4187177175401517315,PySem.W.Fast.te5923862056798008813];kernel_rfl) | (rw[PySem.W.Fast.te4187177175401517315];kernel_rfl) | (rw[PySem.W.Fast.te5923862056798008813];kernel_rfl) | (kernel_rfl)
theorem LK(w:World):namesBound pw (H1 w.params)=true:=by
 first | (rw[PySem.W.Fast.te4187177175401517315,PySem.W.Fast.te5923862056798008813];kernel_rfl) | (rw[PySem.W.Fast.te4187177175401517315];kernel_rfl) | (rw[PySem.W.Fast.te5923862056798008813];kernel_rfl) | (kernel_rfl)
theorem LY(w:World)(os:_):gensDone ⟨H1 w.params,⟨[]⟩,⟨0,0,0,0⟩,924,os⟩=true:=by
 first | (rw[PySem.W.Fast.te4187177175401517315,PySem.W.Fast.te5923862056798008813];kernel_rfl) | (rw[PySem.W.Fast.te4187177175401517315];kernel_rfl) | (rw[PySem.W.Fast.te5923862056798008813];kernel_rfl) | (kernel_rfl)
theorem LW(w:World):laidKept (boot_heap w.params) (H1 w.params)=true:=by
 first | (rw[PySem.W.Fast.te4187177175401517315,PySem.W.Fast.te5923862056798008813];kernel_rfl) | (rw[PySem.W.Fast.te4187177175401517315];kernel_rfl) | (rw[PySem.W.Fast.te5923862056798008813];kernel_rfl) | (kernel_rfl)
theorem Mb(w:World)(os:_):openSeen vw loose (importedModules pw.main.body) Xt true ⟨H1 w.params,⟨[]⟩,⟨0,0,0,0⟩,924,os⟩=openGood vw loose:=by
 first | (rw[PySem.W.Fast.te4187177175401517315,PySem.W.Fast.te5923862056798008813];kernel_rfl) | (rw[PySem.W.Fast.te4187177175401517315];kernel_rfl) | (rw[PySem.W.Fast.te5923862056798008813];kernel_rfl) | (kernel_rfl)
theorem L_(w:World)(os:_):Hook.obs hook ⟨H1 w.params,⟨[]⟩,⟨0,0,0,0⟩,924,os⟩=Hook.val hook w:=by
 first | (rw[PySem.W.Fast.te4187177175401517315,PySem.W.Fast.te5923862056798008813];kernel_rfl) | (rw[PySem.W.Fast.te4187177175401517315];kernel_rfl) | (rw[PySem.W.Fast.te5923862056798008813];kernel_rfl) | (kernel_rfl)
theorem F7:∀ w:World,(λos=>((staticsOk (importedModules pw.main.body) (boot_heap w.params) (H1 w.params)&&namesBound pw (H1 w.params)&&gensDone ⟨H1 w.params,⟨[]⟩,⟨0,0,0,0⟩,924,os⟩&&laidKept (boot_heap w.params) (H1 w.params)),
  openSeen vw loose (importedModules pw.main.body) Xt true ⟨H1 w.params,⟨[]⟩,⟨0,0,0,0⟩,924,os⟩,Hook.obs hook ⟨H1 w.params,⟨[]⟩,⟨0,0,0,0⟩,924,os⟩))=λ_=>(true,openGood vw loose,Hook.val hook w):=λw=>funext λos=>by
 rw[Mc,LK,LY,LW,Mb,L_];rfl
theorem Iw:LeftO pw vw loose Xt (Hook.obs hook) (Hook.val hook) 8116 :=
 LeftO.of_pieces (H₀:=boot_heap) (H₁:=H1) (gs₀:=⟨[]⟩) (gs₁:=⟨[]⟩) (d₀:=boot_drawn) (d₁:=⟨0,0,0,0⟩) (k₀:=boot_toks) (k₁:=924) (m₀:=11) (ann:=ann) (M:=(12+(1+(1326+(1476+(1196+2))))))
  (boot_open (by kernel_rfl) (by kernel_rfl) (λs=>by kernel_rfl)) IY Ks (by kernel_rfl) F7
end HD
end
section
open PySem PySem.W
theorem HD.said:PySem.Challenge.rw_dialvault_k33_normal_forms_of_pulls.wellSaid=true:=by
 decide +kernel
end
namespace L2
open PySem PySem.Spec PyProof.Rows
variable{X:Cx}
variable{n:Nat}
def zc(_ j:Int):Prop:=j≠0/\j.natAbs.log2<9000
theorem yN:gc X (binaryOp .FloorDiv) (rI zc λi j=>.int (i.fdiv j)):=JB λ_ _ _ _ _ _ _ hc q=>floordiv_int hc.1 q (.inl (PyProof.noPylong_of_log2 hc.2))
theorem D5:gc X (binaryOp .Mult) (rI (λi j=>IntMulOk i j) λi j=>.int (i*j)):=JB λ_ _ _ _ _ _ _ hc q=>mul_int q hc
theorem Ar{a b:Int}{m:Nat}(ha:a.natAbs<2^m)(hb:b.natAbs<2^n)(h:m+n<=134217728):IntMulOk a b:=IntMulOk.of_le (intBits_le_iff.mpr ha) (intBits_le_iff.mpr hb) h
theorem rK:bootBuiltins "isinstance" = some (.builtin "isinstance"):=by decide +kernel
theorem AW:bootBuiltins "int" = some (.type "int"):=by decide +kernel
theorem sq:bootBuiltins "bool" = some (.type "bool"):=by decide +kernel
theorem ij:bootBuiltins "tuple" = some (.type "tuple"):=by decide +kernel
theorem se:bootBuiltins "list" = some (.type "list"):=by decide +kernel
theorem FC:bootBuiltins "sum" = some (.builtin "sum"):=by decide +kernel
def K2(K:PySem.W.Frag):List V->Hp->VK->Prop:=λxs H Q=>∃ x T t b,xs=[x,.ty T]/\jo K H x t/\PySem.W.kitOne K t (.type T)=some b/\Q (.bl b) H
def J0(K:PySem.W.Frag):List V->Hp->VK->Prop:=λxs H Q=>∃ x C t b,xs=[x,.ref C]/\jo K H x t/\PySem.W.kitOne K t (.ref C)=some b/\Q (.bl b) H
theorem tD:cy X (.builtin "isinstance") (K2 X.K):=by
 intro Me s σ H xs us Q I r h
 obtain⟨x,T,t,b,rfl,ty,e,q⟩:=h
 cases r with
 | cons r1 r2 =>
  cases r2 with
  | cons r3 r4 =>
   cases r4
   cases (show _=Value.type T from r3)
   exact qe I r1 ty e λtk=>⟨.bl b,H,I.tok tk,rfl,q⟩
theorem BJ:cy X (.builtin "isinstance") (J0 X.K):=by
 intro Me s σ H xs us Q I r h
 obtain⟨x,C,t,b,rfl,ty,e,q⟩:=h
 cases r with
 | cons r1 r2 =>
  cases r2 with
  | cons r3 r4 =>
   cases r4
   cases (show _=Value.ref C from r3)
   exact qe I r1 ty e λtk=>⟨.bl b,H,I.tok tk,rfl,q⟩
section
variable(K:PySem.W.Frag)
end
variable{a:Addr}{ch:List Addr}{t':Nat}{h':Heap}{s:Shared}{H:Hp}{σ:St}{Me:List (Addr×Obj)}
variable{x1:Nat}{elts:List Expr}{w:World}{P:Program}
theorem Inv.j5{o:HO}(I:Inv X Me σ H s)(k:∀ b u,b ∉ ch->s.heap.get? b=some u->h'.get? b=some u)
  (NK:∀ b∈ch,k6 X Me H b) (hp:s.heap.objs.size<=a) (hl:∀ b∈ch,∃ u,s.heap.get? b=some u) (new:bx X.prog X.w (upd H a o) h' a o):Inv X Me σ (upd H a o) { s with heap:=h',toks:=t' }:=by
 have ne:∀ b u,s.heap.get? b=some u->b≠a:=λb u e=>Nat.ne_of_lt (Nat.lt_of_lt_of_le (Heap.lt_size e) hp)
 have Oq:H a=none:=I.bu.fresh hp
 have OE:∀ b u,H b=some u->b ∉ ch:=λb u e z=>by rw[(NK b z).1] at e;cases e
 have OD:∀ b u,H b=some u->b≠a:=λb u e z=>by rw[z,Oq] at e;cases e
 refine I.step (g':=s.gens) (d':=s.drawn) (ch:=ch) (λb hb=>?_) (λb u _ _ hc e _=>k b u hc e) (λb u _ _ hc e _=>⟨u.slots,k b u hc e⟩)
  (λb u _ e n=>by rw[ao (ne b u e)];exact n) (λb u hc e=>⟨u,k b u hc e⟩)
  (λb xs e=>by rw[ao (OD b _ e)];exact e) (λb ob u e=>by rw[ao (OD b _ e)];exact e) (λb ps e=>⟨#[],by rw[ao (OD b _ e),e];simp⟩) (λm hm=>?_) (λb u e=>?_) I.bare
 ·obtain⟨_,f1,_,f3,f4,f5⟩:=NK b hb
  exact⟨f3,f1,f4,f5⟩
 ·obtain⟨ob,es,ep,ho,r⟩:=hm
  exact⟨ob,es,ep,k _ ob (λz=>(NK _ z).2.1 rfl) ho,r⟩
 ·by_cases z:b=a
  ·subst z
   rw[az] at e
   cases e
   exact new
  ·rw[ao z] at e
   refine(I.bu b u e).lj (λc v hc q=>k c v ?_ q) (λc q=>?_) λc ys q=>?_
   ·rcases hc with z' | z'
    ·rw[z'];exact OE b u e
    ·exact OE c _ z'
   ·rw[ao (OD c _ q)];exact q
   ·rw[ao (OD c _ q)];exact q
def E1 (K : PySem.W.Frag) (a : Addr) : It :=
  ⟨λi H => ∃ xs x, eI K H a xs /\ xs[i]? = some x,
   λi H y H' => ∃ p x, H p = none /\ y = .ref p /\ H' = upd H p (.tup [.int i, x]) /\ ∀ xs, eI K H a xs -> xs[i]? = some x,
   λi H => ∃ xs, eI K H a xs /\ xs.length <= i⟩
theorem xV{K:PySem.W.Frag}{tp:Pos}(a e it:Addr)(Ob:e≠it):Turn P w K (.Tuple elts x1 tp) (E1 K a) [e,it] e (λi h=>(∃ old,IsEnum h e it i old)/\h.IsListIter it a i) where
 mem:=by simp
 obj:=λi h st b hb=>by
  obtain⟨⟨old,he⟩,⟨o,e1,c,d⟩⟩:=st
  rcases List.mem_cons.mp hb with z | z
  ·subst z
   exact⟨_,he,λv z=>by cases z⟩
  ·have z':b=it:=by simpa using z
   subst z'
   exact⟨o,e1,λv z=>by rw[d] at z;cases z⟩
 keep:=λi h h' st k=>by
  obtain⟨⟨old,he⟩,hit⟩:=st
  exact⟨⟨old,k e (by simp) _ he⟩,hit.at λo x=>k it (by simp) o x⟩
 item:=by
  intro X hP hw hK hc i Me s σ H E I hf st hg
  subst hP hw hK
  obtain⟨xs,x,hq,hx⟩:=hg
  obtain⟨Mg,rv,p,hz⟩:=I.list hq
  obtain⟨u,hu,ru⟩:=rv.get hx
  obtain⟨⟨old,he⟩,hit⟩:=st
  have Oo:e<s.heap.objs.size:=Heap.lt_size he
  have O4:it<s.heap.objs.size:=by obtain⟨_,z,_⟩:=hit;exact Heap.lt_size z
  refine wpAny_pyNext_enum_item he hit p.isList (x:=u) (by simpa using hu) Ob λh' ho O5 hT hsz hk=>⟨_,rfl,?_⟩
  refine wpAny_letOwnedTupleGo_enum (s:={ s with heap:=h',toks:=s.toks+1 }) ho λh2 he2 Nm=>?_
  have OA:∀ b o,b ∉ [e,it]->s.heap.get? b=some o->h2.get? b=some o:=λb o hb q=>by
   have n1:b≠e:=λz=>hb (by simp[z])
   have n2:b≠it:=λz=>hb (by simp[z])
   exact(Nm.2 b n1).trans (hk b o n1 n2 q)
  have OI:h2.get? s.heap.objs.size=some { cls:=.type "tuple", data:=.seq #[.int i s.toks,u] }:=(Nm.2 _ (Nat.ne_of_gt Oo)).trans hT
  have I2:Inv X Me σ (upd H s.heap.objs.size (.tup [.int i,x])) { s with heap:=h2,toks:=s.toks+1 } :=
   I.j5 (ch:=[e,it]) OA hf (Nat.le_refl _) (λb hb=>by
    rcases List.mem_cons.mp hb with z | z
    ·subst z;exact⟨_,he⟩
    ·have z':b=it:=by simpa using z
     subst z'
     obtain⟨o,z,_⟩:=hit
     exact⟨o,z⟩)
    ⟨by show 2<=sizeLine;decide,[.int i s.toks,u],.cons ⟨_,rfl⟩ (.cons ru .nil),⟨_,OI,rfl,_,rfl⟩⟩
  have Nl:H s.heap.objs.size=none:=I.bu.fresh (Nat.le_refl _)
  refine⟨.ref s.heap.objs.size,_,I2,rfl,⟨_,x,Nl,rfl,rfl,λys hy=>by rw[I.oC hy hq];exact hx⟩,⟨⟨u,by simpa using he2⟩,O5.at λo z=>(Nm.2 it (Ne.symm Ob)).trans z⟩,λb hb=>?_⟩
  have nb:b≠s.heap.objs.size:=by
   rcases List.mem_cons.mp hb with z | z
   ·rw[z];exact Nat.ne_of_lt Oo
   ·have z':b=it:=by simpa using z
    rw[z'];exact Nat.ne_of_lt O4
  rw[ao nb]
  exact(hf b hb).1
 done:=by
  intro X hP hw hK hc i Me s σ H E I hf st hg
  subst hP hw hK
  obtain⟨xs,hq,hx⟩:=hg
  obtain⟨Mg,rv,p,hz⟩:=I.list hq
  have hl:=rv.length
  obtain⟨⟨old,he⟩,hit⟩:=st
  obtain⟨f0,f1,f2,f3,f4,f5⟩:=hf it (by simp)
  exact wpAny_pyNext_enum_end (I.ok.hd hc) he hit p.isList (by simp;omega) λh' eb=>⟨rfl,I.turned (t':=s.toks) (λb o hb e=>eb b o hb e) f0 f1 f3 f4 f5⟩
 self:=λ_ _ _ _ _ st h=>by
  obtain⟨⟨old,he⟩,_⟩:=st
  exact wpAny_pyIter_enum he h
variable{A:Around}{prog:Program}
variable{scope:Scope}{ifs:List Expr}{elt iter:Expr}
section
variable{R:Result->Shared->Prop}
theorem xS{target:Expr}{pos:Pos}{it acc:Value}{env:Env}(I:Nat->Shared->Prop)
  (turn:∀ n s,I n s->wpAny (model prog w) A (pyNext it) (λr s₁=>match r with
   | none=>R (.ok .next) s₁
   | some v=>wpAny (model prog w) A (letOwnedTupleGo target it v) (λ_ s₂=>wpAny (model prog w) A (assign target env v) (λ_ s₃ =>
     wpAny (model prog w) A (forIn ifs true λc r=>if r=true then do let ok ← isTrue c env (eval c env);pure (ForInStep.yield ok) else pure (ForInStep.yield r)) (λok s₄ =>
      if ok=true then wpAny (model prog w) A (eval elt env) (λx s₅ =>
       wpAny (model prog w) A (call (.builtin "list.append") [acc,x]) (λ_ s₆=>∃ m,m<n/\I m s₆) (λ_ _=>False) s₅) (λ_ _=>False) s₄
      else ∃ m,m<n/\I m s₄) (λ_ _=>False) s₃) (λ_ _=>False) s₂) (λ_ _=>False) s₁) (λ_ _=>False) s)
  (n:Nat) (h:I n s) :
  codeAny (model prog w) A (.compLoop (.ListComp elt [⟨target,iter,ifs,0⟩] scope pos) 0 it acc env) R s:=by
 refine codeAny_loop rfl I (λn s hI=>?_) n h
 show wpAny _ A ((compTurn (.ListComp elt [⟨target,iter,ifs,0⟩] scope pos) 0 it acc env).onRaise (λx=>do noteFrame x env;theTreesLotGoes x)) _ _ s
 refine wpAny_noted ?_
 rw[compTurn_list]
 refine wpAny_bind (wpAny_standAt (wpAny_bind (wpAny_mono (turn n s hI) (λr s₁ h₁=>?_) λ_ _ h'=>h'.elim)))
 cases r with
 | none=>exact wpAny_pure h₁
 | some v =>
  refine wpAny_bind (wpAny_mono h₁ (λ_ s₂ h₂=>wpAny_bind (wpAny_mono h₂ (λ_ s₃ h₃=>wpAny_bind (wpAny_mono h₃ (λok s₄ h₄=>?_) λ_ _ h'=>h'.elim)) λ_ _ h'=>h'.elim)) λ_ _ h'=>h'.elim)
  cases ok with
  | false=>exact wpAny_pure ⟨rfl,h₄⟩
  | true =>
   exact wpAny_bind (wpAny_bind (wpAny_mono h₄ (λx s₅ h₅=>wpAny_bind (wpAny_mono h₅ (λ_ s₆ h₆=>wpAny_pure (wpAny_pure ⟨rfl,h₆⟩)) λ_ _ h'=>h'.elim)) λ_ _ h'=>h'.elim))
end
def pf(X:Cx)(scope:Scope)(cl:List (Str×Addr))(N:List Str)(C:Addr)(s₀:Shared)(H₀:Hp)(ex:List Addr)(Me:List (Addr×Obj)):Cx :=
 { X with N:=N,s₀:=s₀,H₀:=H₀,env:=compEnvC scope cl C X.env,outer:=X.stack,stack:=X.stack,ex:=ex,fn:=λ_=>false,pn:=X.pn++Me,xe:=λ_ _=>False }
inductive iy (X:Cx) (sc:Scope) (cl:List (Str×Addr)):List Str->List Nat->Prop where
 | nil:iy X sc cl [] []
 | cons {x:Str} {j:Nat} {c:Addr} {fs:List Str} {js:List Nat} (hN:X.N[j]?=some x) (hf:sc.names.lookup x=some .free) (hv:X.env.kindOf x=some .cell\/X.env.kindOf x=some .free) (hc:X.env.cells.lookup x=some c) (hl:cl.lookup x=some c) (r:iy X sc cl fs js):iy X sc cl (x::fs) (j::js)
inductive eo (X:Cx):List (Str×Addr)->Prop where
 | nil:eo X []
 | cons {x:Str} {c:Addr} {r:List (Str×Addr)} (h:X.env.cells.lookup x=some c) (t:eo X r):eo X ((x,c)::r)
theorem eo.at{X:Cx}:∀ {cl:List (Str×Addr)},eo X cl->∀ x c,cl.lookup x=some c->X.env.cells.lookup x=some c
 | _,.nil,_,_,e=>by simp at e
 | _,.cons (x:=y) (c:=d) h t,x,c,e=>by
  rw[List.lookup_cons] at e
  cases q:x==y with
  | true =>
   rw[q] at e
   have e':d=c:=Option.some.inj e
   have q':x=y:=by simpa using q
   rw[q',← e'];exact h
  | false =>
   rw[q] at e
   exact eo.at t x c e
def gK(cl:List (Str×Addr))(names:List (Str×NameKind)):Bool:=names.all λy=>y.2 != .free||(cl.lookup y.1).isSome
def fI(names:List (Str×NameKind)):Bool:=names.all λy=>y.2 != .cell
def gR(names:List (Str×NameKind)):Bool:=names.all λy=>y.2 != .local||(names.lookup y.1==some .local)
def eZ(ts:List Str)(js:List Nat)(σ:St):St:=ts.map (λ_=>none)++js.map λj=>(σ[j]?).join
def Ab(wi:TI)(g:TG)(tt:Option TT)(te:TE)(ts:List Str)(js:List Nat):TE:=fun σ H Q=>wi σ H λJ H1=>∀ D,H1 D=none ->
 ∃ W:Nat->Nat->St->Hp->Prop,(∃ m,W 0 m (eZ ts js σ) (upd H1 D (.lst [])))/\∀ i m σ' H',W i m σ' H' ->
  (J.stop i H'/\Q (.ref D) H')\/(J.go i H'/\∃ N:St->Hp->Prop,(∀ σ'' H'',N σ'' H''->∃ m',m'<m/\W (i+1) m' σ'' H'') ∧
   ∀ x H2,J.uu i H' x H2->g x σ' H2 fun σ2 H3=>match tt with
    | none=>te σ2 H3 λy H4=>∃ ys,H4 D=some (.lst ys)/\ys.length<sizeLine/\N σ2 (upd H4 D (.lst (ys++[y])))
    | some t=>t σ2 H3 λb Pn=>if b=true then te σ2 Pn λy H4=>∃ ys,H4 D=some (.lst ys)/\ys.length<sizeLine/\N σ2 (upd H4 D (.lst (ys++[y]))) else N σ2 Pn)
variable{x:Str}{C:Addr}
theorem nQ {cl : List (Str × Addr)} {env : Env} (h : (compEnvC scope cl C env).kindOf x = some .cell \/ (compEnvC scope cl C env).kindOf x = some .free) (nc : fI scope.names = true) : scope.names.lookup x = some .free := by
  have key : ∀ (names : List (Str × NameKind)), fI names = true ->
      ((names.map λ(n, k) => if (k == NameKind.free && env.scope.kind == .function && env.kindOf n == some .cell) then (n, NameKind.cell) else (n, k)).lookup x = some .cell ∨
       (names.map λ(n, k) => if (k == NameKind.free && env.scope.kind == .function && env.kindOf n == some .cell) then (n, NameKind.cell) else (n, k)).lookup x = some .free) -> names.lookup x = some .free := by
    intro names
    induction names with
    | nil => intro _ h; simp at h
    | cons p r ih =>
      obtain ⟨n, k⟩ := p
      intro nc h
      have nc' : (k != .cell) = true /\ fI r = true := by
        unfold fI at nc
        rw [List.all_cons, Bool.and_eq_true] at nc
        exact nc
      rw [List.map_cons] at h
      dsimp only at h
      by_cases hc : (k == NameKind.free && env.scope.kind == .function && env.kindOf n == some .cell) = true
      · rw [if_pos hc] at h
        rw [List.lookup_cons] at h ⊢
        cases q : x == n with
        | true =>
          have : k = .free := by
            rw [Bool.and_eq_true, Bool.and_eq_true] at hc
            simpa using hc.1.1
          rw [this]
        | false =>
          rw [q] at h
          exact ih nc'.2 h
      · rw [if_neg hc] at h
        rw [List.lookup_cons] at h ⊢
        cases q : x == n with
        | true =>
          rw [q] at h
          have nk : k ≠ .cell := by simpa using nc'.1
          rcases h with h | h
          · exact absurd (Option.some.inj h) nk
          · exact h
        | false =>
          rw [q] at h
          exact ih nc'.2 h
  exact key scope.names nc h
variable{js:List Nat}{ts:List Str}{te:TE}{tt:Option TT}{Mw:Pos}{tg:Expr}
theorem sS{cl:List (Str×Addr)}{pos:Pos}{wi:TI}{g:TG}{fs:List Str}(Mn:X.calm=true)
  (My:closureFor scope X.env=pure cl) (hk:scope.kind=.function) (nc:fI scope.names=true) (lo:gR scope.names=true) (fh:gK cl scope.names=true) (ag:eo X cl) (fr:iy X scope cl fs js)
  (hi:PI X tg iter wi) (hg:∀ C s₀ H₀ ex Me,PG (pf X scope cl (ts++fs) C s₀ H₀ ex Me) tg g)
  (ht:∀ C s₀ H₀ ex Me,match ifs,tt with | [],none=>True | [c],some t=>PT (pf X scope cl (ts++fs) C s₀ H₀ ex Me) c t | _,_=>False)
  (he:∀ C s₀ H₀ ex Me,PE (pf X scope cl (ts++fs) C s₀ H₀ ex Me) elt te)
  (hs:∀ x,foldedSetIterable iter X.env x=pure x) {Q:VK} (I:Inv X Me σ H s) (h:Ab wi g tt te ts js σ H Q)
  (use:Option (Value->Sem Unit)) (Qv:Value->Shared->Prop)
  (Gy:∀ (D:Addr) (H':Hp) (s':Shared) (C:Addr),Inv X Me σ H' s'->Q (.ref D) H'->(∃ m,s'.heap.Ns C m)->k6 X Me H' C->compPost (model X.prog X.w) X.A X.xe use Qv (.ref D) C (.ok .next) s') :
  wpAny (model X.prog X.w) X.A (comprehension (.ListComp elt [⟨tg,iter,ifs,0⟩] scope pos) scope X.env Mw (newList []) false (eval iter X.env) use) Qv X.xe s:=by
 have N2:∀ y∈scope.names,y.2≠.cell:=λy hy=>by
  have:=List.all_eq_true.mp nc y hy
  simpa using this
 have O7:∀ y∈scope.names,y.2=.local->scope.names.lookup y.1=some .local:=λy hy hl=>by
  have:=List.all_eq_true.mp lo y hy
  rw[hl] at this
  simpa using this
 refine wpAny_comprehension_free (use:=use) rfl hs My hk O7 (bT (hi Me s σ H _ I h) λv s1 h1=>bT h1 λitv s2 h2=>?_)
 obtain⟨it,fp,tn,J,H1,e,I2,T,OR,f2,hJ⟩:=h2
 subst e
 refine wpAny_newObj_type (wpAny_newFunctionEnv N2 (by intro y hy;simp at hy) (λh₁ hns1 hsb1=>?_) hk)
 dsimp only at hns1 hsb1 ⊢
 generalize hH2:s2.heap.push { cls:=.type "list", dict:=none,data:=.seq ([]:List Value).toArray }=G at hns1 hsb1 ⊢
 have hC:G.objs.size=s2.heap.objs.size+1:=by rw[← hH2,Heap.size_push]
 have old:∀ b o,s2.heap.get? b=some o->h₁.get? b=some o:=λb o e=>by
  have hb:=Heap.lt_size e
  refine hsb1.extBut b o (Nat.ne_of_lt (Nat.lt_of_lt_of_le hb (Nat.le_of_lt (by rw[hC];exact Nat.lt_succ_self _)))) (Heap.get?_push_of_some _ ?_)
  rw[← hH2]
  exact Heap.get?_push_of_some _ e
 have Og:h₁.get? s2.heap.objs.size=some { cls:=.type "list", dict:=none,data:=.seq #[] }:=by
  refine hsb1.extBut _ _ (Nat.ne_of_lt (by rw[hC];exact Nat.lt_succ_self _)) (Heap.get?_push_of_some _ ?_)
  rw[← hH2]
  exact Heap.get?_push_size _ rfl
 have nD:H1 s2.heap.objs.size=none:=I2.bu.fresh (Nat.le_refl _)
 have nC:H1 G.objs.size=none:=I2.bu.fresh (by omega)
 obtain⟨W,⟨m0,w0⟩,turn⟩:=hJ _ nD
 have Pz:∀ b∈fp,b<s2.heap.objs.size:=λb hb=>by
  obtain⟨o,e,_⟩:=T.obj _ _ OR b hb
  exact Heap.lt_size e
 have ltk:∀ (x:Str) (c:Addr),cl.lookup x=some c->c<s2.heap.objs.size/\H1 c=none/\(∃ v,s2.heap.IsCell c v):=λx c e=>by
  have e':=ag.at x c e
  obtain⟨v,q⟩:=I2.cell x c e'
  exact⟨q.lt,I2.fK x c e',v,q⟩
 let X':=pf X scope cl (ts++fs) G.objs.size s2 H1 fp Me
 have okX:X'.Ok:=by
  refine⟨I2.ok.mod,hk,I2.ok.glob,I2.ok.blt,by show s2.heap.objs.size<=G.objs.size;omega,λx y c e1 e2=>I2.ok.inj x y c (ag.at x c e1) (ag.at y c e2),λx hx=>?_,λx c hf _=>(nomatch (show (false:Bool)=true from hf)),I2.ok.hd,I2.ok.frames,.inl rfl,λb hb=>⟨?_,λx c e z=>?_⟩,λb o e=>I2.bs b o e,Nat.le_trans I2.ok.yL I2.sz,λb o e hb=>?_,λb hb hz=>?_,I2.stack,λb hb=>I2.rH b hb⟩
  ·have N3:=nQ (env:=X.env) hx nc
   have hm:∃ y∈scope.names,y.1=x/\y.2=.free:=by
    have:∀ (l:List (Str×NameKind)),l.lookup x=some .free->∃ y∈l,y.1=x/\y.2=.free:=by
     intro l
     induction l with
     | nil=>intro h;simp at h
     | cons p r ih =>
      intro h
      rw[List.lookup_cons] at h
      cases q:x==p.1 with
      | true =>
       rw[q] at h
       exact⟨p,List.mem_cons_self,(by simpa using q:x=p.1).symm,Option.some.inj h⟩
      | false =>
       rw[q] at h
       obtain⟨y,hy,r1,r2⟩:=ih h
       exact⟨y,List.mem_cons_of_mem _ hy,r1,r2⟩
    exact this _ N3
   obtain⟨y,hy,r1,r2⟩:=hm
   have:=List.all_eq_true.mp fh y hy
   rw[r2] at this
   have h':(cl.lookup y.1).isSome=true:=by simpa using this
   rw[r1] at h'
   exact Option.isSome_iff_exists.mp h'
  ·exact Nat.ne_of_lt (Nat.lt_of_lt_of_le (Pz b hb) (by show s2.heap.objs.size<=G.objs.size;omega))
  ·exact(f2 b hb).2.2.2.2.1 x c (ag.at x c e) z
  ·obtain⟨_,_,_,f3,_,_⟩:=f2 b hb
   rcases f3 with z | z
   ·exact I2.ok.qG b o e z
   ·exact absurd (Nat.lt_of_lt_of_le (Heap.lt_size (I2.ok.bs b o e).1) z) (Nat.lt_irrefl _)
  ·rcases List.mem_cons.mp (I2.rf b hz) with z | z
   ·exact(f2 b hb).2.1 z
   ·exact(f2 b hb).2.2.1 z
 have keepB:∀ b o,s2.heap.get? b=some o->h₁.get? b=some o:=old
 have I3:Inv X' [] (eZ ts js σ) (upd H1 s2.heap.objs.size (.lst [])) { s2 with heap:=h₁,toks:=s2.toks+([]:List (Str×Value)).length }:=by
  have neD:∀ b o,s2.heap.get? b=some o->b≠s2.heap.objs.size:=λb o e=>Nat.ne_of_lt (Heap.lt_size e)
  refine⟨okX,rfl,I2.bare,⟨λb o e n hb hx=>old b o e,λb o e n hb hx=>⟨o.slots,old b o e⟩,λb o e n hx=>by rw[ao (neD b o e)];exact n,λb o e hx=>⟨o,old b o e⟩,λb xs e=>?_,λb o u e=>?_,λb ps e=>?_⟩,⟨_,hns1,λi x v e1 e2 e3=>?_⟩,λx c e=>?_,?_,λx c e=>?_,λp hp=>?_,?_,?_⟩
  ·rw[ao (bQ e nD)];exact e
  ·rw[ao (bQ e nD)];exact e
  ·exact⟨#[],by rw[ao (bQ e nD)];exact Eq.trans e (by simp)⟩
  ·
   have hlen:(ts.map (λ_=>(none:Option V))).length=ts.length:=List.length_map _
   unfold eZ at e2
   by_cases Nd:i<ts.length
   ·rw[List.getElem?_append_left (by rw[hlen];exact Nd),List.getElem?_map] at e2
    cases q:ts[i]? <;> rw[q] at e2 <;> cases e2
   ·rw[List.getElem?_append_right (by rw[hlen];omega),hlen] at e2
    have e1':fs[i-ts.length]?=some x:=by
     have e1':(ts++fs)[i]?=some x:=e1
     rw[List.getElem?_append_right (by omega)] at e1'
     exact e1'
    have all:∀ {fs:List Str} {js:List Nat},iy X scope cl fs js->∀ k:Nat,fs[k]?=some x->(js.map λj=>(σ[j]?).join)[k]?=some (some v) ->
      ∃ (j:Nat) (c:Addr),X.N[j]?=some x/\σ[j]?=some (some v)/\(X.env.kindOf x=some .cell\/X.env.kindOf x=some .free)/\X.env.cells.lookup x=some c/\cl.lookup x=some c/\scope.names.lookup x=some .free:=by
     intro fs js r
     induction r with
     | nil=>intro k e;simp at e
     | @cons y j c fs js hN hf hv hc hl r ih =>
      intro k e e'
      cases k with
      | zero =>
       have e0:y=x:=by simpa using e
       subst e0
       have Pq:(σ[j]?).join=some v:=by simpa using e'
       refine⟨j,c,hN,?_,hv,hc,hl,hf⟩
       cases q:σ[j]? with
       | none=>rw[q] at Pq;cases Pq
       | some z=>rw[q] at Pq;cases z with
        | none=>cases Pq
        | some z =>
         have:z=v:=by simpa using Pq
         rw[this]
      | succ k=>exact ih k (by simpa using e) (by simpa using e')
    obtain⟨j,c,q1,q2,q3,q4,q5,q6⟩:=all fr (i-ts.length) e1' e2
    obtain⟨m,hn,hl⟩:=I2.loc
    have vis:CC X.env.scope x:=by
     rcases q3 with z | z
     ·exact .inr (.inl z)
     ·exact .inr (.inr z)
    obtain⟨u,ru,lk⟩:=hl j x v q1 q2 vis
    refine⟨u,ru,.inr ⟨?_,c,q5,?_⟩⟩
    ·rcases e3 with z | z | z
     ·exfalso
      have key:∀ (l:List (Str×NameKind)),(l.map λ(n,k)=>if (k==NameKind.free&&X.env.scope.kind==.function&&X.env.kindOf n==some .cell) then (n,NameKind.cell) else (n,k)).lookup x=some .local->l.lookup x=some .local:=by
       intro l
       induction l with
       | nil=>intro h;simp at h
       | cons p r ih =>
        obtain⟨n,k⟩:=p
        intro h
        rw[List.map_cons] at h
        dsimp only at h
        by_cases hc:(k==NameKind.free&&X.env.scope.kind==.function&&X.env.kindOf n==some .cell)=true
        ·rw[if_pos hc] at h
         rw[List.lookup_cons] at h ⊢
         cases q:x==n with
         | true=>rw[q] at h;cases h
         | false=>rw[q] at h;exact ih h
        ·rw[if_neg hc] at h
         rw[List.lookup_cons] at h ⊢
         cases q:x==n with
         | true=>rw[q] at h;exact h
         | false=>rw[q] at h;exact ih h
      have:=key _ z
      rw[q6] at this
      cases this
     ·exact .inl z
     ·exact .inr z
    ·rcases lk with ⟨k,_⟩ | ⟨_,c',e4,z⟩
     ·rcases q3 with z | z <;> rw[z] at k <;> cases k
     ·rw[q4] at e4
      cases e4
      obtain⟨o,ho,hd⟩:=z
      exact⟨o,old c o ho,hd⟩
  ·obtain⟨_,_,v,o,ho,hd⟩:=ltk x c e
   exact⟨v,o,old c o ho,hd⟩
  ·show upd H1 s2.heap.objs.size (.lst []) G.objs.size=none
   rw[ao (Nat.ne_of_gt (by rw[hC];exact Nat.lt_succ_self _))];exact nC
  ·obtain⟨q1,q2,_⟩:=ltk x c e
   rw[ao (Nat.ne_of_lt q1)];exact q2
  ·have N4:p∈X.pn++Me:=by
    have:p∈(X.pn++Me)++[]:=hp
    rwa [List.append_nil] at this
   obtain⟨e,n,ne,nf,d⟩:=I2.pin p N4
   have Nd:=Heap.lt_size e
   refine⟨old _ _ e,by rw[ao (Nat.ne_of_lt Nd)];exact n,?_,λhz=>?_,d⟩
   ·show p.1≠G.objs.size
    exact Nat.ne_of_lt (Nat.lt_trans Nd (by rw[hC];exact Nat.lt_succ_self _))
   ·rcases List.mem_cons.mp (I2.rf _ hz) with z | z
    ·exact ne z
    ·exact nf z
  ·exact I2.bu.laid old (Nat.le_refl _) ⟨Nat.zero_le _,[],0,.nil,Og⟩
  ·show (eZ ts js σ).length=(ts++fs).length
   have frl:∀ {fs:List Str} {js:List Nat},iy X scope cl fs js->fs.length=js.length:=by
    intro fs js r
    induction r with
    | nil=>rfl
    | cons _ _ _ _ _ _ ih=>rw[List.length_cons,List.length_cons,ih]
   unfold eZ
   rw[List.length_append,List.length_append,List.length_map,List.length_map,frl fr]
 have NZ:∀ {H':Hp},(∀ b∈fp,H' b=none)->∀ b∈fp,k6 X' [] H' b:=λ{H'} hn b hb=>by
  obtain⟨_,f1,f3,_,f4,f5⟩:=f2 b hb
  refine⟨hn b hb,okX.Hu b hb |>.1,okX.tV b hb,.inl hb,λx c e=>f4 x c (ag.at x c e),λp hp=>f5 p ?_⟩
  have:p∈(X.pn++Me)++[]:=hp
  rwa [List.append_nil] at this
 have fin:∀ {σ':St} {H':Hp} {s':Shared},Inv X' [] σ' H' s'->Q (.ref s2.heap.objs.size) H' ->
   compPost (model X.prog X.w) X.A X.xe use Qv (.ref s2.heap.objs.size) G.objs.size (.ok .next) s':=by
  intro σ' H' s' I4 q
  obtain⟨m,hn,_⟩:=I4.loc
  have fC:H' G.objs.size=none:=I4.free
  have Io:Inv X Me σ H' s':=by
   refine I2.Bs (s':=s') (ch:=fp) I4.os ⟨λb o e n hb hx=>?_,λb o e n hb hx=>?_,λb o e n hx=>I4.base.free b o e n hx,λb o e hx=>?_,I4.base.oY,I4.base.kx,I4.base.nM⟩ I4.bu I4.bare λb hb=>?_
   ·exact I4.base.keep b o e n hb hx
   ·exact I4.base.slot b o e n hb hx
   ·exact I4.base.there b o e hx
   ·obtain⟨_,f1,_,f3,f4,f5⟩:=f2 b hb
    exact⟨f3,f1,f4,f5⟩
  have hCl:s2.heap.objs.size<=G.objs.size:=by rw[hC];exact Nat.le_succ _
  exact Gy _ H' s' _ Io q ⟨m,hn⟩ (I2.pQ hCl fC)
 have loop:∀ s3:Shared,s3={ s2 with heap:=h₁,toks:=s2.toks+([]:List (Str×Value)).length } ->
   codeAny (model X.prog X.w) X.A (.compLoop (.ListComp elt [⟨tg,iter,ifs,0⟩] scope pos) 0 (.ref it) (.ref s2.heap.objs.size) (compEnvC scope cl G.objs.size X.env))
    (compPost (model X.prog X.w) X.A X.xe use Qv (.ref s2.heap.objs.size) G.objs.size) s3:=by
  rintro s3 rfl
  refine xS (λn s'=>∃ i σ' H',Inv X' [] σ' H' s'/\tn i s'.heap/\(∀ b∈fp,H' b=none)/\W i n σ' H') ?_ m0 ⟨0,_,_,I3,T.keep _ _ _ OR λb _ o e=>old b o e,λb hb=>?_,w0⟩
  ·rintro n s3 ⟨i,σ3,H3,I3,st3,fr3,w3⟩
   rcases turn i n σ3 H3 w3 with ⟨stop,qn⟩ | ⟨go,N,hN,step⟩
   ·refine bT (T.done X' rfl rfl rfl Mn i [] s3 σ3 H3 _ I3 (NZ fr3) st3 stop) λr s4 ⟨hr,I4⟩=>?_
    subst hr
    exact fin I4 qn
   ·refine bT (T.item X' rfl rfl rfl Mn i [] s3 σ3 H3 _ I3 (NZ fr3) st3 go) λr s4 ⟨u,hr,h4⟩=>?_
    subst hr
    refine bT h4 λ_ s5 ⟨x,H5,I5,r5,y5,st5,fr5⟩=>?_
    have I5':=I5.pinned (NZ fr5) (T.obj _ _ st5)
    refine bT (hg _ _ _ _ _ _ s5 σ3 H5 x u _ I5' r5 (step x H5 y5)) λ_ s6 ⟨σ6,H6,I6,q6⟩=>?_
    have again:∀ {σ7:St} {H7:Hp} {s7:Shared},Inv X' ([]++lX fp s5.heap) σ7 H7 s7->N σ7 H7->∃ m,m<n/\∃ i σ' H',Inv X' [] σ' H' s7/\tn i s7.heap/\(∀ b∈fp,H' b=none)/\W i m σ' H':=λ{σ7 H7 s7} I7 n7=>by
     obtain⟨m',hm,w7⟩:=hN σ7 H7 n7
     refine⟨m',hm,i+1,σ7,H7,I7.lx,T.keep _ _ _ st5 λb hb o e=>(I7.pin (b,o) (List.mem_append_right _ (List.mem_append_right _ (iH hb e)))).1,λb hb=>?_,w7⟩
     obtain⟨o,e,d⟩:=T.obj _ _ st5 b hb
     exact(I7.pin (b,o) (List.mem_append_right _ (List.mem_append_right _ (iH hb e)))).2.1
    have tail:∀ {H7:Hp} {s7:Shared},Inv X' ([]++lX fp s5.heap) σ6 H7 s7->(te σ6 H7 λy H4=>∃ ys,H4 s2.heap.objs.size=some (.lst ys)/\ys.length<sizeLine/\N σ6 (upd H4 s2.heap.objs.size (.lst (ys++[y])))) ->
      wpAny (model X.prog X.w) X.A (eval elt (compEnvC scope cl G.objs.size X.env)) (λx s₅=>wpAny (model X.prog X.w) X.A (call (.builtin "list.append") [.ref s2.heap.objs.size,x])
       (λ_ s₆=>∃ m,m<n/\∃ i σ' H',Inv X' [] σ' H' s₆/\tn i s₆.heap/\(∀ b∈fp,H' b=none)/\W i m σ' H') (λ_ _=>False) s₅) (λ_ _=>False) s7:=by
     intro H7 s7 I7 q7
     refine bT (he _ _ _ _ _ _ s7 σ6 H7 _ I7 q7) λuy s8 ⟨y,H8,I8,ry,ys,hy,hl,q8⟩=>?_
     refine bT (mj (X:=X') _ s8 σ6 H8 (.ref s2.heap.objs.size) [y] (.ref s2.heap.objs.size) [uy] (λ_ H9=>N σ6 H9) I8 rfl (.cons ry .nil) ⟨_,ys,y,rfl,rfl,hy,hl,q8⟩) λ_ s9 ⟨_,H9,I9,_,q9⟩=>?_
     exact again I9 q9
    cases ifs with
    | nil =>
     cases tt with
     | none=>exact wpAny_tests_nil (tail I6 q6)
     | some t=>exact(ht 0 s2 H1 [] []).elim
    | cons c r =>
     cases r with
     | nil =>
      cases tt with
      | none=>exact(ht 0 s2 H1 [] []).elim
      | some t =>
       refine wpAny_tests_one (bT (ht G.objs.size s2 H1 fp Me _ s6 σ6 H6 _ I6 q6) λb s7 ⟨H7,I7,q7⟩=>?_)
       cases b with
       | true =>
        rw[if_pos rfl] at q7 ⊢
        exact tail I7 q7
       | false =>
        rw[if_neg Bool.false_ne_true] at q7 ⊢
        exact again I7 q7
     | cons _ _=>cases tt <;> exact(ht 0 s2 H1 [] []).elim
  ·rw[ao (Nat.ne_of_lt (Pz b hb))]
   exact(f2 b hb).1
 exact codeAny_compStart_list (loop _ rfl) (T.self _ 0 _ _ _ (T.keep _ _ _ OR λb _ o e=>old b o e) (loop _ rfl))
theorem Inv.other(I:Inv X Me σ H s)(f:k6 X Me H C)(hs:Heap.SameBut C s.heap h'):Inv X Me σ H { s with heap:=h' }:=by
 obtain⟨f0,f1,_,f3,f4,f5⟩:=f
 refine I.Bs (s':={ s with heap:=h' }) (ch:=[C]) rfl ⟨λb o e n hb hx=>?_,λb o e n hb hx=>?_,λb o e n hx=>n,λb o e hx=>?_,λ_ _ q=>q,λ_ _ _ q=>q,λb ps q=>⟨#[],by rw[q];simp⟩⟩ (λb u e=>?_) I.bare λb hb=>?_
 ·exact(hs.2 b (λz=>hx (by rw[z];exact List.mem_singleton.mpr rfl))).trans e
 ·exact⟨o.slots,(hs.2 b (λz=>hx (by rw[z];exact List.mem_singleton.mpr rfl))).trans e⟩
 ·exact⟨o,(hs.2 b (λz=>hx (by rw[z];exact List.mem_singleton.mpr rfl))).trans e⟩
 ·refine(I.bu b u e).lj (λc v hc q=>(hs.2 c ?_).trans q) (λ_ q=>q) λ_ _ q=>q
  rcases hc with z | z
  ·rw[z];exact bQ e f0
  ·exact bQ z f0
 ·rw[List.mem_singleton.mp hb]
  exact⟨f3,f1,f4,f5⟩
theorem wI{cl:List (Str×Addr)}{pos:Pos}{wi:TI}{g:TG}{fs:List Str}(Mn:X.calm=true)
  (My:closureFor scope X.env=pure cl) (hk:scope.kind=.function) (nc:fI scope.names=true) (lo:gR scope.names=true) (fh:gK cl scope.names=true) (ag:eo X cl) (fr:iy X scope cl fs js)
  (hi:PI X tg iter wi) (hg:∀ C s₀ H₀ ex Me,PG (pf X scope cl (ts++fs) C s₀ H₀ ex Me) tg g)
  (ht:∀ C s₀ H₀ ex Me,match ifs,tt with | [],none=>True | [c],some t=>PT (pf X scope cl (ts++fs) C s₀ H₀ ex Me) c t | _,_=>False)
  (he:∀ C s₀ H₀ ex Me,PE (pf X scope cl (ts++fs) C s₀ H₀ ex Me) elt te)
  (hs:autoParam (∀ x,foldedSetIterable iter X.env x=pure x) aI._auto_1) :
  PE X (.ListComp elt [⟨tg,iter,ifs,0⟩] scope pos) (Ab wi g tt te ts js):=by
 intro Me s σ H Q I h
 rw[eval_ListComp]
 refine sS Mn My hk nc lo fh ag fr hi hg ht he hs I h none _ λD H' s' C Io q hm f=>?_
 obtain⟨m,hn⟩:=hm
 exact⟨m,hn,λh' O_=>⟨.ref D,H',Io.other f O_,rfl,q⟩⟩
def u7(wi:TI)(g:TG)(te:TE)(ts:List Str)(js:List Nat):TE:=fun σ H Q=>wi σ H λJ H1=>∀ D,H1 D=none ->
 ∃ W:Nat->Nat->St->Hp->Prop,(∃ m,W 0 m (eZ ts js σ) (upd H1 D (.lst [])))/\∀ i m σ' H',W i m σ' H' ->
  (J.stop i H'/\Q (.ref D) H')\/(J.go i H'/\∃ N:St->Hp->Prop,(∀ σ'' H'',N σ'' H''->∃ m',m'<m/\W (i+1) m' σ'' H'') ∧
   ∀ x H2,J.uu i H' x H2->g x σ' H2 fun σ2 H3=>te σ2 H3 λy H4=>∃ ys,H4 D=some (.lst ys)/\ys.length<sizeLine/\N σ2 (upd H4 D (.lst (ys++[y]))))
def zy(wi:TI)(g:TG)(t:TT)(te:TE)(ts:List Str)(js:List Nat):TE:=fun σ H Q=>wi σ H λJ H1=>∀ D,H1 D=none ->
 ∃ W:Nat->Nat->St->Hp->Prop,(∃ m,W 0 m (eZ ts js σ) (upd H1 D (.lst [])))/\∀ i m σ' H',W i m σ' H' ->
  (J.stop i H'/\Q (.ref D) H')\/(J.go i H'/\∃ N:St->Hp->Prop,(∀ σ'' H'',N σ'' H''->∃ m',m'<m/\W (i+1) m' σ'' H'') ∧
   ∀ x H2,J.uu i H' x H2->g x σ' H2 fun σ2 H3=>t σ2 H3 λb Pn=>if b=true then te σ2 Pn λy H4=>∃ ys,H4 D=some (.lst ys)/\ys.length<sizeLine/\N σ2 (upd H4 D (.lst (ys++[y]))) else N σ2 Pn)
theorem Ay{cl:List (Str×Addr)}{pos:Pos}{wi:TI}{g:TG}{fs:List Str}(Mn:X.calm=true)
  (My:closureFor scope X.env=pure cl) (hk:scope.kind=.function) (nc:fI scope.names=true) (lo:gR scope.names=true) (fh:gK cl scope.names=true) (ag:eo X cl) (fr:iy X scope cl fs js)
  (hi:PI X tg iter wi) (hg:∀ C s₀ H₀ ex Me,PG (pf X scope cl (ts++fs) C s₀ H₀ ex Me) tg g) (he:∀ C s₀ H₀ ex Me,PE (pf X scope cl (ts++fs) C s₀ H₀ ex Me) elt te)
  (hs:autoParam (∀ x,foldedSetIterable iter X.env x=pure x) aI._auto_1):PE X (.ListComp elt [⟨tg,iter,[],0⟩] scope pos) (u7 wi g te ts js) :=
 wI (tt:=none) Mn My hk nc lo fh ag fr hi hg (λ_ _ _ _ _=>trivial) he hs
variable{c:Expr}
theorem Ai{cl:List (Str×Addr)}{pos:Pos}{wi:TI}{g:TG}{t:TT}{fs:List Str}(Mn:X.calm=true)
  (My:closureFor scope X.env=pure cl) (hk:scope.kind=.function) (nc:fI scope.names=true) (lo:gR scope.names=true) (fh:gK cl scope.names=true) (ag:eo X cl) (fr:iy X scope cl fs js)
  (hi:PI X tg iter wi) (hg:∀ C s₀ H₀ ex Me,PG (pf X scope cl (ts++fs) C s₀ H₀ ex Me) tg g) (ht:∀ C s₀ H₀ ex Me,PT (pf X scope cl (ts++fs) C s₀ H₀ ex Me) c t) (he:∀ C s₀ H₀ ex Me,PE (pf X scope cl (ts++fs) C s₀ H₀ ex Me) elt te)
  (hs:autoParam (∀ x,foldedSetIterable iter X.env x=pure x) aI._auto_1):PE X (.ListComp elt [⟨tg,iter,[c],0⟩] scope pos) (zy wi g t te ts js) :=
 wI (tt:=some t) Mn My hk nc lo fh ag fr hi hg ht he hs
def fH(h:Heap)(b:Bool)(l:Addr)(xs:Array Value):Prop:=match b with
 | true=>h.IsList l xs
 | false=>h.IsTuple l xs
def dN(h:Heap)(b:Bool)(it l:Addr)(i:Nat):Prop:=match b with
 | true=>h.IsListIter it l i
 | false=>h.IsTupleIter it l i
variable{l:Addr}{b:Bool}{h:Heap}
theorem fH.at{xs:Array Value}(x:fH h b l xs)(k:∀ o,h.get? l=some o->h'.get? l=some o):fH h' b l xs:=by
 cases b with
 | true=>obtain⟨o,ho,r⟩:=(show h.IsList l xs from x);exact(show h'.IsList l xs from ⟨o,k o ho,r⟩)
 | false=>obtain⟨o,ho,r⟩:=(show h.IsTuple l xs from x);exact(show h'.IsTuple l xs from ⟨o,k o ho,r⟩)
variable{i:Nat}{it:Addr}
theorem dN.at(x:dN h b it l i)(k:∀ o,h.get? it=some o->h'.get? it=some o):dN h' b it l i:=by
 cases b with
 | true=>obtain⟨o,ho,r⟩:=(show h.IsListIter it l i from x);exact(show h'.IsListIter it l i from ⟨o,k o ho,r⟩)
 | false=>obtain⟨o,ho,r⟩:=(show h.IsTupleIter it l i from x);exact(show h'.IsTupleIter it l i from ⟨o,k o ho,r⟩)
theorem dN.obj(x:dN h b it l i):∃ o vs,h.get? it=some o/\o.data=.fields vs:=by
 cases b with
 | true=>obtain⟨o,ho,_,hd⟩:=(show h.IsListIter it l i from x);exact⟨o,_,ho,hd⟩
 | false=>obtain⟨o,ho,_,hd⟩:=(show h.IsTupleIter it l i from x);exact⟨o,_,ho,hd⟩
theorem fH.obj{xs:Array Value}(x:fH h b l xs):∃ o n,h.get? l=some o/\o.data=.seq xs n:=by
 cases b with
 | true=>obtain⟨o,ho,_,n,hd⟩:=(show h.IsList l xs from x);exact⟨o,n,ho,hd⟩
 | false=>obtain⟨o,ho,_,n,hd⟩:=(show h.IsTuple l xs from x);exact⟨o,n,ho,hd⟩
variable{Q:Value->Shared->Prop}{items:Array Value}
variable{ys:Array Value}{k1 k2:Nat}{l1 l2:Addr}
section
variable{E:Value->Shared->Prop}
theorem gF{t:Addr}{x:Value}(hit:s.heap.IsTupleIter it t i)
  (ht:s.heap.IsTuple t items) (hx:items[i]?=some x)
  (hQ:∀ h',h'.IsTupleIter it t (i+1)->Heap.SameBut it s.heap h'->Q x { s with heap:=h' }) :
  wpAny (model prog w) A (Builtin.SmallTypes.nextOf (.ref it)) Q E s:=by
 obtain⟨o,ho,hc,hd⟩:=id hit
 obtain⟨ol,hol,_,nl,hdl⟩:=ht
 unfold Builtin.SmallTypes.nextOf
 refine wpAny_bind (wpAny_callSpecial?_slot (name:=Str.ofString "__next__") hit.typeIs F.slot_tuple_iterator_next
  (wpAny_call_entry F.slot_tuple_iterator_next hit.typeIs F.entry_tuple_iterator_next ?_ (F.args_tuple_iterator_next_1 _)))
 show wpAny _ _ (field (.ref it) 0 >>= _) _ _ s
 refine wpAny_bind (wpAny_field ho hd (x:=.ref t) rfl ?_)
 show wpAny _ _ (if (Value.ref t==Value.none)=true then _ else _) _ _ s
 rw[if_neg (show ¬ ((Value.ref t==Value.none)=true) from Bool.false_ne_true)]
 show wpAny _ _ (field (.ref it) 1 >>= _) _ _ s
 refine wpAny_bind (wpAny_field ho hd (x:=.int i 0) rfl ?_)
 show wpAny _ _ (seqItems? (.ref t) >>= _) _ _ s
 refine wpAny_bind (wpAny_seqItems hol hdl ?_)
 simp only[Int.toNat_natCast,hx]
 refine wpAny_bind (wpAny_setField ho hd (by simp) (wpAny_pure ⟨x,rfl,wpAny_pure (hQ _ ?_ (Heap.SameBut.update ..))⟩))
 exact⟨_,Heap.get?_update_self _ ho (Obj.isFreed_of_fields (Obj.data_mapFields hd _)),(Obj.cls_mapFields ..).trans hc,by
  rw[Obj.data_mapFields hd];simp[rawInt]⟩
theorem eR{t:Addr}(hh:A.handled=none)
  (hit:s.heap.IsTupleIter it t i) (ht:s.heap.IsTuple t items) (hx:items[i]?=none)
  (hE:∀ h' e,Heap.ExtBut it s.heap h'->(∃ o,h'.get? e=some o/\o.cls=.type "StopIteration")->E (.ref e) { s with heap:=h' }) :
  wpAny (model prog w) A (Builtin.SmallTypes.nextOf (.ref it)) Q E s:=by
 obtain⟨o,ho,hc,hd⟩:=id hit
 obtain⟨ol,hol,_,nl,hdl⟩:=ht
 unfold Builtin.SmallTypes.nextOf
 refine wpAny_bind (wpAny_callSpecial?_slot (name:=Str.ofString "__next__") hit.typeIs F.slot_tuple_iterator_next
  (wpAny_call_entry F.slot_tuple_iterator_next hit.typeIs F.entry_tuple_iterator_next ?_ (F.args_tuple_iterator_next_1 _)))
 show wpAny _ _ (field (.ref it) 0 >>= _) _ _ s
 refine wpAny_bind (wpAny_field ho hd (x:=.ref t) rfl ?_)
 show wpAny _ _ (if (Value.ref t==Value.none)=true then _ else _) _ _ s
 rw[if_neg (show ¬ ((Value.ref t==Value.none)=true) from Bool.false_ne_true)]
 show wpAny _ _ (field (.ref it) 1 >>= _) _ _ s
 refine wpAny_bind (wpAny_field ho hd (x:=.int i 0) rfl ?_)
 show wpAny _ _ (seqItems? (.ref t) >>= _) _ _ s
 refine wpAny_bind (wpAny_seqItems hol hdl ?_)
 simp only[Int.toNat_natCast,hx]
 refine wpAny_bind (wpAny_rule (wpAny_bind (wpAny_setField ho hd (by simp) ?_)))
 show wpAny _ _ (newExc (.type "StopIteration") [] >>= _) _ _ _
 refine wpAny_bind ?_
 simp only[newExc,newTuple]
 refine wpAny_bind (wpAny_newObj_type ?_ (by size_fits))
 refine wpAny_bind (m:=firstArgMember _ _) (wpAny_of_eq (a:=Value.none) (by first | rfl | (simp only[firstArgMember];rfl)) ?_)
 refine wpAny_newObj_type ?_ (by size_fits)
 simp only[raiseNew]
 refine wpAny_bind (wpAny_handled ?_)
 first | rw[show A.in1.handled=none from hh] | rw[hh]
 refine wpAny_bind (wpAny_pure (wpAny_throw ?_))
 exact hE _ _ (((Heap.SameBut.update ..).extBut.push _).push _) ⟨_,Heap.get?_push_size _ rfl,rfl⟩
theorem cD{x:Value}(hit:dN s.heap b it l i)(hl:fH s.heap b l items)(hx:items[i]?=some x)
  (hQ:∀ h',dN h' b it l (i+1)->Heap.SameBut it s.heap h'->Q x { s with heap:=h' }):wpAny (model prog w) A (Builtin.SmallTypes.nextOf (.ref it)) Q E s:=by
 cases b with
 | true=>exact wpAny_nextOf_list_item hit hl hx hQ
 | false=>exact gF hit hl hx hQ
theorem gA(hh:A.handled=none)(hit:dN s.heap b it l i)(hl:fH s.heap b l items)(hx:items[i]?=none)
  (hE:∀ h' e,Heap.ExtBut it s.heap h'->(∃ o,h'.get? e=some o/\o.cls=.type "StopIteration")->E (.ref e) { s with heap:=h' }):wpAny (model prog w) A (Builtin.SmallTypes.nextOf (.ref it)) Q E s:=by
 cases b with
 | true=>exact wpAny_nextOf_list_end hh hit hl hx hE
 | false=>exact eR hh hit hl hx hE
theorem wY{b1 b2:Bool}{z TI TO i1 i2:Addr}{xs:Array Value}{x y a b:Value}(D:ZipApart z TI TO i1 i2 l1 l2)
  (hz:IsZip s.heap z TI TO .none) (ML:IsPair s.heap TI (.ref i1) (.ref i2)) (MO:IsPair s.heap TO a b)
  (h1:dN s.heap b1 i1 l1 k1) (h2:dN s.heap b2 i2 l2 k2) (Nj:fH s.heap b1 l1 xs) (Nk:fH s.heap b2 l2 ys) (hx:xs[k1]?=some x) (hy:ys[k2]?=some y)
  (hQ:∀ h',IsZip h' z TI TO (rawInt s.heap.objs.size)->IsPair h' TO x y->dN h' b1 i1 l1 (k1+1)->dN h' b2 i2 l2 (k2+1)->IsPair h' s.heap.objs.size x y->h'.objs.size=s.heap.objs.size+1 ->
   (∀ c o,c≠z->c≠TO->c≠i1->c≠i2->s.heap.get? c=some o->h'.get? c=some o)->Q (.ref s.heap.objs.size) { s with heap:=h' }) :
  wpAny (model prog w) A (Builtin.«zip.__next__» ⟨[.ref z],[]⟩) (λfin s'=>∃ v,fin=.done (.ret v)/\Q v s') E s:=by
 show wpAny _ _ (field (.ref z) 2 >>= _) _ _ _
 refine wpAny_bind (wpAny_field hz rfl (x:=.bool false) rfl ?_)
 show wpAny _ _ (field (.ref z) 3 >>= _) _ _ _
 refine wpAny_bind (wpAny_field hz rfl (x:=.ref TI) rfl ?_)
 refine wpAny_bind (wpAny_seqItems ML rfl ?_)
 show wpAny _ _ (Builtin.SmallTypes.ownedTupleIsFree (.ref z) >>= _) _ _ _
 refine wpAny_bind ?_
 unfold Builtin.SmallTypes.ownedTupleIsFree
 refine wpAny_bind (wpAny_field hz rfl (x:=.none) rfl (wpAny_pure ?_))
 simp only[if_true]
 refine wpAny_bind (wpAny_rule ?_)
 refine wpAny_bind (wpAny_field hz rfl (x:=.ref TO) rfl ?_)
 refine wpAny_bind (wpAny_setField_rec hz (by simp) λh₁ hz1 hs1=>?_)
 replace hz1:IsZip h₁ z TI TO .ellipsis:=hz1
 refine wpAny_bind ?_
 simp only[List.zipIdx_cons,List.zipIdx_nil,List.forIn_cons,List.forIn_nil]
 refine wpAny_bind (wpAny_bind (wpAny_onRaise ?_))
 show wpAny _ _ (Builtin.SmallTypes.nextOf (.ref i1) >>= _) _ _ _
 refine wpAny_bind (cD (h1.at λo e=>hs1.extBut _ _ D.i1z e) (Nj.at λo e=>hs1.extBut _ _ D.l1z e) hx λh₂ h1₂ hs2=>wpAny_pure ?_)
 have hTO2:IsPair h₂ TO a b:=hs2.extBut _ _ D.TOi1 (hs1.extBut _ _ D.TOz MO)
 refine wpAny_bind (wpAny_seqItems hTO2 rfl ?_)
 refine wpAny_bind (wpAny_updateSeq_pair hTO2 λh₃ hTO3 hs3=>?_)
 replace hTO3:IsPair h₃ TO x b:=hTO3
 refine wpAny_bind (wpAny_letGo (wpAny_pure ?_))
 refine wpAny_bind (wpAny_bind (wpAny_onRaise ?_))
 show wpAny _ _ (Builtin.SmallTypes.nextOf (.ref i2) >>= _) _ _ _
 refine wpAny_bind (cD (h2.at λo e=>hs3.extBut _ _ D.TOi2.symm (hs2.extBut _ _ D.i12.symm (hs1.extBut _ _ D.i2z e)))
  (Nk.at λo e=>hs3.extBut _ _ D.l2TO (hs2.extBut _ _ D.l2i1 (hs1.extBut _ _ D.l2z e))) hy λh₄ h2₄ hs4=>wpAny_pure ?_)
 have hTO4:IsPair h₄ TO x b:=hs4.extBut _ _ D.TOi2 hTO3
 refine wpAny_bind (wpAny_seqItems hTO4 rfl ?_)
 refine wpAny_bind (wpAny_updateSeq_pair hTO4 λh₅ hTO5 hs5=>?_)
 replace hTO5:IsPair h₅ TO x y:=hTO5
 refine wpAny_bind (wpAny_letGo (wpAny_pure (wpAny_pure ?_)))
 refine wpAny_bind (wpAny_seqItems hTO5 rfl ?_)
 refine wpAny_bind (wpAny_newTuple ?_)
 have hsz:h₅.objs.size=s.heap.objs.size:=by rw[hs5.1,hs4.1,hs3.1,hs2.1,hs1.1]
 have hz5:IsZip h₅ z TI TO .ellipsis:=hs5.extBut _ _ D.TOz.symm (hs4.extBut _ _ D.i2z.symm (hs3.extBut _ _ D.TOz.symm (hs2.extBut _ _ D.i1z.symm hz1)))
 have hk5:∀ c o,c≠z->c≠TO->c≠i1->c≠i2->s.heap.get? c=some o->h₅.get? c=some o:=λc o c1 c2 c3 c4 e =>
  hs5.extBut _ _ c2 (hs4.extBut _ _ c4 (hs3.extBut _ _ c2 (hs2.extBut _ _ c3 (hs1.extBut _ _ c1 e))))
 have h1₅:dN h₅ b1 i1 l1 (k1+1):=h1₂.at λo e=>hs5.extBut _ _ D.TOi1.symm (hs4.extBut _ _ D.i12 (hs3.extBut _ _ D.TOi1.symm e))
 have h2₅:dN h₅ b2 i2 l2 (k2+1):=h2₄.at λo e=>hs5.extBut _ _ D.TOi2.symm e
 have Oy:z<h₅.objs.size:=Heap.lt_size hz5
 show wpAny _ _ (Builtin.SmallTypes.ownedTupleHandOut (.ref z) (.ref h₅.objs.size) >>= _) _ _ _
 refine wpAny_bind ?_
 unfold Builtin.SmallTypes.ownedTupleHandOut
 have hz6:IsZip (h₅.push { cls:=.type "tuple", data:=.seq #[x,y] }) z TI TO .ellipsis:=Heap.get?_push_of_some _ hz5
 refine wpAny_bind (wpAny_setField_rec hz6 (by simp) λh₇ hz7 hs7=>?_)
 replace hz7:IsZip h₇ z TI TO (rawInt h₅.objs.size):=hz7
 refine wpAny_setField_rec hz7 (by simp) λh₈ hz₈ hs8=>?_
 replace hz₈:IsZip h₈ z TI TO (rawInt h₅.objs.size):=hz₈
 have up:∀ c o,c≠z->h₅.get? c=some o->h₈.get? c=some o:=λc o c1 e=>hs8.extBut _ _ c1 (hs7.extBut _ _ c1 (Heap.get?_push_of_some _ e))
 have hT8:IsPair h₈ h₅.objs.size x y:=hs8.extBut _ _ (Nat.ne_of_gt Oy) (hs7.extBut _ _ (Nat.ne_of_gt Oy) (Heap.get?_push_size _ rfl))
 have hz8:h₈.objs.size=h₅.objs.size+1:=by rw[hs8.1,hs7.1,Heap.size_push]
 rw[hsz] at hz₈ hT8 hz8
 refine wpAny_pure ⟨_,rfl,?_⟩
 show Q (.ref h₅.objs.size) _
 rw[hsz]
 exact hQ h₈ hz₈ (up _ _ D.TOz hTO5) (h1₅.at λo e=>up _ o D.i1z e) (h2₅.at λo e=>up _ o D.i2z e) hT8 hz8 λc o c1 c2 c3 c4 e=>up c o c1 (hk5 c o c1 c2 c3 c4 e)
theorem yR{b1 b2:Bool}{z TI TO i1 i2:Addr}{xs:Array Value}{a b:Value}{Q:Fin->Shared->Prop}(hh:A.handled=none)(D:ZipApart z TI TO i1 i2 l1 l2)
  (hz:IsZip s.heap z TI TO .none) (ML:IsPair s.heap TI (.ref i1) (.ref i2)) (MO:IsPair s.heap TO a b)
  (h1:dN s.heap b1 i1 l1 k1) (h2:dN s.heap b2 i2 l2 k2) (Nj:fH s.heap b1 l1 xs) (Nk:fH s.heap b2 l2 ys) (Nq:xs[k1]?=none\/ys[k2]?=none)
  (hE:∀ h' e,(∀ c o,c≠z->c≠TO->c≠i1->c≠i2->s.heap.get? c=some o->h'.get? c=some o)->(∃ o,h'.get? e=some o/\o.cls=.type "StopIteration")->E (.ref e) { s with heap:=h' }) :
  wpAny (model prog w) A (Builtin.«zip.__next__» ⟨[.ref z],[]⟩) Q E s:=by
 show wpAny _ _ (field (.ref z) 2 >>= _) _ _ _
 refine wpAny_bind (wpAny_field hz rfl (x:=.bool false) rfl ?_)
 show wpAny _ _ (field (.ref z) 3 >>= _) _ _ _
 refine wpAny_bind (wpAny_field hz rfl (x:=.ref TI) rfl ?_)
 refine wpAny_bind (wpAny_seqItems ML rfl ?_)
 show wpAny _ _ (Builtin.SmallTypes.ownedTupleIsFree (.ref z) >>= _) _ _ _
 refine wpAny_bind ?_
 unfold Builtin.SmallTypes.ownedTupleIsFree
 refine wpAny_bind (wpAny_field hz rfl (x:=.none) rfl (wpAny_pure ?_))
 simp only[if_true]
 refine wpAny_bind (wpAny_rule ?_)
 refine wpAny_bind (wpAny_field hz rfl (x:=.ref TO) rfl ?_)
 refine wpAny_bind (wpAny_setField_rec hz (by simp) λh₁ hz1 hs1=>?_)
 replace hz1:IsZip h₁ z TI TO .ellipsis:=hz1
 refine wpAny_bind ?_
 simp only[List.zipIdx_cons,List.zipIdx_nil,List.forIn_cons,List.forIn_nil]
 refine wpAny_bind (wpAny_bind (wpAny_onRaise ?_))
 show wpAny _ _ (Builtin.SmallTypes.nextOf (.ref i1) >>= _) _ _ _
 cases hx:xs[k1]? with
 | none =>
  refine wpAny_bind (gA hh (h1.at λo e=>hs1.extBut _ _ D.i1z e) (Nj.at λo e=>hs1.extBut _ _ D.l1z e) hx λh₂ e hs2 he=>?_)
  obtain⟨oe,Nb,N1⟩:=he
  have hz2:IsZip h₂ z TI TO .ellipsis:=hs2 _ _ D.i1z.symm hz1
  have OL:e≠z:=λx=>by subst x;rw[hz2] at Nb;cases Nb;simp at N1
  refine wpAny_setField_rec hz2 (by simp) λh₃ _ hs3=>hE h₃ e (λc o c1 _ c3 _ x=>hs3.extBut _ _ c1 (hs2 _ _ c3 (hs1.extBut _ _ c1 x))) ⟨oe,hs3.extBut _ _ OL Nb,N1⟩
 | some x =>
  have hy:ys[k2]?=none:=by rcases Nq with h | h;rw[hx] at h;cases h;exact h
  refine wpAny_bind (cD (h1.at λo e=>hs1.extBut _ _ D.i1z e) (Nj.at λo e=>hs1.extBut _ _ D.l1z e) hx λh₂ h1₂ hs2=>wpAny_pure ?_)
  have hTO2:IsPair h₂ TO a b:=hs2.extBut _ _ D.TOi1 (hs1.extBut _ _ D.TOz MO)
  refine wpAny_bind (wpAny_seqItems hTO2 rfl ?_)
  refine wpAny_bind (wpAny_updateSeq_pair hTO2 λh₃ hTO3 hs3=>?_)
  refine wpAny_bind (wpAny_letGo (wpAny_pure ?_))
  refine wpAny_bind (wpAny_bind (wpAny_onRaise ?_))
  show wpAny _ _ (Builtin.SmallTypes.nextOf (.ref i2) >>= _) _ _ _
  refine wpAny_bind (gA hh (h2.at λo e=>hs3.extBut _ _ D.TOi2.symm (hs2.extBut _ _ D.i12.symm (hs1.extBut _ _ D.i2z e)))
   (Nk.at λo e=>hs3.extBut _ _ D.l2TO (hs2.extBut _ _ D.l2i1 (hs1.extBut _ _ D.l2z e))) hy λh₄ e hs4 he=>?_)
  obtain⟨oe,Nb,N1⟩:=he
  have hz4:IsZip h₄ z TI TO .ellipsis:=hs4 _ _ D.i2z.symm (hs3.extBut _ _ D.TOz.symm (hs2.extBut _ _ D.i1z.symm hz1))
  have OL:e≠z:=λx=>by subst x;rw[hz4] at Nb;cases Nb;simp at N1
  refine wpAny_setField_rec hz4 (by simp) λh₅ _ hs5=>hE h₅ e (λc o c1 c2 c3 c4 x=>hs5.extBut _ _ c1 (hs4 _ _ c4 (hs3.extBut _ _ c2 (hs2.extBut _ _ c3 (hs1.extBut _ _ c1 x))))) ⟨oe,hs5.extBut _ _ OL Nb,N1⟩
theorem tM(hl:fH s.heap b l items)
  (h:∀ o,o=({ cls:=.type (if b then "list_iterator" else "tuple_iterator"),data:=.fields #[.ref l,.int 0 0] }:Obj)->Q (.ref s.heap.objs.size) { s with heap:=s.heap.push o }):wpAny (model prog w) A (pyIter (.ref l)) Q E s:=by
 cases b with
 | true=>exact wpAny_pyIter_list hl (h _ rfl)
 | false=>exact wpAny_pyIter_tuple hl (h _ rfl)
theorem mq{b1 b2:Bool}{z TI TO i1 i2:Addr}{xs:Array Value}{x y a b:Value}{Q:Option Value->Shared->Prop}(D:ZipApart z TI TO i1 i2 l1 l2)
  (hz:IsZip s.heap z TI TO .none) (ML:IsPair s.heap TI (.ref i1) (.ref i2)) (MO:IsPair s.heap TO a b)
  (h1:dN s.heap b1 i1 l1 k1) (h2:dN s.heap b2 i2 l2 k2) (Nj:fH s.heap b1 l1 xs) (Nk:fH s.heap b2 l2 ys) (hx:xs[k1]?=some x) (hy:ys[k2]?=some y)
  (hQ:∀ h',IsZip h' z TI TO (rawInt s.heap.objs.size)->IsPair h' TO x y->dN h' b1 i1 l1 (k1+1)->dN h' b2 i2 l2 (k2+1)->IsPair h' s.heap.objs.size x y->h'.objs.size=s.heap.objs.size+1 ->
   (∀ c o,c≠z->c≠TO->c≠i1->c≠i2->s.heap.get? c=some o->h'.get? c=some o)->Q (some (.ref s.heap.objs.size)) { s with heap:=h' }) :
  wpAny (model prog w) A (pyNext (.ref z)) Q E s:=by
 have hT:s.TypeIs (.ref z) "zip" := ⟨_,hz,rfl⟩
 unfold pyNext
 exact wpAny_bind (wpAny_attempt (wpAny_callSpecial?_slot (name:=Str.ofString "__next__") hT F.slot_zip_next
  (wpAny_call_entry F.slot_zip_next hT F.entry_zip_next
   (wY D hz ML MO h1 h2 Nj Nk hx hy λh' a1 a2 a3 a4 a5 a6 a7=>wpAny_pure (hQ h' a1 a2 a3 a4 a5 a6 a7)) (F.args_zip_next_1 _))))
theorem mP{b1 b2:Bool}{z TI TO i1 i2:Addr}{xs:Array Value}{a b:Value}{Q:Option Value->Shared->Prop}(hh:A.handled=none)(D:ZipApart z TI TO i1 i2 l1 l2)
  (hz:IsZip s.heap z TI TO .none) (ML:IsPair s.heap TI (.ref i1) (.ref i2)) (MO:IsPair s.heap TO a b)
  (h1:dN s.heap b1 i1 l1 k1) (h2:dN s.heap b2 i2 l2 k2) (Nj:fH s.heap b1 l1 xs) (Nk:fH s.heap b2 l2 ys) (Nq:xs[k1]?=none\/ys[k2]?=none)
  (hQ:∀ h',(∀ c o,c≠z->c≠TO->c≠i1->c≠i2->s.heap.get? c=some o->h'.get? c=some o)->Q none { s with heap:=h' }):wpAny (model prog w) A (pyNext (.ref z)) Q E s:=by
 have hT:s.TypeIs (.ref z) "zip" := ⟨_,hz,rfl⟩
 unfold pyNext
 refine wpAny_bind (wpAny_attempt (wpAny_callSpecial?_slot (name:=Str.ofString "__next__") hT F.slot_zip_next
  (wpAny_call_entry F.slot_zip_next hT F.entry_zip_next (yR hh D hz ML MO h1 h2 Nj Nk Nq λh' e hk he=>?_) (F.args_zip_next_1 _))))
 obtain⟨o,ho,hc⟩:=he
 refine wpAny_bind (wpAny_isInstance (T := "StopIteration") (b:=true) ⟨o,ho,hc⟩ isSubtype_stop ?_)
 exact wpAny_pure (hQ _ hk)
abbrev C1(b:Bool)(l:Addr):Obj:={ cls:=.type (if b then "list_iterator" else "tuple_iterator"),data:=.fields #[.ref l,.int 0 0] }
abbrev FR(h:Heap)(b1:Bool)(l1:Addr):Heap:=h.push (C1 b1 l1)
abbrev Eh(h:Heap)(b1 b2:Bool)(l1 l2:Addr):Heap:=(FR h b1 l1).push (C1 b2 l2)
abbrev JK(h:Heap)(b1 b2:Bool)(l1 l2:Addr):Heap:=(Eh h b1 b2 l1 l2).push { cls:=.type "tuple", data:=.seq #[.ref h.objs.size,.ref (FR h b1 l1).objs.size] }
abbrev JE(h:Heap)(b1 b2:Bool)(l1 l2:Addr):Heap:=(JK h b1 b2 l1 l2).push { cls:=.type "tuple", data:=.seq #[.none,.none] }
abbrev Gb(h:Heap)(b1 b2:Bool)(l1 l2:Addr):Heap:=(JE h b1 b2 l1 l2).push { cls:=.type "zip", data:=.fields #[.none,.bool false,.bool false,.ref (Eh h b1 b2 l1 l2).objs.size,.ref (JK h b1 b2 l1 l2).objs.size] }
end
theorem fD{E:Value->Shared->Prop}(hl:fH s.heap b l items)
  (h:Q (.ref s.heap.objs.size) { s with heap:=s.heap.push (C1 b l) }):wpAny (model prog w) A (pyIter (.ref l)) Q E s:=tM hl λo e=>by subst e;exact h
theorem fH.push{h:Heap}{b:Bool}{l:Addr}{xs:Array Value}(x:fH h b l xs)(o:Obj):fH (h.push o) b l xs:=x.at λ_ e=>Heap.get?_push_of_some _ e
theorem nV(b1 b2:Bool)(l1 l2:Addr)(xs ys:Array Value) :
  Meets (Builtin.«zip.__new__» ⟨[.type "zip", .ref l1,.ref l2],[]⟩) (λ_ R s=>fH s.heap b1 l1 xs/\fH s.heap b2 l2 ys ∧
   R (.ok (.ret (.ref (JE s.heap b1 b2 l1 l2).objs.size))) { s with heap:=Gb s.heap b1 b2 l1 l2 }) :=
 .of_wp λprog w A R s h=>by
  obtain⟨hp,g,d,tk,os⟩:=s;obtain⟨Nj,Nk,h⟩:=h
  have PM:=sub_zip
  have hL1:fH (Shared.heap ⟨hp,g,d,tk,os⟩) b1 l1 xs:=Nj
  have hL2:fH (Shared.heap ⟨hp.push (C1 b1 l1),g,d,tk,os⟩) b2 l2 ys:=fH.push Nk _
  wp_walk using fD hL1,fD hL2
  exact⟨_,rfl,h⟩
section
variable{E:Value->Shared->Prop}
theorem dN.new(h:Heap)(b:Bool)(it l:Addr)(e:h.get? it=some (C1 b l)):dN h b it l 0:=by
 cases b with
 | true=>exact⟨_,e,rfl,rfl⟩
 | false=>exact⟨_,e,rfl,rfl⟩
theorem yu{b1 b2:Bool}{xs:Array Value}(Nj:fH s.heap b1 l1 xs)(Nk:fH s.heap b2 l2 ys)
  (h:∀ h',IsZip h' (s.heap.objs.size+4) (s.heap.objs.size+2) (s.heap.objs.size+3) .none->IsPair h' (s.heap.objs.size+2) (.ref s.heap.objs.size) (.ref (s.heap.objs.size+1)) ->
   IsPair h' (s.heap.objs.size+3) .none .none->dN h' b1 s.heap.objs.size l1 0->dN h' b2 (s.heap.objs.size+1) l2 0->h'.objs.size=s.heap.objs.size+5 ->
   (∀ c o,s.heap.get? c=some o->h'.get? c=some o)->Q (.ref (s.heap.objs.size+4)) { s with heap:=h' }) :
  wpAny (model prog w) A (call (.type "zip") [.ref l1,.ref l2]) Q E s:=by
 refine callType_new F.called_zip (by decide) (F.typeCall_zip_2 _ _) (F.newCall_zip_2 _ _) (λobj=>F.args_object_init_3 obj _ _) F.entry_zip_new
  (nV b1 b2 l1 l2 xs ys) ⟨Nj,Nk,?_⟩
 have z1:(FR s.heap b1 l1).objs.size=s.heap.objs.size+1:=Heap.size_push ..
 have z2:(Eh s.heap b1 b2 l1 l2).objs.size=s.heap.objs.size+2:=by rw[Heap.size_push,z1]
 have z3:(JK s.heap b1 b2 l1 l2).objs.size=s.heap.objs.size+3:=by rw[Heap.size_push,z2]
 have z4:(JE s.heap b1 b2 l1 l2).objs.size=s.heap.objs.size+4:=by rw[Heap.size_push,z3]
 have z5:(Gb s.heap b1 b2 l1 l2).objs.size=s.heap.objs.size+5:=by rw[Heap.size_push,z4]
 have g5:(Gb s.heap b1 b2 l1 l2).get? (JE s.heap b1 b2 l1 l2).objs.size=some _:=Heap.get?_push_size _ rfl
 have g4:(Gb s.heap b1 b2 l1 l2).get? (JK s.heap b1 b2 l1 l2).objs.size=some _:=Heap.get?_push_of_some _ (Heap.get?_push_size _ rfl)
 have g3:(Gb s.heap b1 b2 l1 l2).get? (Eh s.heap b1 b2 l1 l2).objs.size=some _:=Heap.get?_push_of_some _ (Heap.get?_push_of_some _ (Heap.get?_push_size _ rfl))
 have g2:(Gb s.heap b1 b2 l1 l2).get? (FR s.heap b1 l1).objs.size=some _:=Heap.get?_push_of_some _ (Heap.get?_push_of_some _ (Heap.get?_push_of_some _ (Heap.get?_push_size _ rfl)))
 have g1:(Gb s.heap b1 b2 l1 l2).get? s.heap.objs.size=some _:=Heap.get?_push_of_some _ (Heap.get?_push_of_some _ (Heap.get?_push_of_some _ (Heap.get?_push_of_some _ (Heap.get?_push_size _ rfl))))
 show _/\_
 rw[z2,z3,z4] at g5
 rw[z1,z2] at g3
 rw[z3] at g4
 rw[z1] at g2
 rw[z4]
 exact⟨⟨_,g5,rfl⟩,h _ g5 g3 g4 (dN.new _ b1 _ _ g1) (dN.new _ b2 _ _ g2) z5 λc o x =>
  Heap.get?_push_of_some _ (Heap.get?_push_of_some _ (Heap.get?_push_of_some _ (Heap.get?_push_of_some _ (Heap.get?_push_of_some _ x))))⟩
end
def j9(K:PySem.W.Frag)(H:Hp)(b:Bool)(a:Addr)(xs:List V):Prop:=match b with
 | true=>eI K H a xs
 | false=>gx K H a xs
variable{tl:TA}
theorem Inv.row{xs:List V}(I:Inv X Me σ H s)(h:j9 X.K H b a xs):∃ Mg:List Value,Vals xs Mg/\fH s.heap b a Mg.toArray/\xs.length<=sizeLine:=by
 cases b with
 | true =>
  obtain⟨Mg,r,p,z⟩:=I.list h
  exact⟨Mg,r,p.isList,z⟩
 | false =>
  obtain⟨Mg,r,p,z⟩:=I.tuple h
  exact⟨Mg,r,p,z⟩
theorem Inv.lh{xs ys:List V}(I:Inv X Me σ H s)(h:j9 X.K H b a xs)(h':j9 X.K H b a ys):xs=ys:=by
 cases b with
 | true=>exact I.oC h h'
 | false=>exact I.lU h h'
theorem Inv.wU(I:Inv X Me σ H s)(k:∀ b u,b ∉ ch->s.heap.get? b=some u->h'.get? b=some u)
  (NK:∀ b∈ch,k6 X Me H b):Inv X Me σ H { s with heap:=h',toks:=t' }:=by
 have OE:∀ b u,H b=some u->b ∉ ch:=λb u e z=>by rw[(NK b z).1] at e;cases e
 refine I.step (g':=s.gens) (d':=s.drawn) (ch:=ch) (λb hb=>?_) (λb u _ _ hc e _=>k b u hc e) (λb u _ _ hc e _=>⟨u.slots,k b u hc e⟩)
  (λb u _ e n=>n) (λb u hc e=>⟨u,k b u hc e⟩) (λb xs e=>e) (λb ob u e=>e) (λb ps e=>⟨#[],by rw[e];simp⟩) (λm hm=>?_) (λb u e=>?_) I.bare
 ·obtain⟨_,f1,_,f3,f4,f5⟩:=NK b hb
  exact⟨f3,f1,f4,f5⟩
 ·obtain⟨ob,es,ep,ho,r⟩:=hm
  exact⟨ob,es,ep,k _ ob (λz=>(NK _ z).2.1 rfl) ho,r⟩
 ·refine(I.bu b u e).lj (λc v hc q=>k c v ?_ q) (λc q=>q) λc ys q=>q
  rcases hc with z' | z'
  ·rw[z'];exact OE b u e
  ·exact OE c _ z'
theorem cq{c:Addr}{xs:List V}(I:Inv X Me σ H s)(h:j9 X.K H b a xs)(f:k6 X Me H c):a≠c:=by
 have rd:∀ {u:HO},Rd H a u->a≠c:=λ{u} r=>by
  rcases r with r | ⟨o,r⟩
  ·exact bQ r f.1
  ·exact bQ r f.1
 have mk:∀ {o:Obj},X.K.lookup a=some o->a≠c:=λ{o} e z=>by
  subst z
  have e':=I.ok.mod.EL _ _ e
  rcases f.2.2.2.1 with q | q
  ·exact I.ok.qG _ _ e' q
  ·exact absurd (Nat.lt_of_lt_of_le (Heap.lt_size (I.ok.bs _ _ e').1) q) (Nat.lt_irrefl _)
 cases b with
 | true =>
  rcases(show eI X.K H a xs from h) with r | ⟨o,Mg,n,e,_⟩
  ·exact rd r
  ·exact mk e
 | false =>
  rcases(show gx X.K H a xs from h) with r | ⟨o,Mg,n,e,_⟩
  ·exact rd r
  ·exact mk e
def KA (K : PySem.W.Frag) (b1 b2 : Bool) (a1 a2 : Addr) : It :=
  ⟨λi H => ∃ xs ys x y, j9 K H b1 a1 xs /\ j9 K H b2 a2 ys /\ xs[i]? = some x /\ ys[i]? = some y,
   λi H v H' => ∃ p x y, H p = none /\ v = .ref p /\ H' = upd H p (.tup [x, y]) /\ (∀ xs, j9 K H b1 a1 xs -> xs[i]? = some x) /\ (∀ ys, j9 K H b2 a2 ys -> ys[i]? = some y),
   λi H => ∃ xs ys, j9 K H b1 a1 xs /\ j9 K H b2 a2 ys /\ (xs.length <= i \/ ys.length <= i)⟩
theorem zC{K:PySem.W.Frag}{tp:Pos}(b1 b2:Bool)(a1 a2 z TI TO i1 i2:Addr)(D:TI≠z/\TO≠z/\i1≠z/\i2≠z/\TI≠TO/\TI≠i1/\TI≠i2/\TO≠i1/\TO≠i2/\i1≠i2) :
  Turn P w K (.Tuple elts x1 tp) (KA K b1 b2 a1 a2) [z,TO,i1,i2,TI] z (λi h=>IsZip h z TI TO .none/\IsPair h TI (.ref i1) (.ref i2)/\(∃ a b,IsPair h TO a b)/\dN h b1 i1 a1 i/\dN h b2 i2 a2 i) where
 mem:=by simp
 obj:=λi h st b hb=>by
  obtain⟨hz,ML,⟨a,c,MO⟩,h1,h2⟩:=st
  simp only[List.mem_cons,List.mem_nil_iff,or_false] at hb
  rcases hb with q | q | q | q | q <;> subst q
  ·exact⟨_,hz,λv z=>by cases z⟩
  ·exact⟨_,MO,λv z=>by cases z⟩
  ·obtain⟨o,vs,e,d⟩:=h1.obj
   exact⟨o,e,λv z=>by rw[d] at z;cases z⟩
  ·obtain⟨o,vs,e,d⟩:=h2.obj
   exact⟨o,e,λv z=>by rw[d] at z;cases z⟩
  ·exact⟨_,ML,λv z=>by cases z⟩
 keep:=λi h h' st k=>by
  obtain⟨hz,ML,⟨a,c,MO⟩,h1,h2⟩:=st
  exact⟨k z (by simp) _ hz,k TI (by simp) _ ML,⟨a,c,k TO (by simp) _ MO⟩,h1.at λo e=>k i1 (by simp) o e,h2.at λo e=>k i2 (by simp) o e⟩
 item:=by
  intro X hP hw hK hc i Me s σ H E I hf st hg
  subst hP hw hK
  obtain⟨xs,ys,x,y,MM,MG,hx,hy⟩:=hg
  obtain⟨Oz,OP,p1,PQ⟩:=I.row MM
  obtain⟨NB,OQ,p2,PR⟩:=I.row MG
  obtain⟨u1,hu1,ru1⟩:=OP.get hx
  obtain⟨u2,hu2,ru2⟩:=OQ.get hy
  obtain⟨hz,ML,⟨a,c,MO⟩,h1,h2⟩:=st
  obtain⟨d1,d2,d3,d4,d5,d6,d7,d8,d9,d10⟩:=D
  obtain⟨o1,n1,e1,dd1⟩:=p1.obj
  obtain⟨o2,n2,e2,Pp⟩:=p2.obj
  obtain⟨oi1,vs1,Pr,di1⟩:=h1.obj
  obtain⟨oi2,vs2,Pt,di2⟩:=h2.obj
  have D:ZipApart z TI TO i1 i2 a1 a2:=⟨d1,d2,d3,d4,d5,d6,d7,d8,d9,d10,cq I MM (hf z (by simp)),cq I MM (hf TO (by simp)),cq I MM (hf i1 (by simp)),cq I MM (hf i2 (by simp)),
   cq I MG (hf z (by simp)),cq I MG (hf TO (by simp)),cq I MG (hf i1 (by simp)),cq I MG (hf i2 (by simp))⟩
  refine mq D hz ML MO h1 h2 p1 p2 (x:=u1) (y:=u2) (by simpa using hu1) (by simpa using hu2) λh' g1 g2 g3 g4 g5 g6 g7=>⟨_,rfl,?_⟩
  refine wpAny_letOwnedTupleGo_zip (s:={ s with heap:=h' }) g1 λh3 hz3 N5=>?_
  have Nl:H s.heap.objs.size=none:=I.bu.fresh (Nat.le_refl _)
  have lt:∀ {c:Addr} {o:Obj},s.heap.get? c=some o->c≠s.heap.objs.size:=λe=>Nat.ne_of_lt (Heap.lt_size e)
  have OB:∀ b o,b ∉ [z,TO,i1,i2,TI]->s.heap.get? b=some o->h3.get? b=some o:=λb o hb q=>by
   simp only[List.mem_cons,List.mem_nil_iff,or_false,not_or] at hb
   exact(N5.2 b hb.1).trans (g7 b o hb.1 hb.2.1 hb.2.2.1 hb.2.2.2.1 q)
  have hT3:h3.get? s.heap.objs.size=some { cls:=.type "tuple", data:=.seq #[u1,u2] }:=(N5.2 _ (lt hz).symm).trans g5
  have I3:Inv X Me σ (upd H s.heap.objs.size (.tup [x,y])) { s with heap:=h3,toks:=s.toks } :=
   I.j5 (ch:=[z,TO,i1,i2,TI]) OB hf (Nat.le_refl _) (λb hb=>by
    simp only[List.mem_cons,List.mem_nil_iff,or_false] at hb
    rcases hb with q | q | q | q | q <;> subst q
    ·exact⟨_,hz⟩
    ·exact⟨_,MO⟩
    ·exact⟨_,Pr⟩
    ·exact⟨_,Pt⟩
    ·exact⟨_,ML⟩)
    ⟨by show 2<=sizeLine;decide,[u1,u2],.cons ru1 (.cons ru2 .nil),⟨_,hT3,rfl,_,rfl⟩⟩
  refine⟨.ref s.heap.objs.size,_,I3,rfl,⟨_,x,y,Nl,rfl,rfl,λzs ON=>by rw[I.lh ON MM];exact hx,λzs ON=>by rw[I.lh ON MG];exact hy⟩,
   ⟨hz3,(N5.2 TI d1).trans (g7 TI _ d1 d5 d6 d7 ML),⟨_,_,(N5.2 TO d2).trans g2⟩,g3.at λo e=>(N5.2 i1 d3).trans e,g4.at λo e=>(N5.2 i2 d4).trans e⟩,λb hb=>?_⟩
  have nb:b≠s.heap.objs.size:=by
   simp only[List.mem_cons,List.mem_nil_iff,or_false] at hb
   rcases hb with q | q | q | q | q <;> subst q
   ·exact lt hz
   ·exact lt MO
   ·exact lt Pr
   ·exact lt Pt
   ·exact lt ML
  rw[ao nb]
  exact(hf b hb).1
 done:=by
  intro X hP hw hK hc i Me s σ H E I hf st hg
  subst hP hw hK
  obtain⟨xs,ys,MM,MG,Nq⟩:=hg
  obtain⟨Oz,OP,p1,PQ⟩:=I.row MM
  obtain⟨NB,OQ,p2,PR⟩:=I.row MG
  obtain⟨hz,ML,⟨a,c,MO⟩,h1,h2⟩:=st
  obtain⟨d1,d2,d3,d4,d5,d6,d7,d8,d9,d10⟩:=D
  have D:ZipApart z TI TO i1 i2 a1 a2:=⟨d1,d2,d3,d4,d5,d6,d7,d8,d9,d10,cq I MM (hf z (by simp)),cq I MM (hf TO (by simp)),cq I MM (hf i1 (by simp)),cq I MM (hf i2 (by simp)),
   cq I MG (hf z (by simp)),cq I MG (hf TO (by simp)),cq I MG (hf i1 (by simp)),cq I MG (hf i2 (by simp))⟩
  have l1:=OP.length
  have l2:=OQ.length
  refine mP (I.ok.hd hc) D hz ML MO h1 h2 p1 p2 ?_ λh' k=>⟨rfl,?_⟩
  ·rcases Nq with q | q
   ·exact .inl (by simp;omega)
   ·exact .inr (by simp;omega)
  ·exact I.wU (t':=s.toks) (ch:=[z,TO,i1,i2,TI]) (λb u hb e=>by
    simp only[List.mem_cons,List.mem_nil_iff,or_false,not_or] at hb
    exact k b u hb.1 hb.2.1 hb.2.2.1 hb.2.2.2.1 e) hf
 self:=λ_ _ _ _ _ st h=>by
  obtain⟨hz,_⟩:=st
  exact wpAny_pyIter_zip hz h
theorem GS(n:Nat):n+2≠n+4/\n+3≠n+4/\n≠n+4/\n+1≠n+4/\n+2≠n+3/\n+2≠n/\n+2≠n+1/\n+3≠n/\n+3≠n+1/\n≠n+1:=by
 refine⟨?_,?_,?_,?_,?_,?_,?_,?_,?_,?_⟩ <;> omega
def Jr(K:PySem.W.Frag)(tl:TA):TI:=fun σ H R=>tl σ H λvs H1=>∃ b1 b2 a1 a2,vs=[.ref a1,.ref a2]/\(∃ xs,j9 K H1 b1 a1 xs)/\(∃ ys,j9 K H1 b2 a2 ys)/\R (KA K b1 b2 a1 a2) H1
theorem jN{tp:Pos}{l1 l2:Expr}{p pos:Pos}(hg:Gl X "zip")(hm:X.mg "zip" = none)(hl:PA X [l1,l2] tl)(hs:autoParam (starEach [l1,l2] X.env=[(false,eval l1 X.env),(false,eval l2 X.env)]) aR._auto_1)(Nm:autoParam (starEach [l2] X.env=[(false,eval l2 X.env)]) aR._auto_1) :
  PI X (.Tuple elts x1 tp) (.Call (.Name "zip" p) [l1,l2] [] pos) (Jr X.K tl):=by
 intro Me s σ H R I h
 refine Call_ (i4 I hg hm PyProof.Rows.boot_zip (PyProof.Rows.callWith_type1 (bT (hl pos Me s σ H _ I h) λus s1 ⟨vs,H1,I1,r1,q1⟩=>?_) (by rw[hs,Nm]) (by rw[Nm];rfl)))
 obtain⟨b1,b2,a1,a2,e,⟨xs,MM⟩,⟨ys,MG⟩,q⟩:=q1
 subst e
 cases r1 with
 | cons r rr =>
  cases rr with
  | cons r' rr =>
   cases rr
   cases (show _=Value.ref a1 from r)
   cases (show _=Value.ref a2 from r')
   obtain⟨Oz,OP,p1,PQ⟩:=I1.row MM
   obtain⟨NB,OQ,p2,PR⟩:=I1.row MG
   refine yu p1 p2 λh' g1 g2 g3 g4 g5 g6 g7=>?_
   have I2:Inv X Me σ H1 { s1 with heap:=h' }:=I1.kept (t':=s1.toks) g7
   refine wpAny_pyIter_zip (s:={ s1 with heap:=h' }) g1 ?_
   refine⟨s1.heap.objs.size+4,[s1.heap.objs.size+4,s1.heap.objs.size+3,s1.heap.objs.size,s1.heap.objs.size+1,s1.heap.objs.size+2],_,_,H1,rfl,I2,
    zC b1 b2 a1 a2 _ _ _ _ _ (GS s1.heap.objs.size),⟨g1,g2,⟨_,_,g3⟩,g4,g5⟩,λb hb=>?_,q⟩
   have hle:s1.heap.objs.size<=b:=by
    simp only[List.mem_cons,List.mem_nil_iff,or_false] at hb
    rcases hb with q | q | q | q | q
    ·rw[q];exact Nat.le_add_right _ 4
    ·rw[q];exact Nat.le_add_right _ 3
    ·rw[q];exact Nat.le_refl _
    ·rw[q];exact Nat.le_add_right _ 1
    ·rw[q];exact Nat.le_add_right _ 2
   exact I1.pQ hle (I1.bu.fresh hle)
def Ky(K:PySem.W.Frag)(b:Bool)(a:Addr):It:=match b with
 | true=>Kl K a
 | false=>LH K a
def H_(K:PySem.W.Frag)(tl:TE):TI:=fun σ H R=>tl σ H λx H1=>∃ b a,x=.ref a/\(∃ xs,j9 K H1 b a xs)/\R (Ky K b a) H1
theorem gu{l:Expr}{tl:TE}(hl:PE X l tl):PI X tg l (H_ X.K tl):=by
 intro Me s σ H R I h
 refine bT (hl Me s σ H _ I h) λv s1 ⟨x,H1,I1,r1,q1⟩=>?_
 obtain⟨b,a,e,⟨xs,hq⟩,q⟩:=q1
 subst e
 cases r1
 cases b with
 | true =>
  obtain⟨Mg,rv,p,hz⟩:=I1.list hq
  refine wpAny_pyIter_list p.isList ?_
  refine⟨s1.heap.objs.size,[s1.heap.objs.size],_,_,H1,rfl,I1.kept (t':=s1.toks) λb o e=>Heap.get?_push_of_some _ e,qE a _,⟨_,Heap.get?_push_size _ rfl,rfl,rfl⟩,λb hb=>?_,q⟩
  have e:b=s1.heap.objs.size:=by simpa using hb
  subst e
  exact I1.pQ (Nat.le_refl _) (I1.bu.fresh (Nat.le_refl _))
 | false =>
  obtain⟨Mg,rv,p,hz⟩:=I1.tuple hq
  refine wpAny_pyIter_tuple (show s1.heap.IsTuple a Mg.toArray from p) ?_
  refine⟨s1.heap.objs.size,[s1.heap.objs.size],_,_,H1,rfl,I1.kept (t':=s1.toks) λb o e=>Heap.get?_push_of_some _ e,uP a _,⟨_,Heap.get?_push_size _ rfl,rfl,rfl⟩,λb hb=>?_,q⟩
  have e:b=s1.heap.objs.size:=by simpa using hb
  subst e
  exact I1.pQ (Nat.le_refl _) (I1.bu.fresh (Nat.le_refl _))
theorem yf(hc:X.calm=true):cy X (.builtin "sum") (λxs H Q=>∃ (a:Addr) (ns:List Int),xs=[.ref a]/\eI X.K H a (ns.map V.int)/\Q (.int ns.sum) H):=by
 intro Me s σ H xs us Q I r h
 obtain⟨a,ns,rfl,hq,q⟩:=h
 cases r with
 | cons r1 r2 =>
  cases r2
  cases (show _=Value.ref a from r1)
  obtain⟨Mg,rv,p,hz⟩:=I.list hq
  have hi:=intsAre_of rv
  obtain⟨xs',e⟩:=hi.allInts.items
  have e3:numsOf (intItems xs').toList=ns:=by rw[← e];exact hi.numsOf
  rw[nums_intItems] at e3
  refine sum_intListG (I.ok.hd hc) (by rw[← e];exact p.isList) λh' tk t' hk=>⟨.int ns.sum,H,I.kept (t':=tk) hk,⟨t',?_⟩,q⟩
  rw[preSum_eq,List.take_of_length_le (by simp),e3]
structure fq (K:PySem.W.Frag) (C:Addr):Prop where
 ga:PySem.W.findIn K (.ref C) "__getattribute__" = some (some (.builtin "BaseException.__getattribute__"))
 gn:PySem.W.findIn K (.ref C) "__getattr__" = some none
 hd:PySem.W.hasDictIn K C=true
 sa:PySem.W.findIn K (.ref C) "__setattr__" = some (some (.builtin "object.__setattr__"))
 mb:PySem.W.mroIn K C (.type "BaseException")=some true
 mo:PySem.W.mroIn K C (.type "object")=some true
 ca:PySem.W.findIn K (.ref C) "__class__" = some (some (.builtin "object.__class__"))
 cg:PySem.W.specialIn K (.builtin "object.__class__") "__get__" = some (some (.builtin "getset_descriptor.__get__"))
 ct:PySem.W.takesIn K (.builtin "object.__class__")=some true
variable{name:Str}{ox:Obj}
section
variable{E:Value->Shared->Prop}{K:PySem.W.Frag}{x:Addr}{od:Option Obj}
theorem yK:builtinKind "BaseException.__getattribute__" = some .slot:=by decide +kernel
theorem xk:splitId "BaseException.__getattribute__" = some ("BaseException", "__getattribute__"):=by decide +kernel
theorem Gg{tk:Tok}{fill expr:Bool}(c:fq K C)(X:K.In s.heap)(I:PySem.W.InstAt s.heap x ox C od)
  (h:wpAny (model prog w) A.in1 (Builtin.«object.__getattribute__» ⟨[.ref x,.str name tk],[]⟩)
   (λfin s'=>match fin with | .done (.ret v)=>wpAny (model prog w) A (handedOut v) Q E s' | _=>False) (λ_ _=>False) s) :
  wpAny (model prog w) A (getAttrBy (.ref x) (.str name tk) fill expr) Q E s:=by
 have Nr:(Value.builtin "BaseException.__getattribute__" == Value.builtin "object.__getattribute__")=false:=by decide +kernel
 have Pm:(onTheHeap (Value.ref C)&&Value.builtin "BaseException.__getattribute__" == Value.builtin "object.__getattribute__")=false:=by rw[Nr];rfl
 have hx0:(expr&&onTheHeap (Value.builtin "BaseException.__getattribute__"))=false:=by cases expr <;> rfl
 have sub:PySem.W.Looks (model prog w) s.heap (isInstance (.ref x) (.type "BaseException")) true:=I.type.andThen (PySem.W.looks_mroIn X c.mb)
 unfold getAttrBy
 refine wpAny_holding (wpAny_bind (I.type.here (wpAny_bind ((PySem.W.looks_findIn X c.ga).here ?_))))
 dsimp only
 rw[Pm,if_neg Bool.false_ne_true]
 unfold getAttrByItsOwn hookBefore
 refine wpAny_bind ?_
 show wpAny _ _ (typeLookup (.ref C) "__getattr__") _ _ _
 refine(PySem.W.looks_findIn X c.gn).here ?_
 refine wpAny_bind (wpAny_attempt (wpAny_holding ?_))
 unfold callGetattribute
 rw[hx0,if_neg Bool.false_ne_true]
 unfold boundAndCalled
 refine wpAny_bind (wpAny_of_eq (PySem.F.attr_ValueError.ga.bind _) ?_)
 refine wpAny_call (codeAny_call_builtin PySem.F.attr_ValueError.ga.plain PySem.F.entry_bexc_ga (@PySem.W.check_slot (model prog w) _ _ s "BaseException.__getattribute__" "BaseException" "__getattribute__" (.ref x) [.str name tk] [] _ yK xk sub (PySem.F.args_bexc_ga _ _) ?_))
 refine wpAny_mono h (λfin s' z=>?_) (λ_ _ z=>z.elim)
 rcases fin with (v | _ | _ | _) | _ <;> first | exact z | exact z.elim
end
variable{newId:String}{dd:Option Addr}
variable{f:Addr}
section
open PySem.Builtin.ObjectAttr (storeInOwnDict storeTaker? setByDescriptor)
abbrev eQ:List Value:=[.type "ValueError", .type "Exception", .type "BaseException", .type "object"]
def fS:List Value->Bool
 | .ref _::r=>fS r
 | l=>l==eQ
theorem oZ(self:Value):refuseLoop self "__setattr__" eQ=pure ():=by kernel_rfl
theorem mB(self:Value):∀ {l:List Value},fS l=true->refuseLoop self "__setattr__" l=pure ()
 | .ref c::r,e=>by rw[PySem.refuseLoop_ref];exact mB self e
 | [],e=>by cases (show false=true from e)
 | .type n::r,e=>by rw[show Value.type n::r=eQ from beq_iff_eq.mp e];exact oZ self
 | .none::r,e=>by rw[show Value.none::r=eQ from beq_iff_eq.mp e];exact oZ self
section
variable{E:Value->Shared->Prop}{K:PySem.W.Frag}{x:Addr}{od:Option Obj}
theorem pC{a g:Value}(hc:(PySem.W.clsIn K C).isSome=true)(ha:PySem.W.findIn K (.ref C) name=some (some a))(hg:PySem.W.specialIn K a "__get__" = some (some g))(ht:PySem.W.takesIn K a=some true):PySem.W.findObj K C od name=some (.bind g a):=by
 obtain⟨cd,hc⟩:=Option.isSome_iff_exists.mp hc
 unfold PySem.W.findObj
 rw[hc,Option.bind_some,ha,Option.bind_some]
 simp[hg,ht]
theorem yn{Q:Option Value->Shared->Prop}(c:fq K C)(X:K.In s.heap)(I:PySem.W.InstAt s.heap x ox C od)(h:Q (some (.ref C)) { s with toks:=s.toks+1 }):wpAny (model prog w) A (getAttr? (.ref x) "__class__") Q E s:=by
 have hc:(PySem.W.clsIn K C).isSome=true:=by obtain⟨cd,hc,_⟩:=PySem.W.any_some c.hd;rw[hc];rfl
 have hf:PySem.W.findObj K C od "__class__" = some (.bind (.builtin "getset_descriptor.__get__") (.builtin "object.__class__")):=pC hc c.ca c.cg c.ct
 unfold getAttr? getAttrBy?
 refine wpAny_bind (wpAny_mkText (wpAny_bind (wpAny_attempt ?_)))
 refine Gg (s:={ s with toks:=s.toks+1 }) c X I ?_
 unfold Builtin.«object.__getattribute__»
 refine wpAny_bind (wpAny_pure ?_)
 dsimp only
 refine wpAny_bind (wpAny_pure ?_)
 refine wpAny_bind (I.type.here (s:={ s with toks:=s.toks+1 }) (wpAny_bind ((PySem.W.looks_find X I hf).here (s:={ s with toks:=s.toks+1 }) ?_)))
 show wpAny _ _ (holding [.builtin "object.__class__"] (call (.builtin "getset_descriptor.__get__") [.builtin "object.__class__", .ref x,.ref C]) >>= ret) _ _ _
 refine wpAny_bind (wpAny_holding (wpAny_call (PySem.W.class_get (s:={ s with toks:=s.toks+1 }) (ox:=ox) (od:=od) X I c.mo ?_)))
 refine wpAny_pure ?_
 exact PySem.W.handed_on rfl (wpAny_pure h)
theorem t9(c:fq K C):PySem.W.KitX K (.ref x) (.ref C) (λh=>PySem.W.InstAt h x ox C od) where
 ty:=λ_ _ _ I=>I.type
 it:=λ_ _ X _=>by
  obtain⟨cdD,Ol,_⟩:=PySem.W.any_some c.hd
  unfold PySem.W.clsIn at Ol
  split at Ol
  ·rename_i c' d' cd' sl' ho
   intro A' Q' E' s' k q
   unfold isType loadHead
   exact wpAny_bind (wpAny_loadPart (k _ _ (X _ _ ho)) (wpAny_pure q))
  ·cases Ol
 ne:=λh tp dd Mg n sl X htp=>by
  obtain⟨cdD,Ol,_⟩:=PySem.W.any_some c.hd
  refine Bool.eq_false_iff.mpr λq=>?_
  have e:C=tp:=Value.ref.inj (beq_iff_eq.mp q)
  subst e
  unfold PySem.W.clsIn at Ol
  split at Ol
  ·rename_i c' d' cd' sl' ho
   have z:=(X _ _ ho).symm.trans htp
   cases z
  ·cases Ol
 ca:=λX I k=>yn c X I k
theorem C4{tk:Tok}{v:Value}{R:Result->Shared->Prop}(po:((PySem.W.clsIn K C).any λcd=>fS cd.mro)=true)(c:fq K C)(X:K.In s.heap)(I:PySem.W.InstAt s.heap x ox C od)(ht:PySem.W.takerIn K C name=some none)
  (h:∀ b,wpAny (model prog w) A.in1 (storeInOwnDict (.ref x) (.ref C) (.str name tk) name v b)
   (λfin s'=>match fin with | .done f=>R (.ok f) s' | .again c'=>c'.quiet=true/\codeAny (model prog w) A c' R s') (λe s'=>R (.error e) s') s) :
  codeAny (model prog w) A (.call (.builtin "object.__setattr__") ⟨[.ref x,.str name tk,v],[]⟩) R s:=by
 have SF:=PySem.F.store_object
 obtain⟨cd,hc,ho⟩:=PySem.W.any_some po
 have sub:PySem.W.Looks (model prog w) s.heap (isInstance (.ref x) (.type "object")) true:=I.type.andThen (PySem.W.looks_mroIn X c.mo)
 refine codeAny_call_builtin SF.slot.plain SF.entry (@PySem.W.check_slot (model prog w) _ _ s "object.__setattr__" "object" "__setattr__" (.ref x) [.str name tk,v] [] _ SF.kind SF.split sub (SF.args (.ref x) (.str name tk) v) ?_)
 obtain⟨attr,ha,hr⟩:=Option.bind_eq_some_iff.mp ht
 have hm:PySem.W.Looks (model prog w) s.heap (mroOf (.ref C)) cd.mro:=(PySem.W.looks_clsIn X hc).andThen .now
 have L3:PySem.W.Looks (model prog w) s.heap (storeTaker? attr) none:=by
  cases attr with
  | none=>cases hr;exact .now
  | some a =>
   obtain⟨b,hb,e⟩:=Option.map_eq_some_iff.mp hr
   refine(PySem.W.looks_takesIn X hb).andThen ?_
   cases b with
   | true=>cases e
   | false=>exact .now
 rw[PySem.W.osa_eq,PySem.refuse_eq]
 refine wpAny_bind (wpAny_bind (I.type.here (wpAny_bind (hm.here ?_))))
 rw[mB _ ho]
 refine wpAny_pure (wpAny_bind (I.type.here (wpAny_bind ((PySem.W.looks_findIn X ha).here (wpAny_bind (L3.here ?_))))))
 exact h _
theorem Ag{vs:Array Value}{v:Value}{Q:Unit->Shared->Prop}(po:((PySem.W.clsIn K C).any λcd=>fS cd.mro)=true)(c:fq K C)(X:K.In s.heap)(hx:s.heap.get? x=some ⟨.ref C,none,.fields vs,#[]⟩)(ht:PySem.W.takerIn K C name=some none)
  (h:∀ h' tk d,h'.get? x=some ⟨.ref C,some d,.fields vs,#[]⟩->s.heap.get? d=none->h'.Ns1 d (λy=>if y=name then some v else none)->(∀ b o,b≠x->s.heap.get? b=some o->h'.get? b=some o)->Q () { s with heap:=h',toks:=tk }) :
  wpAny (model prog w) A (setAttr (.ref x) name v) Q E s:=by
 have I:PySem.W.InstAt s.heap x ⟨.ref C,none,.fields vs,#[]⟩ C none:=⟨hx,rfl,rfl,trivial⟩
 refine PySem.W.set_plain X I c.sa (C4 (s:={ s with toks:=s.toks+1 }) po c X I ht λb=>?_)
 obtain⟨cd,hc,Px⟩:=PySem.W.any_some c.hd
 have Nd:=Heap.lt_size hx
 refine wpAny_bind (wpAny_pure (wpAny_bind (wpAny_bind (wpAny_loadPart hx (wpAny_bind (PySem.W.Looks.here (s:={ s with toks:=s.toks+1 }) (PySem.W.looks_clsIn X hc) ?_))))))
 rw[Px]
 refine wpAny_bind (wpAny_alloc ?_)
 have Pm:(s.heap.push { cls:=.type "dict", data:=.dict #[] }).get? x=some ⟨.ref C,none,.fields vs,#[]⟩:=Heap.get?_push_of_some _ hx
 refine wpAny_bind (wpAny_update Pm ?_)
 refine wpAny_pure (a:=some s.heap.objs.size) (wpAny_bind (wpAny_pure (wpAny_bind ?_)))
 have Nr:((s.heap.push { cls:=.type "dict", data:=.dict #[] }).update x λo=>{ o with dict:=some s.heap.objs.size }).get? x=some ⟨.ref C,some s.heap.objs.size,.fields vs,#[]⟩:=Heap.get?_update_self _ Pm rfl
 have e1:(s.heap.push { cls:=.type "dict", data:=.dict #[] }).get? s.heap.objs.size=some { cls:=.type "dict", data:=.dict #[] }:=Heap.get?_push_size s.heap rfl
 have nxd:s.heap.objs.size≠x:=Nat.ne_of_gt Nd
 have e2:((s.heap.push { cls:=.type "dict", data:=.dict #[] }).update x λo=>{ o with dict:=some s.heap.objs.size }).get? s.heap.objs.size=some { cls:=.type "dict", data:=.dict #[] }:=by
  rw[Heap.get?_update_other _ _ (Ne.symm nxd)]
  exact e1
 have e3:((s.heap.push { cls:=.type "dict", data:=.dict #[] }).update x λo=>{ o with dict:=some s.heap.objs.size }).Ns s.heap.objs.size (λ_=>none):=⟨_,#[],_,e2,rfl,(λe he=>absurd he (by simp)),λ_=>rfl⟩
 refine wpAny_nsSet1 (s:={ s with heap:=(s.heap.push { cls:=.type "dict", data:=.dict #[] }).update x λo=>{ o with dict:=some s.heap.objs.size },toks:=s.toks+1 }) (Heap.Ns1.of_empty e3) λh' OM Nm=>?_
 obtain⟨oD,esD,epD,hoD,hdD,Ol⟩:=OM.count (PySem.Within.cons (ns:=[]) name v (λy hy=>absurd rfl hy))
 refine wpAny_bind (wpAny_lookBehind hoD (by rw[hdD];exact pastItsLine_dict (Nat.le_trans Ol (by show 1<=sizeLine+1;exact Nat.le_add_left _ _))) ?_)
 refine wpAny_pure (h h' _ s.heap.objs.size ((Nm.2 x (Ne.symm nxd)).trans Nr) (Heap.get?_none_of_le (Nat.le_refl _)) OM λb o hb e=>?_)
 refine(Nm.2 b (Nat.ne_of_lt (Heap.lt_size e))).trans ?_
 rw[Heap.get?_update_other _ _ (Ne.symm hb)]
 exact Heap.get?_push_of_some _ e
end
def om(K:PySem.W.Frag)(C:Addr)(newId:String)(f:Addr):Bool:=match K.lookup C with
 | some ⟨.type "type", _,.cls cd,sl⟩=>(match cd.mro,sl.toList with
  | .ref C'::bm,[_,_,_,_,some (.builtin n),_]=>C'==C&&n==newId&&!cd.hasDel&&PySem.W.tailIn K eQ bm&&PySem.W.nsOkIn K cd.ns&&PySem.W.nsIn K cd.ns "__init__" == some (some (.ref f))
  | _,_=>false)
 | _=>false
section
variable{E:Value->Shared->Prop}{g:Array GenState}{d:Drawn}{t:Nat}{os:OsState}
variable{nm q:Str}{N:Addr}{bs bm:List Value}{NR:Bool}{sn:List Str}{sub:List Value}{ab:Bool}{col:Option Bool}{k0 k1 k2 k3 k5:Option Value}{Pc:String}
theorem oA(F:ExcBaseFacts "ValueError" newId Pc eQ)(T:OwnTail h eQ bm){mN:Str->Option Value}{rest:List Value}{Q:Fin->Shared->Prop}
  (hC:h.get? C=some (excClassObj nm q C N bs bm NR sn sub ab col dd k0 k1 k2 k3 k5 newId)) (hn:h.Ns N mN) (N_:mN "__init__" = some (.ref f))
  (hb:∀ h':Heap,(∀ b o,h.get? b=some o->h'.get? b=some o)->∀ self,PySem.W.Looks (model prog w) h' (bindSpecial (.ref f) self) (.ref f,[self]))
  (hq:∀ h':Heap,(∀ b o,h.get? b=some o->h'.get? b=some o)->h'.get? h.objs.size=some { cls:=.type "tuple", data:=.seq rest.toArray } ->
   h'.get? (h.objs.size+1)=some { cls:=.ref C,data:=.fields #[.ref h.objs.size,.none,.none,.none,.bool false,.none] }->h'.objs.size=h.objs.size+2 ->
   wpAny (model prog w) A (call (.ref f) (.ref (h.objs.size+1)::rest)) (λv s'=>v=.none/\Q (.done (.ret (.ref (h.objs.size+1)))) s') E ⟨h',g,d,t,os⟩) (zL:rest.length<=sizeLine:=by size_fits) :
  wpAny (model prog w) A (Builtin.«type.__call__» ⟨.ref C::rest,[]⟩) Q E ⟨h,g,d,t,os⟩:=by
 repeat (first | with_reducible refine wpAny_loadPart_at hC ?_ | with_reducible refine wpAny_madeBy_exc hC ?_ | wp_step)
 refine codeAny_call_builtin_code (Code.quiet_builtin _ F.quiet) (wpAny_check_new_subT F T hC ?_)
 refine codeAny_exc_new_subT F T hC ?_ zL
 show wpAny _ _ _ _ _ _
 have kp:∀ b o,h.get? b=some o->((h.push { cls:=.type "tuple", data:=.seq rest.toArray }).push { cls:=.ref C,data:=.fields #[.ref h.objs.size,.none,.none,.none,.bool false,.none] }).get? b=some o:=λb o e=>Heap.get?_push_of_some _ (Heap.get?_push_of_some _ e)
 have hC1:=kp _ _ hC
 have hn₁:((h.push { cls:=.type "tuple", data:=.seq rest.toArray }).push { cls:=.ref C,data:=.fields #[.ref h.objs.size,.none,.none,.none,.bool false,.none] }).Ns N mN:=hn.keeps kp
 have PB:((h.push { cls:=.type "tuple", data:=.seq rest.toArray }).push
   { cls:=.ref C,data:=.fields #[.ref h.objs.size,.none,.none,.none,.bool false,.none] }).get? (h.objs.size+1)=some
   { cls:=.ref C,data:=.fields #[.ref h.objs.size,.none,.none,.none,.bool false,.none] }:=by heap_get
 have htup:((h.push { cls:=.type "tuple", data:=.seq rest.toArray }).push
   { cls:=.ref C,data:=.fields #[.ref h.objs.size,.none,.none,.none,.bool false,.none] }).get? h.objs.size=some { cls:=.type "tuple", data:=.seq rest.toArray }:=Heap.get?_push_of_some _ (Heap.get?_push_size _ rfl)
 have hsz:((h.push { cls:=.type "tuple", data:=.seq rest.toArray }).push { cls:=.ref C,data:=.fields #[.ref h.objs.size,.none,.none,.none,.bool false,.none] }).objs.size=h.objs.size+2:=by rw[Heap.size_push,Heap.size_push]
 have hcC:(Value.ref C::bm).contains (.ref C)=true:=by simp
 have T1:=T.keeps kp
 have hb₁:=hb _ kp (.ref (h.objs.size+1))
 have fin:=hq _ kp htup PB hsz
 generalize ((h.push { cls:=.type "tuple", data:=.seq rest.toArray }).push { cls:=.ref C,data:=.fields #[.ref h.objs.size,.none,.none,.none,.bool false,.none] })=h1 at *
 unfold isInstance
 repeat (first | with_reducible refine wpAny_loadPart_at PB ?_ | (with_reducible refine wpAny_isSubtype_exc hC1 ?_;rw[hcC]) | wp_step)
 show wpAny _ _ (typeLookup (.ref C) _) _ _ _
 refine wpAny_typeLookup_tail hC1 hn₁ T1 F.mroIs F.init.lookup ?_
 rw[N_]
 refine wpAny_holding (wpAny_bind (hb₁.here ?_))
 refine wpAny_bind (wpAny_mono fin (λv s' z=>?_) λ_ _ z=>z)
 obtain⟨rfl,z⟩:=z
 wp_walk
 exact z
end
end
def gC(C:Addr)(dd:Option Addr)(e:Addr):HO:=.ext λh=>∃ vs,h.get? e=some ⟨.ref C,dd,.fields vs,#[]⟩
theorem C8{e:Addr}{vs:Array Value}(he:h.get? e=some ⟨.ref C,dd,.fields vs,#[]⟩):bx P w H h e (gC C dd e) :=
 ⟨⟨vs,he⟩,⟨_,he⟩,λ_ _ ⟨vs,q⟩ k=>⟨vs,k _ q⟩⟩
def ExcAt(H:Hp)(e C:Addr)(fo:Option (List (Str×V))):Prop:=match fo with
 | none=>H e=some (gC C none e)
 | some fs=>∃ d,H e=some (gC C (some d) e)/\H d=some (.xd fs)
theorem Inv.oM(I:Inv X Me σ H s){e:Addr}(he:H e=some (gC C dd e)):∃ vs,s.heap.get? e=some ⟨.ref C,dd,.fields vs,#[]⟩:=(I.bu e _ he).1
theorem Inv.CP(I:Inv X Me σ H s){e:Addr}{fo:Option (List (Str×V))}(h:ExcAt H e C fo):∃ ox od,PySem.W.InstAt s.heap e ox C od/\(fo=none->od=none) ∧
  ∀ fs,fo=some fs->∃ (o:Obj) (mA:Str->Option Value),od=some o/\(∀ n,PySem.W.lookIn n o=some (mA n))/\∀ f,jA (fs.lookup f) (mA f):=by
 cases fo with
 | none =>
  obtain⟨vs,q⟩:=I.oM h
  exact⟨_,none,⟨q,rfl,rfl,trivial⟩,λ_=>rfl,λfs z=>(by cases z)⟩
 | some fs =>
  obtain⟨d,h1,h2⟩:=h
  obtain⟨vs,q⟩:=I.oM h1
  obtain⟨mA,n,r⟩:=(show ∃ mA,s.heap.Ns1 d mA/\∀ f,jA (fs.lookup f) (mA f) from I.bu d _ h2)
  obtain⟨o,ho,hl⟩:=lW n
  refine⟨_,some o,⟨q,rfl,rfl,ho⟩,λz=>(by cases z),λOV z=>?_⟩
  cases z
  exact⟨o,mA,rfl,hl,r⟩
theorem Inv.rS(I:Inv X Me σ H s)(hn:s.heap.get? a=none):H a=none:=by
 cases q:H a with
 | none=>rfl
 | some u =>
  exfalso
  have:∀ (u:HO),bx X.prog X.w H s.heap a u->∃ ob,s.heap.get? a=some ob:=by
   intro u
   induction u with
   | lst xs=>intro ⟨_,_,_,_,e⟩;exact⟨_,e⟩
   | tup xs=>intro ⟨_,_,_,p⟩;obtain⟨ob,e,_⟩:=p;exact⟨ob,e⟩
   | dK Mf=>intro ⟨_,_,_,_,p⟩;obtain⟨ob,_,_,e,_⟩:=p;exact⟨ob,e⟩
   | dT Mf=>intro ⟨_,_,_,_,ob,_,_,e,_⟩;exact⟨ob,e⟩
   | set S n=>intro p;obtain⟨es,ob,xs,ep,e,_⟩:=p;exact⟨_,e⟩
   | ins C dx fs=>intro ⟨_,_,_,e,_⟩;exact⟨_,e⟩
   | own x=>intro ⟨ob,e⟩;exact⟨ob,e⟩
   | xd fs=>intro ⟨mA,n,_⟩;obtain⟨ob,e,_⟩:=lW n;exact⟨ob,e⟩
   | met f x=>intro e;exact⟨_,e⟩
   | ki lo hi=>intro ⟨_,_,_,e⟩;exact⟨_,e⟩
   | pT o u _=>intro ⟨e,_⟩;exact⟨_,e⟩
   | EV ps=>intro e;exact⟨_,e⟩
   | ext φ=>intro ⟨_,⟨ob,e⟩,_⟩;exact⟨ob,e⟩
  obtain⟨ob,e⟩:=this u (I.bu a u q)
  rw[hn] at e;cases e
theorem Inv.Ea{o:HO}(I:Inv X Me σ H s)(k:∀ b u,s.heap.get? b=some u->h'.get? b=some u)(hn:s.heap.get? a=none)(new:bx X.prog X.w (upd H a o) h' a o) :
  Inv X Me σ (upd H a o) { s with heap:=h',toks:=t' }:=by
 have ne:∀ b u,s.heap.get? b=some u->b≠a:=λb u e z=>by rw[z,hn] at e;cases e
 have Oq:H a=none:=I.rS hn
 have OD:∀ b u,H b=some u->b≠a:=λb u e z=>by rw[z,Oq] at e;cases e
 refine I.un ⟨λb u e _ _ _=>k b u e,λb u e _ _ _=>⟨u.slots,k b u e⟩,λb u e n _=>by rw[ao (ne b u e)];exact n,λb u e _=>⟨u,k b u e⟩,
  λb xs e=>by rw[ao (OD b _ e)];exact e,λb ob u e=>by rw[ao (OD b _ e)];exact e,λb ps e=>⟨#[],by rw[ao (OD b _ e),e];simp⟩⟩ λb u e=>?_
 by_cases z:b=a
 ·subst z
  rw[az] at e
  cases e
  exact new
 ·rw[ao z] at e
  refine(I.bu b u e).lj (λc v _ q=>k c v q) (λc q=>?_) λc ys q=>?_
  ·rw[ao (OD c _ q)];exact q
  ·rw[ao (OD c _ q)];exact q
variable{apos:Pos}{m:Str}{ta:TE}{o:Expr}
section
variable{f:Str}{pos:Pos}
def Kq(K:PySem.W.Frag):List V->Hp->VK->Prop:=λxs H Q=>∃ e C fo b,fq K C/\ExcAt H e C fo ∧
 ((∃ T,xs=[.ref e,.ty T]/\PySem.W.kitOne K (.ref C) (.type T)=some b)\/(∃ D,xs=[.ref e,.ref D]/\PySem.W.kitOne K (.ref C) (.ref D)=some b))/\Q (.bl b) H
theorem oy:cy X (.builtin "isinstance") (Kq X.K):=by
 intro Me s σ H xs us Q I r h
 obtain⟨e,C,fo,b,c,ha,hc,q⟩:=h
 obtain⟨ox,od,J,_⟩:=I.CP ha
 rcases hc with ⟨T,rfl,hk⟩ | ⟨D,rfl,hk⟩
 ·cases r with
  | cons r1 r2 =>
   cases r2 with
   | cons r3 r4 =>
    cases r4
    cases (show _=Value.ref e from r1)
    cases (show _=Value.type T from r3)
    exact PySem.W.kia_one (t9 c) I.jt J hk (λz=>nomatch z) λtk=>⟨.bl b,H,I.tok tk,rfl,q⟩
 ·cases r with
  | cons r1 r2 =>
   cases r2 with
   | cons r3 r4 =>
    cases r4
    cases (show _=Value.ref e from r1)
    cases (show _=Value.ref D from r3)
    exact PySem.W.kia_one (t9 c) I.jt J hk (λz=>nomatch z) λtk=>⟨.bl b,H,I.tok tk,rfl,q⟩
end
variable{mg:Str->Option Value}
theorem uY{K:PySem.W.Frag}{N:Addr}{n:Str}{v:Value}(X:K.In h)(G:h.Ns N mg)(e:PySem.W.nsIn K N n=some (some v)):mg n=some v:=by
 obtain⟨o,es,ep,ho,hd,_,hf⟩:=G
 unfold PySem.W.nsIn at e
 split at e
 ·rename_i c d es' n' sl q
  have:=X _ _ q
  rw[ho] at this
  cases this
  cases hd
  split at e
  ·rename_i en he
   cases e
   rw[← hf]
   unfold nsFind findBy
   rw[← Array.find?_toList,he]
   rfl
  ·split at e <;> cases e
 ·cases e
theorem B5{K:PySem.W.Frag}(X:K.In h)(q:PySem.W.excIn K C eQ newId=true) :
  ∃ bm N nm qn bs NR sn sub ab col dd k0 k1 k2 k3 k5 mN,h.get? C=some (excClassObj nm qn C N bs bm NR sn sub ab col dd k0 k1 k2 k3 k5 newId)/\h.Ns N mN/\mN "__init__" = none/\OwnTail h eQ bm:=by
 unfold PySem.W.excIn at q
 split at q
 ·rename_i dd cd sl ho
  split at q
  ·rename_i C' bm k0 k1 k2 k3 n k5 hm hs
   simp only[Bool.and_eq_true,beq_iff_eq,Bool.not_eq_true'] at q
   obtain⟨⟨⟨⟨⟨rfl,rfl⟩,Om⟩,ht⟩,bu⟩,N_⟩:=q
   obtain⟨nm,bs,mro,ns,qn,hd,sn,sub,ab,col,del⟩:=cd
   dsimp only at hm Om bu N_
   subst hm Om
   have hsl:sl=#[k0,k1,k2,k3,some (.builtin n),k5]:=by
    obtain⟨l⟩:=sl
    simp only at hs
    rw[hs]
   subst hsl
   exact⟨bm,ns,nm,qn,bs,hd,sn,sub,ab,col,dd,k0,k1,k2,k3,k5,_,X _ _ ho,.of_isNs (PySem.W.isNs_of_in X bu),PySem.W.nsMap_none_of_in X bu N_,PySem.W.tail_of_in X ht⟩
  ·cases q
 ·cases q
theorem zK{K:PySem.W.Frag}(X:K.In h)(q:om K C newId f=true) :
  ∃ bm N nm qn bs NR sn sub ab col dd k0 k1 k2 k3 k5 mN,h.get? C=some (excClassObj nm qn C N bs bm NR sn sub ab col dd k0 k1 k2 k3 k5 newId)/\h.Ns N mN/\mN "__init__" = some (.ref f)/\OwnTail h eQ bm:=by
 unfold om at q
 split at q
 ·rename_i dd cd sl ho
  split at q
  ·rename_i C' bm k0 k1 k2 k3 n k5 hm hs
   simp only[Bool.and_eq_true,beq_iff_eq,Bool.not_eq_true'] at q
   obtain⟨⟨⟨⟨⟨rfl,rfl⟩,Om⟩,ht⟩,bu⟩,N_⟩:=q
   obtain⟨nm,bs,mro,ns,qn,hd,sn,sub,ab,col,del⟩:=cd
   dsimp only at hm Om bu N_
   subst hm Om
   have hsl:sl=#[k0,k1,k2,k3,some (.builtin n),k5]:=by
    obtain⟨l⟩:=sl
    simp only at hs
    rw[hs]
   subst hsl
   have hN:=Heap.Ns.of_isNs (PySem.W.isNs_of_in X bu)
   exact⟨bm,ns,nm,qn,bs,hd,sn,sub,ab,col,dd,k0,k1,k2,k3,k5,_,X _ _ ho,hN,uY X hN N_,PySem.W.tail_of_in X ht⟩
  ·cases q
 ·cases q
variable{k:Nat}{es:List Expr}{e:Expr}{sp:Sp}{ps:List Str}{fd:FuncData}
section
variable{p pos:Pos}{t:TA}
end
section
open PySem.SeqAt (shaped noMix noMixAll)
end
section
open PySem.SeqAt (shaped noMix noMixAll)
theorem C0{x:V}{u t:Value}(I:Inv X Me σ H s)(rx:RelV x u)(ty:jo X.K H x t):∃ HH:Heap->Prop,PySem.W.KitX X.K u t HH/\HH s.heap/\u≠.builtin "__main__.__loader__#opaque" := by
 cases ty with
 | cL=>cases (show u=Value.none from rx);exact⟨_,PySem.W.kitx_none,True.intro,λz=>nomatch z⟩
 | bl y=>cases (show u=Value.bool y from rx);exact⟨_,PySem.W.kitx_bool,True.intro,λz=>nomatch z⟩
 | int i=>obtain⟨t,q⟩:=(show ∃ t,u=Value.int i t from rx);cases q;exact⟨_,PySem.W.kitx_int,True.intro,λz=>nomatch z⟩
 | str y=>obtain⟨t,q⟩:=(show ∃ t,u=Value.str y t from rx);cases q;exact⟨_,PySem.W.kitx_str,True.intro,λz=>nomatch z⟩
 | Ex y=>obtain⟨t,q⟩:=(show ∃ t,u=Value.float y t from rx);cases q;exact⟨_,PySem.W.kitx_float,True.intro,λz=>nomatch z⟩
 | @lst a xs ea =>
  cases (show u=Value.ref a from rx)
  obtain⟨_,_,n,_,h1⟩:=(show bx X.prog X.w H s.heap a (.lst xs) from I.bu a _ ea)
  exact⟨_,PySem.W.kitx_list,⟨_,h1,rfl⟩,λz=>nomatch z⟩
 | @pT a ob xs ea =>
  cases (show u=Value.ref a from rx)
  obtain⟨_,_,_,n,_,h1⟩:=(show bx X.prog X.w H s.heap a (.pT ob (.lst xs)) from I.bu a _ ea)
  exact⟨_,PySem.W.kitx_list,⟨_,h1,rfl⟩,λz=>nomatch z⟩
 | @tup a xs ea =>
  cases (show u=Value.ref a from rx)
  obtain⟨_,_,_,o,h1,h2,_⟩:=(show bx X.prog X.w H s.heap a (.tup xs) from I.bu a _ ea)
  exact⟨_,PySem.W.kitx_tuple,⟨o,h1,h2⟩,λz=>nomatch z⟩
 | @dK a Mf ea =>
  cases (show u=Value.ref a from rx)
  obtain⟨_,_,vs,_,o,es,ep,h1,h2,_⟩:=(show bx X.prog X.w H s.heap a (.dK Mf) from I.bu a _ ea)
  exact⟨_,PySem.W.kitx_dict,⟨o,h1,h2.1⟩,λz=>nomatch z⟩
 | @dT a Mf ea =>
  cases (show u=Value.ref a from rx)
  obtain⟨_,_,xs,_,o,es,ep,h1,h2,_⟩:=(show bx X.prog X.w H s.heap a (.dT Mf) from I.bu a _ ea)
  exact⟨_,PySem.W.kitx_dict,⟨o,h1,h2.1⟩,λz=>nomatch z⟩
 | @ins a C dx fs ea cl ha hn Hz hm =>
  cases (show u=Value.ref a from rx)
  obtain⟨mA,O,_⟩:=ly I.bu ea
  obtain⟨od,J,_⟩:=O.look
  exact⟨_,PySem.W.kitx_own (cl.get _) cl.hd ha hn Hz hm,J,λz=>nomatch z⟩
def IA(K:PySem.W.Frag):List V->Hp->VK->Prop:=λxs H Q=>∃ (x:V) (tp:Addr) (Ts:List String) (t:Value) (b:Bool),xs=[x,.ref tp]/\H tp=some (.tup (Ts.map V.ty))/\jo K H x t/\PySem.W.kitAny K t (Ts.map Value.type)=some b/\Q (.bl b) H
theorem wW:∀ {Ts:List String} {us:List Value},Vals (Ts.map V.ty) us->us=Ts.map Value.type
 | [],us,r=>by rw[List.map_nil] at r;cases r;rfl
 | T::Ts,us,r=>by
  rw[List.map_cons] at r
  cases r with
  | cons r1 r2 =>
   cases (show _=Value.type T from r1)
   rw[wW r2]
   rfl
theorem yp:cy X (.builtin "isinstance") (IA X.K):=by
 intro Me s σ H xs us Q I r h
 obtain⟨x,tp,Ts,t,b,rfl,htp,ty,e,q⟩:=h
 cases r with
 | cons r1 r2 =>
  cases r2 with
  | cons r3 r4 =>
   cases r4
   cases (show _=Value.ref tp from r3)
   obtain⟨HH,Z,p,ne⟩:=C0 I r1 ty
   obtain⟨_,Mg,rv,o,h1,h2,n,h3⟩:=(show bx X.prog X.w H s.heap tp (.tup (Ts.map V.ty)) from I.bu tp _ htp)
   have ei:=wW rv
   subst ei
   obtain⟨cls,dd,data,sl⟩:=o
   dsimp only at h2 h3
   subst h2 h3
   exact PySem.W.kia_tup Z I.jt p h1 e ne λtk=>⟨.bl b,H,I.tok tk,rfl,q⟩
theorem wd:∀ {bs:List Bool} {us:List Value},Vals (bs.map V.bl) us->us=bs.map Value.bool
 | [],us,r=>by rw[List.map_nil] at r;cases r;rfl
 | b::bs,us,r=>by
  rw[List.map_cons] at r
  cases r with
  | cons r1 r2 =>
   cases (show _=Value.bool b from r1)
   rw[wd r2]
   rfl
theorem E5:bootBuiltins "all" = some (.builtin "all"):=by decide +kernel
theorem xJ(hc:X.calm=true):cy X (.builtin "all") (λxs H Q=>∃ (a:Addr) (bs:List Bool),xs=[.ref a]/\eI X.K H a (bs.map V.bl)/\Q (.bl (bs.all id)) H):=by
 intro Me s σ H xs us Q I r h
 obtain⟨a,bs,rfl,hq,q⟩:=h
 cases r with
 | cons r1 r2 =>
  cases r2
  cases (show _=Value.ref a from r1)
  obtain⟨Mg,rv,p,hz⟩:=I.list hq
  have ei:=wd rv
  subst ei
  have hl:=p.isList
  have Nd:a<s.heap.objs.size:=by obtain⟨_,e,_⟩:=hl;exact Heap.lt_size e
  refine call_all_walk (wpAny_pyIter_list hl ?_)
  refine⟨s.heap.objs.size,[s.heap.objs.size,a],[s.heap.objs.size],(bs.map Value.bool).toArray.size,_,_,λi=>(bs[i]?).getD true,rfl,Walks.list (A:=X.A.in1) (I.ok.hd hc) _ a (Nat.ne_of_lt Nd) (bs.map Value.bool).toArray,
   ⟨⟨_,Heap.get?_push_size _ rfl,rfl,rfl⟩,hl.push _⟩,λi v s' Q' E' hP hQ=>?_,λh' tk hk=>?_⟩
  ·have hP':(bs.map Value.bool)[i]?=some v:=by simpa using hP
   rw[List.getElem?_map] at hP'
   obtain⟨b,e1,e2⟩:=Option.map_eq_some_iff.mp hP'
   subst e2
   simp only[e1,Option.getD_some] at hQ
   exact wpAny_truthy_bool hQ
  ·have e:((List.range (bs.map Value.bool).toArray.size).all λi=>(bs[i]?).getD true)=bs.all id:=by
    rw[List.size_toArray,List.length_map]
    rw[Bool.eq_iff_iff,List.all_eq_true,List.all_eq_true]
    constructor
    ·intro h b hb
     obtain⟨i,hi,e⟩:=List.getElem_of_mem hb
     have:=h i (List.mem_range.mpr hi)
     simp only[List.getElem?_eq_getElem hi,Option.getD_some,e] at this
     exact this
    ·intro h i hi
     have OY:=List.mem_range.mp hi
     simp only[List.getElem?_eq_getElem OY,Option.getD_some]
     exact h _ (List.getElem_mem OY)
   rw[e]
   refine⟨.bl _,H,I.kept (t':=tk) (λb x e=>?_),rfl,q⟩
   exact hk b x (λhm=>by rw[List.mem_singleton.mp hm] at e;exact Nat.lt_irrefl _ (Heap.lt_size e)) (Heap.get?_push_of_some _ e)
end
section
open PySem.MeetsSeq PySem.MeetsSeq2 PySem.MeetsSeq3
theorem lY:fillsNumberSlot (.type "tuple") "mul" = pure false :=
 PySem.fillsNumberSlot_seq (id := "tuple.__mul__") (r:=some (.builtin "tuple.__rmul__")) F.slot_tuple_mul.lookup (by decide +kernel) F.slot_tuple_rmul.lookup (by decide +kernel)
theorem sx:seqRepeat? (.type "tuple")=pure (some (.builtin "tuple.__mul__")):=by
 unfold seqRepeat?
 rw[PySem.seqSlot_of (T := "tuple") (name := "__mul__") (id := "tuple.__mul__") F.slot_tuple_mul.lookup (by decide +kernel),PySem.seqSlot_of (T := "tuple") (name := "__rmul__") (id := "tuple.__rmul__") F.slot_tuple_rmul.lookup (by decide +kernel)]
 rfl
theorem rV(a:Int)(t:Tok)(l:Addr)(items:Array Value)(n:Nat)(dd:Option Addr)(sl:Array (Option Value)) :
  Meets (Builtin.«int.__rmul__» ⟨[.int a t,.ref l],[]⟩) (λ_ R s=>s.heap.get? l=some ⟨.type "tuple", dd,.seq items n,sl⟩/\R (.ok (.ret Value.notImplemented)) s) :=
 .of_wp λprog w A R s h=>by obtain⟨hp,g,d,tk,os⟩:=s;obtain⟨hl,h⟩:=h;wp_walk;exact⟨_,rfl,h⟩
theorem ya(l:Addr)(items:Array Value)(n:Nat)(dd:Option Addr)(sl:Array (Option Value))(u:Tok) :
  Meets (Builtin.«tuple.__mul__» ⟨[.ref l,.int 1 u],[]⟩) (λ_ R s=>s.heap.get? l=some ⟨.type "tuple", dd,.seq items n,sl⟩/\R (.ok (.ret (.ref l))) s) :=
 .of_wp λprog w A R s h=>by
  obtain⟨hp,g,d,tk,os⟩:=s;obtain⟨hl,h⟩:=h;have f1:=AutoSeq1.idx_int;have f2:=AutoSeq1.sub_tuple_tuple
  wp_walk using AutoSeq1.wpAny_loadPart' hl
  exact⟨_,rfl,h⟩
theorem xD(l:Addr)(items:Array Value)(n:Nat)(dd:Option Addr)(sl:Array (Option Value))(x:Int)(u:Tok)(c0:¬ (decide (x < -2^63)||decide (x>=2^63))=true)(c1:¬ (items.isEmpty||x==1)=true)(c2:¬ (decide (x<=0)||items.isEmpty)=true)
  (c3:¬ (items.size:Int)*x>(2^63-1)/8) (c4:¬ Builtin.Tuple.tupleTooMany ((items.size:Int)*x)=true) (hsz:(List.foldl (λx1 x2=>x1++x2) #[] (List.replicate x.toNat items)).size<=sizeLine) :
  Meets (Builtin.«tuple.__mul__» ⟨[.ref l,.int x u],[]⟩) (λ_ R s=>s.heap.get? l=some ⟨.type "tuple", dd,.seq items n,sl⟩/\R (.ok (.ret (.ref s.heap.objs.size))) { s with heap:=s.heap.push { cls:=.type "tuple", data:=.seq (List.foldl (λx1 x2=>x1++x2) #[] (List.replicate x.toNat items)) },toks:=s.toks }) :=
 .of_wp λprog w A R s h=>by
  obtain⟨hp,g,d,tk,os⟩:=s;obtain⟨hl,h⟩:=h;have f1:=AutoSeq1.idx_int;have f2:=AutoSeq1.sub_tuple_tuple
  wp_walk using AutoSeq1.wpAny_loadPart' hl
  refine wpAny_ite_false (decide_eq_false c0) ?_;wp_walk using AutoSeq1.wpAny_loadPart' hl
  refine wpAny_ite_false (decide_eq_false c3) ?_;wp_walk using AutoSeq1.wpAny_loadPart' hl
  exact⟨_,rfl,h⟩
theorem xh(l:Addr)(items:Array Value)(n:Nat)(dd:Option Addr)(sl:Array (Option Value))(x:Int)(u:Tok)(c0:¬ (decide (x < -2^63)||decide (x>=2^63))=true)(c1:¬ (items.isEmpty||x==1)=true)(c2:(decide (x<=0)||items.isEmpty)=true) :
  Meets (Builtin.«tuple.__mul__» ⟨[.ref l,.int x u],[]⟩) (λ_ R s=>s.heap.get? l=some ⟨.type "tuple", dd,.seq items n,sl⟩/\R (.ok (.ret (.ref s.heap.objs.size))) { s with heap:=s.heap.push { cls:=.type "tuple", data:=.seq #[] },toks:=s.toks }) :=
 .of_wp λprog w A R s h=>by
  obtain⟨hp,g,d,tk,os⟩:=s;obtain⟨hl,h⟩:=h;have f1:=AutoSeq1.idx_int;have f2:=AutoSeq1.sub_tuple_tuple
  wp_walk using AutoSeq1.wpAny_loadPart' hl
  refine wpAny_ite_false (decide_eq_false c0) ?_;wp_walk using AutoSeq1.wpAny_loadPart' hl
  exact⟨_,rfl,h⟩
def Ez(K:PySem.W.Frag):R2:=λx y H Q=>∃ a k xs,x=.ref a/\y=.int k/\gx K H a xs/\xs≠[]/\-(2^63)<=k/\k<2^63/\xs.length*k.toNat<=sizeLine/\(k=1->Q (.ref a) H)/\(k≠1->∀ p,H p=none->Q (.ref p) (upd H p (.tup (List.replicate k.toNat xs).flatten)))
theorem CN:gc X (binaryOp .Mult) (Ez X.K):=by
 intro Me s σ H x y v u Q I rx ry h
 obtain⟨a,k,xs,rfl,rfl,hq,Ob,h1,h2,hz,q1,q2⟩:=h
 cases rx
 obtain⟨t,rfl⟩:=ry
 obtain⟨Mg,r,⟨o,e,hc,n,hd⟩,_⟩:=I.tuple hq
 obtain⟨cls,dd,data,sl⟩:=o
 dsimp only at hc hd
 subst hc hd
 have hl:=r.length
 refine wpAny_binaryOp_repeat_ref (T := "tuple") (U := "int") (by decide) ⟨_,e,rfl⟩ (λs'=>typeIs_int s' k t) lY F.fills_int_mul F.slot_int_rmul sx F.slot_int_index.lookup
  (call_meets F.slot_int_rmul (typeIs_int s k t) F.entry_int_rmul (F.args_int_rmul_2 _ _) (rV k t a Mg.toArray n dd sl) ⟨e,rfl,⟨_,e,rfl⟩,?_⟩)
 by_cases hk1:k=1
 ·subst hk1
  exact call_meets F.slot_tuple_mul ⟨_,e,rfl⟩ F.entry_tuple_mul (F.args_tuple_mul_2 _ _) (ya a Mg.toArray n dd sl t) ⟨e,⟨.ref a,H,I,rfl,q1 rfl⟩⟩
 ·have hb1:(k==1)=false:=by simpa using hk1
  have N_:Mg≠[]:=λz=>Ob (r.kY.mp z)
  have hie:Mg.toArray.isEmpty=false:=by cases Mg with | nil=>exact absurd rfl N_ | cons _ _=>rfl
  have c0:¬ (decide (k < -2^63)||decide (k>=2^63))=true:=by simp;omega
  have c1:¬ (Mg.toArray.isEmpty||k==1)=true:=by rw[hie,hb1];simp
  have fin:∀ ys,ys=(List.replicate k.toNat Mg).flatten.toArray->EP X Me σ Q (.ref s.heap.objs.size) { s with heap:=s.heap.push { cls:=.type "tuple", data:=.seq ys },toks:=s.toks }:=λys ey=>by
   subst ey
   refine⟨.ref s.heap.objs.size,_,I.laid (t':=s.toks) (o:=.tup (List.replicate k.toNat xs).flatten) (λb ob q=>Heap.get?_push_of_some _ q) (Nat.le_refl _) ?_,rfl,q2 hk1 _ (I.bu.fresh (Nat.le_refl _))⟩
   exact⟨by rw[len_rep,Nat.mul_comm];exact hz,_,r.rep k.toNat,IsTup.new _ _⟩
  have Nl:List.foldl (λx1 x2=>x1++x2) #[] (List.replicate k.toNat Mg.toArray)=(List.replicate k.toNat Mg).flatten.toArray:=by
   have:=foldl_rep Mg k.toNat []
   rw[List.nil_append] at this
   exact this
  by_cases hk0:k<=0
  ·have c2:(decide (k<=0)||Mg.toArray.isEmpty)=true:=by rw[decide_eq_true hk0];rfl
   refine call_meets F.slot_tuple_mul ⟨_,e,rfl⟩ F.entry_tuple_mul (F.args_tuple_mul_2 _ _) (xh a Mg.toArray n dd sl k t c0 c1 c2) ⟨e,fin _ ?_⟩
   rw[show k.toNat=0 by omega]
   rfl
  ·have c2:¬ (decide (k<=0)||Mg.toArray.isEmpty)=true:=by rw[decide_eq_false hk0,hie];simp
   have em:((Mg.toArray.size:Nat):Int)*k=((xs.length*k.toNat:Nat):Int):=by
    rw[List.size_toArray,← hl,Int.natCast_mul,Int.toNat_of_nonneg (by omega)]
   have hs:(sizeLine:Int)<=(2^63-1)/8:=by decide
   refine call_meets F.slot_tuple_mul ⟨_,e,rfl⟩ F.entry_tuple_mul (F.args_tuple_mul_2 _ _) (xD a Mg.toArray n dd sl k t c0 c1 c2 ?_ ?_ ?_) ⟨e,fin _ Nl⟩
   ·rw[em];omega
   ·rw[em]
    unfold Builtin.Tuple.tupleTooMany
    simp only[decide_eq_true_eq]
    omega
   ·rw[Nl,List.size_toArray,len_rep,Nat.mul_comm,← hl]
    exact hz
end
structure bo (K:PySem.W.Frag) (x qual:Str) (st:Stmt) (dv:Value) (f:Addr) (fd:FuncData):Prop where
 ex:∃ (oc:Value) (od:Option Addr) (kV doc pm:Value) (an:Option Addr) (Mr ct:Value) (Od:Array (Option Value)),
  fd=PySem.W.fnOf x qual (gD st) (dw st) (aM st) dv kV doc pm an Mr ct/\K.lookup f=some ⟨oc,od,.func fd,Od⟩/\PySem.W.codeIn K Mr qual=true
 kp:PySem.W.keepIn K (.ref f)=true
variable{base:Heap}
variable{ds:List Value}{T:Addr}{qual:Str}
section
variable{K:PySem.W.Frag}
theorem bo.binds{st:Stmt}{o:Obj}(F:bo K x qual st (.ref T) f fd)(ho:K.lookup T=some o)(hs:o.data=.seq items n)
  (h:∀ (kV doc pm:Value) (an:Option Addr) (Mr ct:Value) (us:List Value),(us++ds).length=ps.length->∃ k,bindArgs (PySem.W.fnOf x qual (gD st) (dw st) (aM st) (.ref T) kV doc pm an Mr ct) ⟨us,[]⟩=seqItems? (.ref T) >>= k/\k (some items)=pure (ps.zip (us++ds))):Binds K fd ps ds:=by
 obtain⟨oc,od,kV,doc,pm,an,Mr,ct,Od,rfl,lk,Nc⟩:=F.ex
 intro s us X hl
 obtain⟨k,h1,h2⟩:=h kV doc pm an Mr ct us hl
 exact BindsTo.of_defaults rfl (X _ _ ho) hs h1 h2
end
variable{v:V}
theorem Jq{pos:Pos}(hg:Gl X x)(hm:∃ u,X.mg x=some u/\RelV v u)(hd:autoParam ((x==("__debug__" : Str))=false) aD._auto_1):PE X (.Name x pos) (tC v):=by
 obtain⟨u,h1,h2⟩:=hm
 exact wV hg h1 h2 hd
theorem GR:bootBuiltins "max" = some (.builtin "max"):=by decide +kernel
theorem zS:bootBuiltins "min" = some (.builtin "min"):=by decide +kernel
variable{y:Str}
theorem CH{cl:List (Str×Addr)}{pos NX py:Pos}{wi:TI}{g:TG}{fs:List Str}(hN:X.N.Nodup)(hiy:X.N[i]?=some y)(hy:Loc X.env.scope y)(Mn:X.calm=true)
  (My:closureFor scope X.env=pure cl) (hk:scope.kind=.function) (nc:fI scope.names=true) (lo:gR scope.names=true) (fh:gK cl scope.names=true) (ag:eo X cl) (fr:iy X scope cl fs js)
  (hi:PI X tg iter wi) (hg:∀ C s₀ H₀ ex Me,PG (pf X scope cl (ts++fs) C s₀ H₀ ex Me) tg g) (he:∀ C s₀ H₀ ex Me,PE (pf X scope cl (ts++fs) C s₀ H₀ ex Me) elt te)
  (hs:autoParam (∀ x,foldedSetIterable iter X.env x=pure x) aI._auto_1) (PN:autoParam (swapsWith (.ListComp elt [⟨tg,iter,[],0⟩] scope pos) (some (.Name y py)) NX.line X.env=pure true) aR._auto_1)
  (hf:autoParam (X.fn y=true\/X.env.scope.names.lookup y=some .local) aF._auto_1) :
  PS X (.Assign [.Name y py] (.ListComp elt [⟨tg,iter,[],0⟩] scope pos) NX) (pG (u7 wi g te ts js) (aH i)):=by
 intro Me s σ H D I h
 rw[exec_Assign_Name_used _ _ _ _ PN]
 refine wpAny_bind (wpAny_standAt (wpAny_bind ?_))
 show wpAny _ X.A (do let _ ← comprehension (.ListComp elt [⟨tg,iter,[],0⟩] scope pos) scope X.env _ (newList []) false (eval iter X.env) (some (assign (.Name y py) X.env))) _ _ s
 refine wpAny_bind (wpAny_mono (sS (tt:=none) Mn My hk nc lo fh ag fr hi hg (λ_ _ _ _ _=>trivial) he hs I (show Ab wi g none te ts js σ H (λx H1=>D.nx (σ.set i (some x)) H1) from h) (some (assign (.Name y py) X.env)) (λ_ s'=>SP X Me D .next s') λDd H' s' C Io q hm f=>?_) (λ_ s' hq=>wpAny_pure (wpAny_pure hq)) λ_ _ e=>e)
 show wpAny _ X.A (assign (.Name y py) X.env (.ref Dd)) _ _ s'
 refine wpAny_assign_Name (qr Io hN hiy hy (v:=.ref Dd) rfl (λs'' I'' ⟨a,sb,ha⟩=>?_) hf)
 obtain⟨m,hn⟩:=hm
 obtain⟨f0,f1,f2,f3,f4,f5⟩:=f
 have naC:a≠C:=by
  rcases ha with z | z
  ·rw[z];exact λw=>f1 w.symm
  ·exact f4 y a z
 refine⟨m,hn.sameBut sb (Ne.symm naC),λh' O_=>?_⟩
 exact⟨_,H',I''.other ⟨f0,f1,f2,f3,f4,f5⟩ O_,q⟩
theorem n_(a b c:Value):checkTypeCall "zip" ⟨[a,b,c],[]⟩=pure ():=by kernel_rfl
theorem ph(a b c:Value):checkBuiltinCall "zip.__new__" ⟨[.type "zip", a,b,c],[]⟩=pure ():=by kernel_rfl
abbrev bI(h:Heap)(T:Addr)(a b c:Value):Prop:=h.get? T=some { cls:=.type "tuple", data:=.seq #[a,b,c] }
structure Z3 (z TI TO i1 i2 i3:Addr):Prop where
 TIz:TI≠z
 TOz:TO≠z
 i1z:i1≠z
 i2z:i2≠z
 HA:i3≠z
 TITO:TI≠TO
 TIi1:TI≠i1
 TIi2:TI≠i2
 JS:TI≠i3
 TOi1:TO≠i1
 TOi2:TO≠i2
 CW:TO≠i3
 i12:i1≠i2
 Ko:i1≠i3
 J1:i2≠i3
structure L3 (z TO i1 i2 i3 l:Addr):Prop where
 z:l≠z
 o:l≠TO
 i1:l≠i1
 i2:l≠i2
 i3:l≠i3
section
variable{E:Value->Shared->Prop}
theorem cU{a b c x:Value}{Q:Unit->Shared->Prop}(hT:bI s.heap T a b c)
  (h:∀ h',h'.get? T=some { cls:=.type "tuple", data:=.seq ((#[a,b,c]:Array Value).setIfInBounds k x) }->Heap.SameBut T s.heap h'->Q () { s with heap:=h' }) :
  wpAny (model prog w) A (updateSeq T (·.setIfInBounds k x)) Q E s:=by
 refine wpAny_updateSeq hT rfl (h _ ?_ (Heap.SameBut.update ..))
 rw[Heap.get?_update_self _ hT rfl]
 simp[Obj.mapSeq]
variable{b1 b2 b3:Bool}{z TI TO i1 i2 i3 l3:Addr}{k3:Nat}{xs zs:Array Value}{x y v a b c:Value}
theorem xy(D:Z3 z TI TO i1 i2 i3)(D1:L3 z TO i1 i2 i3 l1)(D2:L3 z TO i1 i2 i3 l2)(D3:L3 z TO i1 i2 i3 l3)
  (hz:IsZip s.heap z TI TO .none) (ML:bI s.heap TI (.ref i1) (.ref i2) (.ref i3)) (MO:bI s.heap TO a b c)
  (h1:dN s.heap b1 i1 l1 k1) (h2:dN s.heap b2 i2 l2 k2) (h3:dN s.heap b3 i3 l3 k3) (Nj:fH s.heap b1 l1 xs) (Nk:fH s.heap b2 l2 ys) (Ot:fH s.heap b3 l3 zs) (hx:xs[k1]?=some x) (hy:ys[k2]?=some y) (hv:zs[k3]?=some v)
  (hQ:∀ h',IsZip h' z TI TO (rawInt s.heap.objs.size)->bI h' TO x y v->dN h' b1 i1 l1 (k1+1)->dN h' b2 i2 l2 (k2+1)->dN h' b3 i3 l3 (k3+1)->bI h' s.heap.objs.size x y v->h'.objs.size=s.heap.objs.size+1 ->
   (∀ c o,c≠z->c≠TO->c≠i1->c≠i2->c≠i3->s.heap.get? c=some o->h'.get? c=some o)->Q (.ref s.heap.objs.size) { s with heap:=h' }) :
  wpAny (model prog w) A (Builtin.«zip.__next__» ⟨[.ref z],[]⟩) (λfin s'=>∃ v,fin=.done (.ret v)/\Q v s') E s:=by
 show wpAny _ _ (field (.ref z) 2 >>= _) _ _ _
 refine wpAny_bind (wpAny_field hz rfl (x:=.bool false) rfl ?_)
 show wpAny _ _ (field (.ref z) 3 >>= _) _ _ _
 refine wpAny_bind (wpAny_field hz rfl (x:=.ref TI) rfl ?_)
 refine wpAny_bind (wpAny_seqItems ML rfl ?_)
 show wpAny _ _ (Builtin.SmallTypes.ownedTupleIsFree (.ref z) >>= _) _ _ _
 refine wpAny_bind ?_
 unfold Builtin.SmallTypes.ownedTupleIsFree
 refine wpAny_bind (wpAny_field hz rfl (x:=.none) rfl (wpAny_pure ?_))
 simp only[if_true]
 refine wpAny_bind (wpAny_rule ?_)
 refine wpAny_bind (wpAny_field hz rfl (x:=.ref TO) rfl ?_)
 refine wpAny_bind (wpAny_setField_rec hz (by simp) λh₁ hz1 hs1=>?_)
 replace hz1:IsZip h₁ z TI TO .ellipsis:=hz1
 refine wpAny_bind ?_
 simp only[List.zipIdx_cons,List.zipIdx_nil,List.forIn_cons,List.forIn_nil]
 refine wpAny_bind (wpAny_bind (wpAny_onRaise ?_))
 show wpAny _ _ (Builtin.SmallTypes.nextOf (.ref i1) >>= _) _ _ _
 refine wpAny_bind (cD (h1.at λo e=>hs1.extBut _ _ D.i1z e) (Nj.at λo e=>hs1.extBut _ _ D1.z e) hx λh₂ h1₂ hs2=>wpAny_pure ?_)
 have hTO2:bI h₂ TO a b c:=hs2.extBut _ _ D.TOi1 (hs1.extBut _ _ D.TOz MO)
 refine wpAny_bind (wpAny_seqItems hTO2 rfl ?_)
 refine wpAny_bind (cU hTO2 λh₃ hTO3 hs3=>?_)
 replace hTO3:bI h₃ TO x b c:=hTO3
 refine wpAny_bind (wpAny_letGo (wpAny_pure ?_))
 have OH:∀ q o,q≠z->q≠TO->q≠i1->s.heap.get? q=some o->h₃.get? q=some o:=λq o c1 c2 c3 e=>hs3.extBut _ _ c2 (hs2.extBut _ _ c3 (hs1.extBut _ _ c1 e))
 refine wpAny_bind (wpAny_bind (wpAny_onRaise ?_))
 show wpAny _ _ (Builtin.SmallTypes.nextOf (.ref i2) >>= _) _ _ _
 refine wpAny_bind (cD (h2.at λo e=>OH _ o D.i2z D.TOi2.symm D.i12.symm e) (Nk.at λo e=>OH _ o D2.z D2.o D2.i1 e) hy λh₄ h2₄ hs4=>wpAny_pure ?_)
 have hTO4:bI h₄ TO x b c:=hs4.extBut _ _ D.TOi2 hTO3
 refine wpAny_bind (wpAny_seqItems hTO4 rfl ?_)
 refine wpAny_bind (cU hTO4 λh₅ hTO5 hs5=>?_)
 replace hTO5:bI h₅ TO x y c:=hTO5
 refine wpAny_bind (wpAny_letGo (wpAny_pure ?_))
 have k5:∀ q o,q≠z->q≠TO->q≠i1->q≠i2->s.heap.get? q=some o->h₅.get? q=some o:=λq o c1 c2 c3 c4 e=>hs5.extBut _ _ c2 (hs4.extBut _ _ c4 (OH q o c1 c2 c3 e))
 refine wpAny_bind (wpAny_bind (wpAny_onRaise ?_))
 show wpAny _ _ (Builtin.SmallTypes.nextOf (.ref i3) >>= _) _ _ _
 refine wpAny_bind (cD (h3.at λo e=>k5 _ o D.HA D.CW.symm D.Ko.symm D.J1.symm e) (Ot.at λo e=>k5 _ o D3.z D3.o D3.i1 D3.i2 e) hv λh₆ h3₆ hs6=>wpAny_pure ?_)
 have hTO6:bI h₆ TO x y c:=hs6.extBut _ _ D.CW hTO5
 refine wpAny_bind (wpAny_seqItems hTO6 rfl ?_)
 refine wpAny_bind (cU hTO6 λh₇ hTO7 hs7=>?_)
 replace hTO7:bI h₇ TO x y v:=hTO7
 refine wpAny_bind (wpAny_letGo (wpAny_pure (wpAny_pure ?_)))
 refine wpAny_bind (wpAny_seqItems hTO7 rfl ?_)
 refine wpAny_bind (wpAny_newTuple ?_)
 have hsz:h₇.objs.size=s.heap.objs.size:=by rw[hs7.1,hs6.1,hs5.1,hs4.1,hs3.1,hs2.1,hs1.1]
 have hz₃:IsZip h₃ z TI TO .ellipsis:=hs3.extBut _ _ D.TOz.symm (hs2.extBut _ _ D.i1z.symm hz1)
 have hz5:IsZip h₅ z TI TO .ellipsis:=hs5.extBut _ _ D.TOz.symm (hs4.extBut _ _ D.i2z.symm hz₃)
 have hz7:IsZip h₇ z TI TO .ellipsis:=hs7.extBut _ _ D.TOz.symm (hs6.extBut _ _ D.HA.symm hz5)
 have k7:∀ q o,q≠z->q≠TO->q≠i1->q≠i2->q≠i3->s.heap.get? q=some o->h₇.get? q=some o:=λq o c1 c2 c3 c4 c5 e=>hs7.extBut _ _ c2 (hs6.extBut _ _ c5 (k5 q o c1 c2 c3 c4 e))
 have h1₇:dN h₇ b1 i1 l1 (k1+1):=h1₂.at λo e=>hs7.extBut _ _ D.TOi1.symm (hs6.extBut _ _ D.Ko (hs5.extBut _ _ D.TOi1.symm (hs4.extBut _ _ D.i12 (hs3.extBut _ _ D.TOi1.symm e))))
 have h2₇:dN h₇ b2 i2 l2 (k2+1):=h2₄.at λo e=>hs7.extBut _ _ D.TOi2.symm (hs6.extBut _ _ D.J1 (hs5.extBut _ _ D.TOi2.symm e))
 have h3₇:dN h₇ b3 i3 l3 (k3+1):=h3₆.at λo e=>hs7.extBut _ _ D.CW.symm e
 have Oy:z<h₇.objs.size:=Heap.lt_size hz7
 show wpAny _ _ (Builtin.SmallTypes.ownedTupleHandOut (.ref z) (.ref h₇.objs.size) >>= _) _ _ _
 refine wpAny_bind ?_
 unfold Builtin.SmallTypes.ownedTupleHandOut
 have hz₈:IsZip (h₇.push { cls:=.type "tuple", data:=.seq #[x,y,v] }) z TI TO .ellipsis:=Heap.get?_push_of_some _ hz7
 refine wpAny_bind (wpAny_setField_rec hz₈ (by simp) λh₉ hz9 hs9=>?_)
 replace hz9:IsZip h₉ z TI TO (rawInt h₇.objs.size):=hz9
 refine wpAny_setField_rec hz9 (by simp) λhA hzA hsA=>?_
 replace hzA:IsZip hA z TI TO (rawInt h₇.objs.size):=hzA
 have up:∀ c o,c≠z->h₇.get? c=some o->hA.get? c=some o:=λc o c1 e=>hsA.extBut _ _ c1 (hs9.extBut _ _ c1 (Heap.get?_push_of_some _ e))
 have hTA:bI hA h₇.objs.size x y v:=hsA.extBut _ _ (Nat.ne_of_gt Oy) (hs9.extBut _ _ (Nat.ne_of_gt Oy) (Heap.get?_push_size _ rfl))
 have PU:hA.objs.size=h₇.objs.size+1:=by rw[hsA.1,hs9.1,Heap.size_push]
 rw[hsz] at hzA hTA PU
 refine wpAny_pure ⟨_,rfl,?_⟩
 show Q (.ref h₇.objs.size) _
 rw[hsz]
 exact hQ hA hzA (up _ _ D.TOz hTO7) (h1₇.at λo e=>up _ o D.i1z e) (h2₇.at λo e=>up _ o D.i2z e) (h3₇.at λo e=>up _ o D.HA e) hTA PU λc o c1 c2 c3 c4 c5 e=>up c o c1 (k7 c o c1 c2 c3 c4 c5 e)
theorem A4{Q:Fin->Shared->Prop}(hh:A.handled=none)(D:Z3 z TI TO i1 i2 i3)(D1:L3 z TO i1 i2 i3 l1)(D2:L3 z TO i1 i2 i3 l2)(D3:L3 z TO i1 i2 i3 l3)
  (hz:IsZip s.heap z TI TO .none) (ML:bI s.heap TI (.ref i1) (.ref i2) (.ref i3)) (MO:bI s.heap TO a b c)
  (h1:dN s.heap b1 i1 l1 k1) (h2:dN s.heap b2 i2 l2 k2) (h3:dN s.heap b3 i3 l3 k3) (Nj:fH s.heap b1 l1 xs) (Nk:fH s.heap b2 l2 ys) (Ot:fH s.heap b3 l3 zs) (Nq:xs[k1]?=none\/ys[k2]?=none\/zs[k3]?=none)
  (hE:∀ h' e,(∀ c o,c≠z->c≠TO->c≠i1->c≠i2->c≠i3->s.heap.get? c=some o->h'.get? c=some o)->(∃ o,h'.get? e=some o/\o.cls=.type "StopIteration")->E (.ref e) { s with heap:=h' }) :
  wpAny (model prog w) A (Builtin.«zip.__next__» ⟨[.ref z],[]⟩) Q E s:=by
 show wpAny _ _ (field (.ref z) 2 >>= _) _ _ _
 refine wpAny_bind (wpAny_field hz rfl (x:=.bool false) rfl ?_)
 show wpAny _ _ (field (.ref z) 3 >>= _) _ _ _
 refine wpAny_bind (wpAny_field hz rfl (x:=.ref TI) rfl ?_)
 refine wpAny_bind (wpAny_seqItems ML rfl ?_)
 show wpAny _ _ (Builtin.SmallTypes.ownedTupleIsFree (.ref z) >>= _) _ _ _
 refine wpAny_bind ?_
 unfold Builtin.SmallTypes.ownedTupleIsFree
 refine wpAny_bind (wpAny_field hz rfl (x:=.none) rfl (wpAny_pure ?_))
 simp only[if_true]
 refine wpAny_bind (wpAny_rule ?_)
 refine wpAny_bind (wpAny_field hz rfl (x:=.ref TO) rfl ?_)
 refine wpAny_bind (wpAny_setField_rec hz (by simp) λh₁ hz1 hs1=>?_)
 replace hz1:IsZip h₁ z TI TO .ellipsis:=hz1
 refine wpAny_bind ?_
 simp only[List.zipIdx_cons,List.zipIdx_nil,List.forIn_cons,List.forIn_nil]
 refine wpAny_bind (wpAny_bind (wpAny_onRaise ?_))
 show wpAny _ _ (Builtin.SmallTypes.nextOf (.ref i1) >>= _) _ _ _
 cases hx:xs[k1]? with
 | none =>
  refine wpAny_bind (gA hh (h1.at λo e=>hs1.extBut _ _ D.i1z e) (Nj.at λo e=>hs1.extBut _ _ D1.z e) hx λh₂ e hs2 he=>?_)
  obtain⟨oe,Nb,N1⟩:=he
  have hz2:IsZip h₂ z TI TO .ellipsis:=hs2 _ _ D.i1z.symm hz1
  have OL:e≠z:=λx=>by subst x;rw[hz2] at Nb;cases Nb;simp at N1
  refine wpAny_setField_rec hz2 (by simp) λh₃ _ hs3=>hE h₃ e (λc o c1 _ c3 _ _ x=>hs3.extBut _ _ c1 (hs2 _ _ c3 (hs1.extBut _ _ c1 x))) ⟨oe,hs3.extBut _ _ OL Nb,N1⟩
 | some x =>
  refine wpAny_bind (cD (h1.at λo e=>hs1.extBut _ _ D.i1z e) (Nj.at λo e=>hs1.extBut _ _ D1.z e) hx λh₂ h1₂ hs2=>wpAny_pure ?_)
  have hTO2:bI h₂ TO a b c:=hs2.extBut _ _ D.TOi1 (hs1.extBut _ _ D.TOz MO)
  refine wpAny_bind (wpAny_seqItems hTO2 rfl ?_)
  refine wpAny_bind (cU hTO2 λh₃ hTO3 hs3=>?_)
  replace hTO3:bI h₃ TO x b c:=hTO3
  refine wpAny_bind (wpAny_letGo (wpAny_pure ?_))
  have OH:∀ q o,q≠z->q≠TO->q≠i1->s.heap.get? q=some o->h₃.get? q=some o:=λq o c1 c2 c3 e=>hs3.extBut _ _ c2 (hs2.extBut _ _ c3 (hs1.extBut _ _ c1 e))
  have hz₃:IsZip h₃ z TI TO .ellipsis:=hs3.extBut _ _ D.TOz.symm (hs2.extBut _ _ D.i1z.symm hz1)
  refine wpAny_bind (wpAny_bind (wpAny_onRaise ?_))
  show wpAny _ _ (Builtin.SmallTypes.nextOf (.ref i2) >>= _) _ _ _
  cases hy:ys[k2]? with
  | none =>
   refine wpAny_bind (gA hh (h2.at λo e=>OH _ o D.i2z D.TOi2.symm D.i12.symm e) (Nk.at λo e=>OH _ o D2.z D2.o D2.i1 e) hy λh₄ e hs4 he=>?_)
   obtain⟨oe,Nb,N1⟩:=he
   have hz4:IsZip h₄ z TI TO .ellipsis:=hs4 _ _ D.i2z.symm hz₃
   have OL:e≠z:=λx=>by subst x;rw[hz4] at Nb;cases Nb;simp at N1
   refine wpAny_setField_rec hz4 (by simp) λh₅ _ hs5=>hE h₅ e (λc o c1 c2 c3 c4 _ x=>hs5.extBut _ _ c1 (hs4 _ _ c4 (OH c o c1 c2 c3 x))) ⟨oe,hs5.extBut _ _ OL Nb,N1⟩
  | some y =>
   have hv:zs[k3]?=none:=by
    rcases Nq with h | h | h
    ·rw[hx] at h;cases h
    ·rw[hy] at h;cases h
    ·exact h
   refine wpAny_bind (cD (h2.at λo e=>OH _ o D.i2z D.TOi2.symm D.i12.symm e) (Nk.at λo e=>OH _ o D2.z D2.o D2.i1 e) hy λh₄ h2₄ hs4=>wpAny_pure ?_)
   have hTO4:bI h₄ TO x b c:=hs4.extBut _ _ D.TOi2 hTO3
   refine wpAny_bind (wpAny_seqItems hTO4 rfl ?_)
   refine wpAny_bind (cU hTO4 λh₅ hTO5 hs5=>?_)
   refine wpAny_bind (wpAny_letGo (wpAny_pure ?_))
   have k5:∀ q o,q≠z->q≠TO->q≠i1->q≠i2->s.heap.get? q=some o->h₅.get? q=some o:=λq o c1 c2 c3 c4 e=>hs5.extBut _ _ c2 (hs4.extBut _ _ c4 (OH q o c1 c2 c3 e))
   have hz5:IsZip h₅ z TI TO .ellipsis:=hs5.extBut _ _ D.TOz.symm (hs4.extBut _ _ D.i2z.symm hz₃)
   refine wpAny_bind (wpAny_bind (wpAny_onRaise ?_))
   show wpAny _ _ (Builtin.SmallTypes.nextOf (.ref i3) >>= _) _ _ _
   refine wpAny_bind (gA hh (h3.at λo e=>k5 _ o D.HA D.CW.symm D.Ko.symm D.J1.symm e) (Ot.at λo e=>k5 _ o D3.z D3.o D3.i1 D3.i2 e) hv λh₆ e hs6 he=>?_)
   obtain⟨oe,Nb,N1⟩:=he
   have hz6:IsZip h₆ z TI TO .ellipsis:=hs6 _ _ D.HA.symm hz5
   have OL:e≠z:=λx=>by subst x;rw[hz6] at Nb;cases Nb;simp at N1
   refine wpAny_setField_rec hz6 (by simp) λh₇ _ hs7=>hE h₇ e (λc o c1 c2 c3 c4 c5 x=>hs7.extBut _ _ c1 (hs6 _ _ c5 (k5 c o c1 c2 c3 c4 x))) ⟨oe,hs7.extBut _ _ OL Nb,N1⟩
end
section
variable{E:Value->Shared->Prop}
variable{b1 b2 b3:Bool}{z TI TO i1 i2 i3 l3:Addr}{k3:Nat}{xs zs:Array Value}{x y v a b c:Value}
theorem lL{Q:Option Value->Shared->Prop}(D:Z3 z TI TO i1 i2 i3)(D1:L3 z TO i1 i2 i3 l1)(D2:L3 z TO i1 i2 i3 l2)(D3:L3 z TO i1 i2 i3 l3)
  (hz:IsZip s.heap z TI TO .none) (ML:bI s.heap TI (.ref i1) (.ref i2) (.ref i3)) (MO:bI s.heap TO a b c)
  (h1:dN s.heap b1 i1 l1 k1) (h2:dN s.heap b2 i2 l2 k2) (h3:dN s.heap b3 i3 l3 k3) (Nj:fH s.heap b1 l1 xs) (Nk:fH s.heap b2 l2 ys) (Ot:fH s.heap b3 l3 zs) (hx:xs[k1]?=some x) (hy:ys[k2]?=some y) (hv:zs[k3]?=some v)
  (hQ:∀ h',IsZip h' z TI TO (rawInt s.heap.objs.size)->bI h' TO x y v->dN h' b1 i1 l1 (k1+1)->dN h' b2 i2 l2 (k2+1)->dN h' b3 i3 l3 (k3+1)->bI h' s.heap.objs.size x y v->h'.objs.size=s.heap.objs.size+1 ->
   (∀ c o,c≠z->c≠TO->c≠i1->c≠i2->c≠i3->s.heap.get? c=some o->h'.get? c=some o)->Q (some (.ref s.heap.objs.size)) { s with heap:=h' }) :
  wpAny (model prog w) A (pyNext (.ref z)) Q E s:=by
 have hT:s.TypeIs (.ref z) "zip" := ⟨_,hz,rfl⟩
 unfold pyNext
 exact wpAny_bind (wpAny_attempt (wpAny_callSpecial?_slot (name:=Str.ofString "__next__") hT F.slot_zip_next
  (wpAny_call_entry F.slot_zip_next hT F.entry_zip_next
   (xy D D1 D2 D3 hz ML MO h1 h2 h3 Nj Nk Ot hx hy hv λh' a1 a2 a3 a4 a5 a6 a7 a8=>wpAny_pure (hQ h' a1 a2 a3 a4 a5 a6 a7 a8)) (F.args_zip_next_1 _))))
theorem mR{Q:Option Value->Shared->Prop}(hh:A.handled=none)(D:Z3 z TI TO i1 i2 i3)(D1:L3 z TO i1 i2 i3 l1)(D2:L3 z TO i1 i2 i3 l2)(D3:L3 z TO i1 i2 i3 l3)
  (hz:IsZip s.heap z TI TO .none) (ML:bI s.heap TI (.ref i1) (.ref i2) (.ref i3)) (MO:bI s.heap TO a b c)
  (h1:dN s.heap b1 i1 l1 k1) (h2:dN s.heap b2 i2 l2 k2) (h3:dN s.heap b3 i3 l3 k3) (Nj:fH s.heap b1 l1 xs) (Nk:fH s.heap b2 l2 ys) (Ot:fH s.heap b3 l3 zs) (Nq:xs[k1]?=none\/ys[k2]?=none\/zs[k3]?=none)
  (hQ:∀ h',(∀ c o,c≠z->c≠TO->c≠i1->c≠i2->c≠i3->s.heap.get? c=some o->h'.get? c=some o)->Q none { s with heap:=h' }):wpAny (model prog w) A (pyNext (.ref z)) Q E s:=by
 have hT:s.TypeIs (.ref z) "zip" := ⟨_,hz,rfl⟩
 unfold pyNext
 refine wpAny_bind (wpAny_attempt (wpAny_callSpecial?_slot (name:=Str.ofString "__next__") hT F.slot_zip_next
  (wpAny_call_entry F.slot_zip_next hT F.entry_zip_next (A4 hh D D1 D2 D3 hz ML MO h1 h2 h3 Nj Nk Ot Nq λh' e hk he=>?_) (F.args_zip_next_1 _))))
 obtain⟨o,ho,hc⟩:=he
 refine wpAny_bind (wpAny_isInstance (T := "StopIteration") (b:=true) ⟨o,ho,hc⟩ isSubtype_stop ?_)
 exact wpAny_pure (hQ _ hk)
end
abbrev JF(h:Heap)(b1 b2 b3:Bool)(l1 l2 l3:Addr):Heap:=(Eh h b1 b2 l1 l2).push (C1 b3 l3)
abbrev JJ(h:Heap)(b1 b2 b3:Bool)(l1 l2 l3:Addr):Heap:=(JF h b1 b2 b3 l1 l2 l3).push { cls:=.type "tuple", data:=.seq #[.ref h.objs.size,.ref (FR h b1 l1).objs.size,.ref (Eh h b1 b2 l1 l2).objs.size] }
abbrev Jx(h:Heap)(b1 b2 b3:Bool)(l1 l2 l3:Addr):Heap:=(JJ h b1 b2 b3 l1 l2 l3).push { cls:=.type "tuple", data:=.seq #[.none,.none,.none] }
abbrev GP(h:Heap)(b1 b2 b3:Bool)(l1 l2 l3:Addr):Heap:=(Jx h b1 b2 b3 l1 l2 l3).push { cls:=.type "zip", data:=.fields #[.none,.bool false,.bool false,.ref (JF h b1 b2 b3 l1 l2 l3).objs.size,.ref (JJ h b1 b2 b3 l1 l2 l3).objs.size] }
theorem oV(b1 b2 b3:Bool)(l1 l2 l3:Addr)(xs ys zs:Array Value) :
  Meets (Builtin.«zip.__new__» ⟨[.type "zip", .ref l1,.ref l2,.ref l3],[]⟩) (λ_ R s=>fH s.heap b1 l1 xs/\fH s.heap b2 l2 ys/\fH s.heap b3 l3 zs ∧
   R (.ok (.ret (.ref (Jx s.heap b1 b2 b3 l1 l2 l3).objs.size))) { s with heap:=GP s.heap b1 b2 b3 l1 l2 l3 }) :=
 .of_wp λprog w A R s h=>by
  obtain⟨hp,g,d,tk,os⟩:=s;obtain⟨Nj,Nk,Ot,h⟩:=h
  have PM:=sub_zip
  have hL1:fH (Shared.heap ⟨hp,g,d,tk,os⟩) b1 l1 xs:=Nj
  have hL2:fH (Shared.heap ⟨hp.push (C1 b1 l1),g,d,tk,os⟩) b2 l2 ys:=fH.push Nk _
  have hL3:fH (Shared.heap ⟨(hp.push (C1 b1 l1)).push (C1 b2 l2),g,d,tk,os⟩) b3 l3 zs:=fH.push (fH.push Ot _) _
  wp_walk using fD hL1,fD hL2,fD hL3
  exact⟨_,rfl,h⟩
section
variable{E:Value->Shared->Prop}
theorem yD{b1 b2 b3:Bool}{l3:Addr}{xs zs:Array Value}(Nj:fH s.heap b1 l1 xs)(Nk:fH s.heap b2 l2 ys)(Ot:fH s.heap b3 l3 zs)
  (h:∀ h',IsZip h' (s.heap.objs.size+5) (s.heap.objs.size+3) (s.heap.objs.size+4) .none->bI h' (s.heap.objs.size+3) (.ref s.heap.objs.size) (.ref (s.heap.objs.size+1)) (.ref (s.heap.objs.size+2)) ->
   bI h' (s.heap.objs.size+4) .none .none .none->dN h' b1 s.heap.objs.size l1 0->dN h' b2 (s.heap.objs.size+1) l2 0->dN h' b3 (s.heap.objs.size+2) l3 0 ->
   (∀ c o,s.heap.get? c=some o->h'.get? c=some o)->Q (.ref (s.heap.objs.size+5)) { s with heap:=h' }) :
  wpAny (model prog w) A (call (.type "zip") [.ref l1,.ref l2,.ref l3]) Q E s:=by
 refine callType_new F.called_zip (by decide) (n_ _ _ _) (ph _ _ _) (λobj=>F.initArgs_range_3 obj _ _ _) F.entry_zip_new
  (oV b1 b2 b3 l1 l2 l3 xs ys zs) ⟨Nj,Nk,Ot,?_⟩
 have z1:(FR s.heap b1 l1).objs.size=s.heap.objs.size+1:=Heap.size_push ..
 have z2:(Eh s.heap b1 b2 l1 l2).objs.size=s.heap.objs.size+2:=by rw[Heap.size_push,z1]
 have z3:(JF s.heap b1 b2 b3 l1 l2 l3).objs.size=s.heap.objs.size+3:=by rw[Heap.size_push,z2]
 have z4:(JJ s.heap b1 b2 b3 l1 l2 l3).objs.size=s.heap.objs.size+4:=by rw[Heap.size_push,z3]
 have z5:(Jx s.heap b1 b2 b3 l1 l2 l3).objs.size=s.heap.objs.size+5:=by rw[Heap.size_push,z4]
 have g6:(GP s.heap b1 b2 b3 l1 l2 l3).get? (Jx s.heap b1 b2 b3 l1 l2 l3).objs.size=some _:=Heap.get?_push_size _ rfl
 have g5:(GP s.heap b1 b2 b3 l1 l2 l3).get? (JJ s.heap b1 b2 b3 l1 l2 l3).objs.size=some _:=Heap.get?_push_of_some _ (Heap.get?_push_size _ rfl)
 have g4:(GP s.heap b1 b2 b3 l1 l2 l3).get? (JF s.heap b1 b2 b3 l1 l2 l3).objs.size=some _:=Heap.get?_push_of_some _ (Heap.get?_push_of_some _ (Heap.get?_push_size _ rfl))
 have g3:(GP s.heap b1 b2 b3 l1 l2 l3).get? (Eh s.heap b1 b2 l1 l2).objs.size=some _:=Heap.get?_push_of_some _ (Heap.get?_push_of_some _ (Heap.get?_push_of_some _ (Heap.get?_push_size _ rfl)))
 have g2:(GP s.heap b1 b2 b3 l1 l2 l3).get? (FR s.heap b1 l1).objs.size=some _:=Heap.get?_push_of_some _ (Heap.get?_push_of_some _ (Heap.get?_push_of_some _ (Heap.get?_push_of_some _ (Heap.get?_push_size _ rfl))))
 have g1:(GP s.heap b1 b2 b3 l1 l2 l3).get? s.heap.objs.size=some _:=Heap.get?_push_of_some _ (Heap.get?_push_of_some _ (Heap.get?_push_of_some _ (Heap.get?_push_of_some _ (Heap.get?_push_of_some _ (Heap.get?_push_size _ rfl)))))
 show _/\_
 rw[z3,z4,z5] at g6
 rw[z1,z2,z3] at g4
 rw[z4] at g5
 rw[z2] at g3
 rw[z1] at g2
 rw[z5]
 exact⟨⟨_,g6,rfl⟩,h _ g6 g4 g5 (dN.new _ b1 _ _ g1) (dN.new _ b2 _ _ g2) (dN.new _ b3 _ _ g3) λc o x =>
  Heap.get?_push_of_some _ (Heap.get?_push_of_some _ (Heap.get?_push_of_some _ (Heap.get?_push_of_some _ (Heap.get?_push_of_some _ (Heap.get?_push_of_some _ x)))))⟩
end
def JV (K : PySem.W.Frag) (b1 b2 b3 : Bool) (a1 a2 a3 : Addr) : It :=
  ⟨λi H => ∃ xs ys zs x y v, j9 K H b1 a1 xs /\ j9 K H b2 a2 ys /\ j9 K H b3 a3 zs /\ xs[i]? = some x /\ ys[i]? = some y /\ zs[i]? = some v,
   λi H r H' => ∃ p x y v, H p = none /\ r = .ref p /\ H' = upd H p (.tup [x, y, v]) /\ (∀ xs, j9 K H b1 a1 xs -> xs[i]? = some x) /\ (∀ ys, j9 K H b2 a2 ys -> ys[i]? = some y) /\ (∀ zs, j9 K H b3 a3 zs -> zs[i]? = some v),
   λi H => ∃ xs ys zs, j9 K H b1 a1 xs /\ j9 K H b2 a2 ys /\ j9 K H b3 a3 zs /\ (xs.length <= i \/ ys.length <= i \/ zs.length <= i)⟩
theorem p8{z TI TO i1 i2 i3:Addr}{xs:List V}(I:Inv X Me σ H s)(h:j9 X.K H b a xs)(hf:∀ b∈[z,TO,i1,i2,i3,TI],k6 X Me H b):L3 z TO i1 i2 i3 a :=
 ⟨cq I h (hf z (by simp)),cq I h (hf TO (by simp)),cq I h (hf i1 (by simp)),cq I h (hf i2 (by simp)),cq I h (hf i3 (by simp))⟩
theorem xq{K:PySem.W.Frag}{tp:Pos}(b1 b2 b3:Bool)(a1 a2 a3 z TI TO i1 i2 i3:Addr)(D:Z3 z TI TO i1 i2 i3) :
  Turn P w K (.Tuple elts x1 tp) (JV K b1 b2 b3 a1 a2 a3) [z,TO,i1,i2,i3,TI] z (λi h=>IsZip h z TI TO .none/\bI h TI (.ref i1) (.ref i2) (.ref i3)/\(∃ a b c,bI h TO a b c)/\dN h b1 i1 a1 i/\dN h b2 i2 a2 i/\dN h b3 i3 a3 i) where
 mem:=by simp
 obj:=λi h st b hb=>by
  obtain⟨hz,ML,⟨a,c,d,MO⟩,h1,h2,h3⟩:=st
  simp only[List.mem_cons,List.mem_nil_iff,or_false] at hb
  rcases hb with q | q | q | q | q | q <;> subst q
  ·exact⟨_,hz,λv z=>by cases z⟩
  ·exact⟨_,MO,λv z=>by cases z⟩
  ·obtain⟨o,vs,e,d⟩:=h1.obj
   exact⟨o,e,λv z=>by rw[d] at z;cases z⟩
  ·obtain⟨o,vs,e,d⟩:=h2.obj
   exact⟨o,e,λv z=>by rw[d] at z;cases z⟩
  ·obtain⟨o,vs,e,d⟩:=h3.obj
   exact⟨o,e,λv z=>by rw[d] at z;cases z⟩
  ·exact⟨_,ML,λv z=>by cases z⟩
 keep:=λi h h' st k=>by
  obtain⟨hz,ML,⟨a,c,d,MO⟩,h1,h2,h3⟩:=st
  exact⟨k z (by simp) _ hz,k TI (by simp) _ ML,⟨a,c,d,k TO (by simp) _ MO⟩,h1.at λo e=>k i1 (by simp) o e,h2.at λo e=>k i2 (by simp) o e,h3.at λo e=>k i3 (by simp) o e⟩
 item:=by
  intro X hP hw hK hc i Me s σ H E I hf st hg
  subst hP hw hK
  obtain⟨xs,ys,zs,x,y,v,MM,MG,NU,hx,hy,hv⟩:=hg
  obtain⟨Oz,OP,p1,PQ⟩:=I.row MM
  obtain⟨NB,OQ,p2,PR⟩:=I.row MG
  obtain⟨PY,rv3,p3,hz3'⟩:=I.row NU
  obtain⟨u1,hu1,ru1⟩:=OP.get hx
  obtain⟨u2,hu2,ru2⟩:=OQ.get hy
  obtain⟨u3,hu3,ru3⟩:=rv3.get hv
  obtain⟨hz,ML,⟨a,c,d,MO⟩,h1,h2,h3⟩:=st
  obtain⟨oi1,vs1,Pr,di1⟩:=h1.obj
  obtain⟨oi2,vs2,Pt,di2⟩:=h2.obj
  obtain⟨oi3,vs3,ei3,di3⟩:=h3.obj
  refine lL D (p8 I MM hf) (p8 I MG hf) (p8 I NU hf) hz ML MO h1 h2 h3 p1 p2 p3 (x:=u1) (y:=u2) (v:=u3) (by simpa using hu1) (by simpa using hu2) (by simpa using hu3) λh' g1 g2 g3 g4 g4' g5 g6 g7=>⟨_,rfl,?_⟩
  refine wpAny_letOwnedTupleGo_zip (s:={ s with heap:=h' }) g1 λhN hz3 N5=>?_
  have Nl:H s.heap.objs.size=none:=I.bu.fresh (Nat.le_refl _)
  have lt:∀ {c:Addr} {o:Obj},s.heap.get? c=some o->c≠s.heap.objs.size:=λe=>Nat.ne_of_lt (Heap.lt_size e)
  have OB:∀ b o,b ∉ [z,TO,i1,i2,i3,TI]->s.heap.get? b=some o->hN.get? b=some o:=λb o hb q=>by
   simp only[List.mem_cons,List.mem_nil_iff,or_false,not_or] at hb
   exact(N5.2 b hb.1).trans (g7 b o hb.1 hb.2.1 hb.2.2.1 hb.2.2.2.1 hb.2.2.2.2.1 q)
  have hT3:hN.get? s.heap.objs.size=some { cls:=.type "tuple", data:=.seq #[u1,u2,u3] }:=(N5.2 _ (lt hz).symm).trans g5
  have I3:Inv X Me σ (upd H s.heap.objs.size (.tup [x,y,v])) { s with heap:=hN,toks:=s.toks } :=
   I.j5 (ch:=[z,TO,i1,i2,i3,TI]) OB hf (Nat.le_refl _) (λb hb=>by
    simp only[List.mem_cons,List.mem_nil_iff,or_false] at hb
    rcases hb with q | q | q | q | q | q <;> subst q
    ·exact⟨_,hz⟩
    ·exact⟨_,MO⟩
    ·exact⟨_,Pr⟩
    ·exact⟨_,Pt⟩
    ·exact⟨_,ei3⟩
    ·exact⟨_,ML⟩)
    ⟨by show 3<=sizeLine;decide,[u1,u2,u3],.cons ru1 (.cons ru2 (.cons ru3 .nil)),⟨_,hT3,rfl,_,rfl⟩⟩
  refine⟨.ref s.heap.objs.size,_,I3,rfl,⟨_,x,y,v,Nl,rfl,rfl,λzs' ON=>by rw[I.lh ON MM];exact hx,λzs' ON=>by rw[I.lh ON MG];exact hy,λzs' ON=>by rw[I.lh ON NU];exact hv⟩,
   ⟨hz3,(N5.2 TI D.TIz).trans (g7 TI _ D.TIz D.TITO D.TIi1 D.TIi2 D.JS ML),⟨_,_,_,(N5.2 TO D.TOz).trans g2⟩,g3.at λo e=>(N5.2 i1 D.i1z).trans e,g4.at λo e=>(N5.2 i2 D.i2z).trans e,g4'.at λo e=>(N5.2 i3 D.HA).trans e⟩,λb hb=>?_⟩
  have nb:b≠s.heap.objs.size:=by
   simp only[List.mem_cons,List.mem_nil_iff,or_false] at hb
   rcases hb with q | q | q | q | q | q <;> subst q
   ·exact lt hz
   ·exact lt MO
   ·exact lt Pr
   ·exact lt Pt
   ·exact lt ei3
   ·exact lt ML
  rw[ao nb]
  exact(hf b hb).1
 done:=by
  intro X hP hw hK hc i Me s σ H E I hf st hg
  subst hP hw hK
  obtain⟨xs,ys,zs,MM,MG,NU,Nq⟩:=hg
  obtain⟨Oz,OP,p1,PQ⟩:=I.row MM
  obtain⟨NB,OQ,p2,PR⟩:=I.row MG
  obtain⟨PY,rv3,p3,hz3'⟩:=I.row NU
  obtain⟨hz,ML,⟨a,c,d,MO⟩,h1,h2,h3⟩:=st
  have l1:=OP.length
  have l2:=OQ.length
  have l3:=rv3.length
  refine mR (I.ok.hd hc) D (p8 I MM hf) (p8 I MG hf) (p8 I NU hf) hz ML MO h1 h2 h3 p1 p2 p3 ?_ λh' k=>⟨rfl,?_⟩
  ·rcases Nq with q | q | q
   ·exact .inl (by simp;omega)
   ·exact .inr (.inl (by simp;omega))
   ·exact .inr (.inr (by simp;omega))
  ·exact I.wU (t':=s.toks) (ch:=[z,TO,i1,i2,i3,TI]) (λb u hb e=>by
    simp only[List.mem_cons,List.mem_nil_iff,or_false,not_or] at hb
    exact k b u hb.1 hb.2.1 hb.2.2.1 hb.2.2.2.1 hb.2.2.2.2.1 e) hf
 self:=λ_ _ _ _ _ st h=>by
  obtain⟨hz,_⟩:=st
  exact wpAny_pyIter_zip hz h
theorem Cn(n:Nat):Z3 (n+5) (n+3) (n+4) n (n+1) (n+2):=by
 refine⟨?_,?_,?_,?_,?_,?_,?_,?_,?_,?_,?_,?_,?_,?_,?_⟩ <;> (show @Ne Nat _ _;omega)
def EH(K:PySem.W.Frag)(tl:TA):TI:=fun σ H R=>tl σ H λvs H1=>∃ b1 b2 b3 a1 a2 a3,vs=[.ref a1,.ref a2,.ref a3]/\(∃ xs,j9 K H1 b1 a1 xs)/\(∃ ys,j9 K H1 b2 a2 ys)/\(∃ zs,j9 K H1 b3 a3 zs)/\R (JV K b1 b2 b3 a1 a2 a3) H1
theorem Cq{tp:Pos}{l1 l2 l3:Expr}{p pos:Pos}(hg:Gl X "zip")(hm:X.mg "zip" = none)(hl:PA X [l1,l2,l3] tl)(hs:autoParam (starEach [l1,l2,l3] X.env=[(false,eval l1 X.env),(false,eval l2 X.env),(false,eval l3 X.env)]) aR._auto_1)(Nm:autoParam (starEach [l2,l3] X.env=[(false,eval l2 X.env),(false,eval l3 X.env)]) aR._auto_1) :
  PI X (.Tuple elts x1 tp) (.Call (.Name "zip" p) [l1,l2,l3] [] pos) (EH X.K tl):=by
 intro Me s σ H R I h
 refine Call_ (i4 I hg hm PyProof.Rows.boot_zip (PyProof.Rows.callWith_type1 (bT (hl pos Me s σ H _ I h) λus s1 ⟨vs,H1,I1,r1,q1⟩=>?_) (by rw[hs,Nm]) (by rw[Nm];rfl)))
 obtain⟨b1,b2,b3,a1,a2,a3,e,⟨xs,MM⟩,⟨ys,MG⟩,⟨zs,NU⟩,q⟩:=q1
 subst e
 cases r1 with
 | cons r rr =>
  cases rr with
  | cons r' rr =>
   cases rr with
   | cons P2 rr =>
    cases rr
    cases (show _=Value.ref a1 from r)
    cases (show _=Value.ref a2 from r')
    cases (show _=Value.ref a3 from P2)
    obtain⟨Oz,OP,p1,PQ⟩:=I1.row MM
    obtain⟨NB,OQ,p2,PR⟩:=I1.row MG
    obtain⟨PY,rv3,p3,hz3⟩:=I1.row NU
    refine yD p1 p2 p3 λh' g1 g2 g3 g4 g5 g6 g7=>?_
    have I2:Inv X Me σ H1 { s1 with heap:=h' }:=I1.kept (t':=s1.toks) g7
    refine wpAny_pyIter_zip (s:={ s1 with heap:=h' }) g1 ?_
    refine⟨s1.heap.objs.size+5,[s1.heap.objs.size+5,s1.heap.objs.size+4,s1.heap.objs.size,s1.heap.objs.size+1,s1.heap.objs.size+2,s1.heap.objs.size+3],_,_,H1,rfl,I2,
     xq b1 b2 b3 a1 a2 a3 _ _ _ _ _ _ (Cn s1.heap.objs.size),⟨g1,g2,⟨_,_,_,g3⟩,g4,g5,g6⟩,λb hb=>?_,q⟩
    have hle:s1.heap.objs.size<=b:=by
     simp only[List.mem_cons,List.mem_nil_iff,or_false] at hb
     rcases hb with q | q | q | q | q | q
     ·rw[q];exact Nat.le_add_right _ 5
     ·rw[q];exact Nat.le_add_right _ 4
     ·rw[q];exact Nat.le_refl _
     ·rw[q];exact Nat.le_add_right _ 1
     ·rw[q];exact Nat.le_add_right _ 2
     ·rw[q];exact Nat.le_add_right _ 3
    exact I1.pQ hle (I1.bu.fresh hle)
variable{oe:Obj}{outer:List Env}
section
variable{M:Model}{E:Value->Shared->Prop}
theorem p_{env:Env}{L e:Addr}{vs:Array Value}{head:Value}{OJ:Bool}{Q:Unit->Shared->Prop}
  (Oq:A.frames=some (env::outer)) (hl:s.heap.FunFrames base (env::outer)) (hf:env.frame=some L)
  (he:s.heap.get? e=some oe) (hd:oe.data=.fields vs) (hsz:1<vs.size)
  (h:∀ h' T oT ts,h'.get? e=some (Obj.mapFields (·.setIfInBounds 1 (.ref T)) oe)->s.heap.objs.size<=T->T≠e->h'.get? T=some oT->oT.data=.fields ts->ts[3]?=some (rawInt L) ->
   (∀ b o,b≠e->b ∉ uJ (env::outer)->s.heap.get? b=some o->h'.get? b=some o)->(∀ b o,b≠e->s.heap.get? b=some o->∃ sl,h'.get? b=some { o with slots:=sl })->Q () { s with heap:=h' }) :
  wpAny M A (do let a ← frameOf env;let pl ← entryPlaceOf L OJ;let b ← EntryCells.newEntry head a .none (rawInt L) .none pl;setField (.ref e) 1 b) Q E s:=by
 have hene:e ∉ (env::outer).filterMap (·.frame):=λhm=>by
  obtain⟨_,o,ho,PJ⟩:=hl.mem hm
  rw[he] at ho;injection ho with ho;subst ho;exact PJ vs hd
 refine wpAny_bind (wpAny_frameOf_fun Oq hl hf λh₁ hs1=>?_)
 refine wpAny_bind (wpAny_entryPlaceOf λpl Mt=>?_)
 unfold EntryCells.newEntry newFields
 refine wpAny_bind (wpAny_newObj_type ?_ (Mt.sizeOk5 _ _ _ _ _))
 have he1:h₁.get? e=some oe:=(hs1.2.1 e hene).trans he
 have he₂:=Heap.get?_push_of_some (h:=h₁) { cls:=.type "traceback", dict:=none,data:=.fields ([head,.ref L,.none,rawInt L,.none]++(if pl.isEmpty then List.replicate 6 Value.none else pl)).toArray } he1
 have hTe:h₁.objs.size≠e:=Nat.ne_of_gt (Heap.lt_size he1)
 have hd3:=Obj.data_mapFields hd (·.setIfInBounds 1 (Value.ref h₁.objs.size))
 have he3:=Heap.get?_update_self (Obj.mapFields (·.setIfInBounds 1 (Value.ref h₁.objs.size))) he₂ (Obj.isFreed_of_fields hd3)
 have hT₃:=(Heap.get?_update_other (h₁.push { cls:=.type "traceback", dict:=none,data:=.fields ([head,.ref L,.none,rawInt L,.none]++(if pl.isEmpty then List.replicate 6 Value.none else pl)).toArray })
  (Obj.mapFields (·.setIfInBounds 1 (Value.ref h₁.objs.size))) (Ne.symm hTe)).trans (Heap.get?_push_size h₁ rfl)
 have keep:∀ b o,b≠e->h₁.get? b=some o ->
   ((h₁.push { cls:=.type "traceback", dict:=none,data:=.fields ([head,.ref L,.none,rawInt L,.none]++(if pl.isEmpty then List.replicate 6 Value.none else pl)).toArray }).update e (Obj.mapFields (·.setIfInBounds 1 (Value.ref h₁.objs.size)))).get? b=some o:=λb o N9 hb=>by
  rw[Heap.get?_update_other _ _ (Ne.symm N9)]
  exact Heap.get?_push_of_some _ hb
 refine wpAny_setField he₂ hd hsz (h _ h₁.objs.size _ _ he3 ?_ hTe hT₃ rfl (by first | (simp;done) | (rcases Mt with rfl | ⟨_,_,_,_,_,_,_,rfl⟩ <;> simp)) ?_ ?_)
 ·exact Nat.le_of_eq hs1.1.symm
 ·intro b o N9 hbf hb
  exact keep b o N9 ((hs1.2.1 b hbf).trans hb)
 ·intro b o N9 hb
  obtain⟨sl,hs⟩:=hs1.2.2 b o hb
  exact⟨sl,keep b _ N9 hs⟩
def Lies(h:Heap)(e:Addr)(vs:Array Value)(to:Option Addr):Prop:=match to with
 | none=>vs[1]?=some .none
 | some T=>vs[1]?=some (.ref T)/\T≠e/\∃ oT ts,h.get? T=some oT/\oT.data=.fields ts/\ts[3]?=some .none
theorem x_{env:Env}{L e:Addr}{vs:Array Value}{to:Option Addr}{Q:Unit->Shared->Prop}
  (Oq:A.frames=some (env::outer)) (hl:s.heap.FunFrames base (env::outer)) (hf:env.frame=some L)
  (he:s.heap.get? e=some oe) (hd:oe.data=.fields vs) (hto:Lies s.heap e vs to)
  (h:∀ h' T oT ts,h'.get? e=some (Obj.mapFields (·.setIfInBounds 1 (.ref T)) oe)->s.heap.objs.size<=T->T≠e->h'.get? T=some oT->oT.data=.fields ts->ts[3]?=some (rawInt L) ->
   (∀ b o,b≠e->(∀ T,to=some T->b≠T)->b ∉ uJ (env::outer)->s.heap.get? b=some o->h'.get? b=some o) ->
   (∀ b o,b≠e->(∀ T,to=some T->b≠T)->s.heap.get? b=some o->∃ sl,h'.get? b=some { o with slots:=sl })->(∀ b o,s.heap.get? b=some o->∃ o',h'.get? b=some o')->Q () { s with heap:=h' }) :
  wpAny M A (noteFrame (.ref e) env) Q E s:=by
 unfold noteFrame
 simp only[hf]
 cases to with
 | none =>
  have h1:vs[1]?=some .none:=hto
  refine wpAny_bind (wpAny_field he hd h1 ?_)
  rw[if_neg (by decide)]
  refine p_ Oq hl hf he hd (Array.getElem?_eq_some_iff.mp h1).1 λh' T oT ts a1 a2 a3 a4 a5 a6 a7 a8=>?_
  refine h h' T oT ts a1 a2 a3 a4 a5 a6 (λb o n1 _ n2 q=>a7 b o n1 n2 q) (λb o n1 _ q=>a8 b o n1 q) λb o q=>?_
  by_cases z:b=e
  ·subst z;exact⟨_,a1⟩
  ·obtain⟨sl,r⟩:=a8 b o z q;exact⟨_,r⟩
 | some T0 =>
  obtain⟨h1,hTe,oT,ts,hT,hdT,h3⟩:=hto
  refine wpAny_bind (wpAny_field he hd h1 ?_)
  rw[if_pos (show (Value.ref T0 != Value.none)=true from by simp)]
  refine wpAny_bind (wpAny_field hT hdT h3 ?_)
  rw[if_neg (show ¬ ((Value.none==rawInt L)=true) from by simp[rawInt])]
  refine wpAny_bind (wpAny_setField hT hdT (Array.getElem?_eq_some_iff.mp h3).1 ?_)
  have other:∀ b,b≠T0->(s.heap.update T0 (Obj.mapFields (·.setIfInBounds 3 Value.none))).get? b=s.heap.get? b:=λb hb=>Heap.get?_update_other _ _ (Ne.symm hb)
  have OF:∀ b o,s.heap.get? b=some o->(∀ vs,o.data≠.fields vs)->b≠T0:=λb o hb PJ q=>by
   rw[q,hT] at hb;injection hb with hb;subst hb;exact PJ ts hdT
  have OI:=Heap.get?_update_self (Obj.mapFields (·.setIfInBounds 3 Value.none)) hT (Obj.isFreed_of_fields (Obj.data_mapFields hdT _))
  refine p_ Oq (hl.of_keeps λb o hb PJ=>⟨o,(other b (OF b o hb PJ)).trans hb,rfl⟩) hf ((other e (Ne.symm hTe)).trans he) hd (Array.getElem?_eq_some_iff.mp h1).1 λh' T oT' ts' a1 a2 a3 a4 a5 a6 a7 a8=>?_
  refine h h' T oT' ts' a1 (by simpa [Heap.update] using a2) a3 a4 a5 a6 (λb o n1 n2 n3 q=>a7 b o n1 n3 ((other b (n2 T0 rfl)).trans q)) (λb o n1 n2 q=>a8 b o n1 ((other b (n2 T0 rfl)).trans q)) λb o q=>?_
  by_cases z:b=e
  ·subst z;exact⟨_,a1⟩
  ·by_cases z2:b=T0
   ·subst z2
    obtain⟨sl,r⟩:=a8 b _ z OI;exact⟨_,r⟩
   ·obtain⟨sl,r⟩:=a8 b o z ((other b z2).trans q);exact⟨_,r⟩
end
def j_(C:Addr)(dd:Option Addr)(e:Addr):HO:=.ext λh=>∃ t,h.get? e=some ⟨.ref C,dd,.fields #[.ref t,.none,.none,.none,.bool false,.none],#[]⟩
def Jb(C:Addr)(dd:Option Addr)(e T:Addr):HO:=.ext λh=>∃ vs,h.get? e=some ⟨.ref C,dd,.fields vs,#[]⟩/\vs[1]?=some (.ref T)
def LB(fl:Value)(T:Addr):HO:=.ext λh=>∃ oT ts,h.get? T=some oT/\oT.data=.fields ts/\ts[3]?=some fl
def lQ(Hc:Hp)(e T C:Addr)(dd:Option Addr)(fl:Value):Hp:=upd (upd Hc T (LB fl T)) e (Jb C dd e T)
variable{fl:Value}{Hc:Hp}
theorem oa{e:Addr}:lQ Hc e T C dd fl e=some (Jb C dd e T):=az
theorem o3{e:Addr}(n:T≠e):lQ Hc e T C dd fl T=some (LB fl T):=by unfold lQ;rw[ao n,az]
theorem iR{e b:Addr}(n:b≠e)(n2:b≠T):lQ Hc e T C dd fl b=Hc b:=by unfold lQ;rw[ao n,ao n2]
theorem Inv.note{e:Addr}{to:Option Addr}{vs:Array Value}{φ:Heap->Prop}{Q:Unit->Shared->Prop}{E:Value->Shared->Prop}(I:Inv X Me σ H s)(Mv:X.stack=X.env::X.outer)(hf:X.env.frame=some X.env.locals)
  (he:H e=some (.ext φ)) (hx:s.heap.get? e=some ⟨.ref C,dd,.fields vs,#[]⟩) (lies:Lies s.heap e vs to) (hT:∀ T,to=some T->(∃ ψ,H T=some (.ext ψ))/\Hc T=none) (hc:∀ b,b≠e->(∀ T,to=some T->b≠T)->Hc b=H b)
  (h:∀ h' T,Hc T=none->T≠e->Inv X Me σ (lQ Hc e T C dd (rawInt X.env.locals)) { s with heap:=h' }->Q () { s with heap:=h' }) :
  wpAny (model X.prog X.w) X.A (noteFrame (.ref e) X.env) Q E s:=by
 have hl:=I.stack
 have Oq:=I.ok.frames
 have sf:=I.rH
 rw[Mv] at hl Oq sf
 refine x_ (base:=X.base) Oq hl hf hx rfl lies λh' T oT ts a1 a2 a3 a4 a5 a6 a7 a8 a9=>?_
 have hTn:H T=none:=I.bu.fresh a2
 have nT:∀ b u,H b=some u->b≠T:=λb u q z=>by rw[z,hTn] at q;cases q
 have Of:∀ b u,H b=some u->(∀ ψ,u≠.ext ψ)->b≠e/\∀ T0,to=some T0->b≠T0:=by
  intro b u q hu
  refine⟨λz=>?_,λT0 z w=>?_⟩
  ·rw[z,he] at q;exact hu _ (Option.some.inj q).symm
  ·obtain⟨⟨ψ,q2⟩,_⟩:=hT T0 z
   rw[w,q2] at q;exact hu _ (Option.some.inj q).symm
 have old:∀ b u,H b=some u->(∀ ψ,u≠.ext ψ)->lQ Hc e T C dd (rawInt X.env.locals) b=some u:=λb u q hu=>by
  obtain⟨n1,n2⟩:=Of b u q hu
  rw[iR n1 (nT b u q),hc b n1 n2];exact q
 have hcT:Hc T=none:=by
  by_cases z:∃ T0,to=some T0/\T=T0
  ·obtain⟨T0,z1,z2⟩:=z;rw[z2];exact(hT T0 z1).2
  ·rw[hc T a3 λT0 z1 z2=>z ⟨T0,z1,z2⟩];exact hTn
 have un:∀ b o,s.heap.get? b=some o->H b=none->b≠e/\(∀ T0,to=some T0->b≠T0)/\b≠T:=by
  intro b o q n
  refine⟨λz=>?_,λT0 z w=>?_,Nat.ne_of_lt (Nat.lt_of_lt_of_le (Heap.lt_size q) a2)⟩
  ·rw[z,he] at n;cases n
  ·obtain⟨⟨ψ,q2⟩,_⟩:=hT T0 z
   rw[w,q2] at n;cases n
 refine h h' T hcT a3 ?_
 have U:Un (uJ X.stack) [] H (lQ Hc e T C dd (rawInt X.env.locals)) s.heap h':=by
  rw[Mv]
  refine⟨λb o q n nf _=>?_,λb o q n _ _=>?_,λb o q n _=>?_,λb o q _=>a9 b o q,λb xs q=>old b _ q (λ_ z=>nomatch z),λb ob u q=>old b _ q (λ_ z=>nomatch z),λb ps q=>⟨#[],?_⟩⟩
  ·obtain⟨n1,n2,_⟩:=un b o q n;exact a7 b o n1 n2 nf q
  ·obtain⟨n1,n2,_⟩:=un b o q n;exact a8 b o n1 n2 q
  ·obtain⟨n1,n2,n3⟩:=un b o q n
   rw[iR n1 n3,hc b n1 n2];exact n
  ·rw[old b _ q (λ_ z=>nomatch z)];simp
 have ok:ke X.prog X.w (lQ Hc e T C dd (rawInt X.env.locals)) h':=λb u q=>by
  by_cases z:b=e
  ·subst z
   rw[oa] at q;cases q
   refine⟨⟨_,a1,?_⟩,⟨_,a1⟩,λh1 h2 ⟨ws,q1,q2⟩ k=>⟨ws,k _ q1,q2⟩⟩
   have hsz:1<vs.size:=by
    cases to with
    | none=>exact(Array.getElem?_eq_some_iff.mp (show vs[1]?=some .none from lies)).1
    | some T0=>exact(Array.getElem?_eq_some_iff.mp lies.1).1
   simp[hsz]
  ·by_cases z2:b=T
   ·subst z2
    rw[o3 a3] at q;cases q
    exact⟨⟨oT,ts,a4,a5,a6⟩,⟨_,a4⟩,λh1 h2 ⟨o1,t1,q1,q2,q3⟩ k=>⟨o1,t1,k _ q1,q2,q3⟩⟩
   ·rw[iR z z2] at q
    have z3:∀ T0,to=some T0->b≠T0:=λT0 w w2=>by rw[w2,(hT T0 w).2] at q;cases q
    rw[hc b z z3] at q
    have nf:∀ c u',H c=some u'->c ∉ uJ (X.env::X.outer):=λc u' q' hm=>by have:=sf c hm;rw[q'] at this;cases this
    refine(I.bu b u q).lj (λc v OK q'=>?_) (λc q'=>old c _ q' (λ_ z=>nomatch z)) λc xs q'=>old c _ q' (λ_ z=>nomatch z)
    rcases OK with rfl | OK
    ·exact a7 c v z z3 (nf c u q) q'
    ·obtain⟨n1,n2⟩:=Of c _ OK (λ_ z=>nomatch z)
     exact a7 c v n1 n2 (nf c _ OK) q'
 exact I.call (ch:=[]) U ok I.bare (λb z=>absurd z (by simp))
theorem Inv.xW{e:Addr}(I:Inv X Me σ (lQ Hc e T C dd fl) s)(n:T≠e):∃ vs oT ts,s.heap.get? e=some ⟨.ref C,dd,.fields vs,#[]⟩/\vs[1]?=some (.ref T)/\s.heap.get? T=some oT/\oT.data=.fields ts/\ts[3]?=some fl:=by
 obtain⟨vs,h1,h2⟩:=(I.bu e _ oa).1
 obtain⟨oT,ts,q⟩:=(I.bu T _ (o3 n)).1
 exact⟨vs,oT,ts,h1,h2,q⟩
theorem Inv.Jf{e:Addr}{Q:Unit->Shared->Prop}{E:Value->Shared->Prop}(I:Inv X Me σ (lQ Hc e T C dd fl) s)(hfl:fl=.none\/fl=rawInt X.env.locals)(n:T≠e)(hcT:Hc T=none)(Mv:X.stack=X.env::X.outer)(hf:X.env.frame=some X.env.locals)
  (h:∀ h' T,Hc T=none->T≠e->Inv X Me σ (lQ Hc e T C dd (rawInt X.env.locals)) { s with heap:=h' }->Q () { s with heap:=h' }) :
  wpAny (model X.prog X.w) X.A (noteFrame (.ref e) X.env) Q E s:=by
 obtain⟨vs,oT,ts,hx,h1,hT,hd,h3⟩:=I.xW n
 rcases hfl with rfl | rfl
 ·refine I.note (Hc:=Hc) (to:=some T) Mv hf oa hx ⟨h1,n,oT,ts,hT,hd,h3⟩ (λT0 z=>?_) (λb n1 n2=>(iR n1 (n2 T rfl)).symm) h
  cases z
  exact⟨⟨_,o3 n⟩,hcT⟩
 ·unfold noteFrame
  simp only[hf]
  refine wpAny_bind (wpAny_field hx rfl h1 ?_)
  rw[if_pos (show (Value.ref T != Value.none)=true from by simp)]
  refine wpAny_bind (wpAny_field hT hd h3 ?_)
  rw[if_pos (show (rawInt X.env.locals==rawInt X.env.locals)=true from by simp)]
  exact wpAny_pure (h s.heap T hcT n I)
theorem Inv.I0{e:Addr}{Q:Unit->Shared->Prop}{E:Value->Shared->Prop}(I:Inv X Me σ H s)(he:H e=some (j_ C dd e))(Mv:X.stack=X.env::X.outer)(hf:X.env.frame=some X.env.locals)
  (h:∀ h' T,upd H e (gC C dd e) T=none->T≠e->Inv X Me σ (lQ (upd H e (gC C dd e)) e T C dd (rawInt X.env.locals)) { s with heap:=h' }->Q () { s with heap:=h' }) :
  wpAny (model X.prog X.w) X.A (noteFrame (.ref e) X.env) Q E s:=by
 obtain⟨t,hx⟩:=(I.bu e _ he).1
 exact I.note (Hc:=upd H e (gC C dd e)) (to:=none) Mv hf he hx rfl (λ_ z=>by cases z) (λb n1 _=>ao n1) h
theorem Inv.nA{e:Addr}{fr:Option Addr}{Q:Unit->Shared->Prop}{E:Value->Shared->Prop}(I:Inv X Me σ (lQ Hc e T C dd fl) s)(n:T≠e)
  (h:∀ h',Inv X Me σ (lQ Hc e T C dd (fr.elim .none λf=>rawInt f)) { s with heap:=h' }->Q () { s with heap:=h' }) :
  wpAny (model X.prog X.w) X.A (setFlight (.ref e) fr) Q E s:=by
 obtain⟨vs,oT,ts,hx,h1,hT,hd,h3⟩:=I.xW n
 unfold setFlight
 refine wpAny_bind (wpAny_field hx rfl h1 ?_)
 rw[if_pos (show (Value.ref T != Value.none)=true from by simp)]
 have hsz:3<ts.size:=(Array.getElem?_eq_some_iff.mp h3).1
 refine wpAny_setField hT hd hsz (h _ ?_)
 have other:∀ b,b≠T->(s.heap.update T (Obj.mapFields (·.setIfInBounds 3 (fr.elim Value.none λf=>rawInt f)))).get? b=s.heap.get? b:=λb hb=>Heap.get?_update_other _ _ (Ne.symm hb)
 have OI:=Heap.get?_update_self (Obj.mapFields (·.setIfInBounds 3 (fr.elim Value.none λf=>rawInt f))) hT (Obj.isFreed_of_fields (Obj.data_mapFields hd _))
 have nT:∀ b,lQ Hc e T C dd fl b=none->b≠T:=λb q z=>by rw[z,o3 n] at q;cases q
 have same:∀ b,b≠T->lQ Hc e T C dd (fr.elim .none λf=>rawInt f) b=lQ Hc e T C dd fl b:=λb z=>by
  by_cases w:b=e
  ·subst w;rw[oa,oa]
  ·rw[iR w z,iR w z]
 have ne:∀ b u,lQ Hc e T C dd fl b=some u->(∀ ψ,u≠.ext ψ)->b≠T:=λb u q hu z=>by rw[z,o3 n] at q;exact hu _ (Option.some.inj q).symm
 refine I.un (t':=s.toks) ⟨λb o q z _ _=>(other b (nT b z)).trans q,λb o q z _ _=>⟨o.slots,(other b (nT b z)).trans q⟩,λb o q z _=>by rw[same b (nT b z)];exact z,λb o q _=>?_,λb xs q=>?_,λb ob u q=>?_,λb ps q=>⟨#[],?_⟩⟩ λb u q=>?_
 ·by_cases z:b=T
  ·subst z;exact⟨_,OI⟩
  ·exact⟨o,(other b z).trans q⟩
 ·rw[same b (ne b _ q λ_ z=>nomatch z)];exact q
 ·rw[same b (ne b _ q λ_ z=>nomatch z)];exact q
 ·rw[same b (ne b _ q λ_ z=>nomatch z),q];simp
 ·by_cases z:b=T
  ·subst z
   rw[o3 n] at q;cases q
   refine⟨⟨_,_,OI,Obj.data_mapFields hd _,?_⟩,⟨_,OI⟩,λh1 h2 ⟨o1,t1,q1,q2,q3⟩ k=>⟨o1,t1,k _ q1,q2,q3⟩⟩
   simp[hsz]
  ·rw[same b z] at q
   refine(I.bu b u q).lj (λc v hc q'=>(other c ?_).trans q') (λc q'=>?_) λc xs q'=>?_
   ·rcases hc with rfl | hc
    ·exact z
    ·exact ne c _ hc λ_ z=>nomatch z
   ·rw[same c (ne c _ q' λ_ z=>nomatch z)];exact q'
   ·rw[same c (ne c _ q' λ_ z=>nomatch z)];exact q'
def bY(P:Program)(w:World):Hv:=λouter H s E e s'=>∃ (ea T C:Addr) (dd:Option Addr) (Hc:Hp),e=.ref ea/\s'.os=s.os/\AllBare s'.gens/\Un (uJ outer) [] H (lQ Hc ea T C dd .none) s.heap s'.heap/\ke P w (lQ Hc ea T C dd .none) s'.heap ∧
 Hc ea=some (gC C dd ea)/\Hc T=none/\T≠ea/\E (.ref ea) none Hc
def Zx (X : Cx) (E : St -> XK) (e : Value) (s : Shared) : Prop := ∃ (ea C : Addr) (dd : Option Addr) (Me : List (Addr × Obj)) (σ : St), e = .ref ea ∧
  ((∃ H, Inv X Me σ H s /\ H ea = some (j_ C dd ea) /\ E σ (.ref ea) none (upd H ea (gC C dd ea))) ∨
   (∃ Hc T fl, Inv X Me σ (lQ Hc ea T C dd fl) s /\ (fl = .none \/ fl = rawInt X.env.locals) /\ Hc ea = some (gC C dd ea) /\ Hc T = none /\ T ≠ ea /\ E σ (.ref ea) none Hc))
variable{E:St->XK}
theorem Zx.note{e:Value}{Q:Unit->Shared->Prop}{F:Value->Shared->Prop}(z:Zx X E e s)(Mv:X.stack=X.env::X.outer)(hf:X.env.frame=some X.env.locals)
  (h:∀ s' ea C dd Me σ Hc T,e=.ref ea->Inv X Me σ (lQ Hc ea T C dd (rawInt X.env.locals)) s'->Hc ea=some (gC C dd ea)->Hc T=none->T≠ea->E σ (.ref ea) none Hc->Q () s') :
  wpAny (model X.prog X.w) X.A (noteFrame e X.env) Q F s:=by
 obtain⟨ea,C,dd,Me,σ,rfl,⟨H,I,h1,h2⟩ | ⟨Hc,T,fl,I,h1,h2,h3,h4,h5⟩⟩:=z
 ·exact I.I0 h1 Mv hf λh' T q1 q2 I2=>h _ ea C dd Me σ _ T rfl I2 az q1 q2 h2
 ·exact I.Jf h1 h4 h3 Mv hf λh' T q1 q2 I2=>h _ ea C dd Me σ _ T rfl I2 h2 q1 q2 h5
theorem Zx.FF{E:XK}{e:Value}{F:Value->Shared->Prop}(z:Zx X (λ_=>E) e s)(Mv:X.stack=X.env::X.outer)(hf:X.env.frame=some X.env.locals)(hex:X.ex=[]) :
  wpAny (model X.prog X.w) X.A (leaving X.env e) (λ_ s'=>bY X.prog X.w X.outer X.H₀ X.s₀ E e s') F s:=by
 unfold leaving
 refine wpAny_bind (z.note Mv hf λs' ea C dd Me σ Hc T he I h1 h2 h3 h4=>?_)
 subst he
 refine I.nA h3 λh' I2=>⟨ea,T,C,dd,Hc,rfl,I2.os,I2.bare,?_,I2.bu,h1,h2,h3,h4⟩
 have:=I2.base
 rw[hex] at this
 exact this
theorem Zx.own(Mv:X.stack=X.env::X.outer)(hf:X.env.frame=some X.env.locals):PassesOwn (model X.prog X.w) X.A X.env (Zx X E):=by
 intro e s z
 refine z.note Mv hf λs' ea C dd Me σ Hc T he I h1 h2 h3 h4=>?_
 subst he
 obtain⟨vs,oT,ts,hx,q1,_⟩:=I.xW h3
 show wpAny _ _ _ _ _ _
 refine wpAny_bind (wpAny_field hx rfl q1 ?_)
 rw[if_neg (show ¬ ((Value.ref T==Value.none)=true) from by simp)]
 rw[hf]
 refine I.nA h3 λh' I2=>⟨ea,C,dd,Me,σ,rfl,.inr ⟨Hc,T,_,I2,.inr rfl,h1,h2,h3,h4⟩⟩
structure dz (X:Cx) (E:St->XK):Prop where
 pass:∀ (Me:List (Addr×Obj)) (σ:St) (H:Hp) (s:Shared) (e:Value) (s':Shared),Inv X Me σ H s->bY X.prog X.w X.stack H s (E σ) e s'->X.xe e s'
 new:∀ (Me:List (Addr×Obj)) (σ:St) (H:Hp) (s:Shared) (e C:Addr) (dd:Option Addr),Inv X Me σ H s->H e=some (j_ C dd e)->E σ (.ref e) none (upd H e (gC C dd e))->X.xe (.ref e) s
 own:PassesOwn (model X.prog X.w) X.A X.env X.xe
abbrev Cx.out(X:Cx)(E:St->XK):Cx:=X.nY (Zx X E)
theorem wO(Mv:X.stack=X.env::X.outer)(hf:X.env.frame=some X.env.locals):dz (X.out E) E where
 pass:=by
  intro Me σ H s e s' I h
  obtain⟨ea,T,C,dd,Hc,rfl,os,bare,un,bu,h1,h2,h3,hE⟩:=h
  have I':=I.ef.Bs (ch:=[]) os un bu bare (λb z=>absurd z (by simp))
  exact⟨ea,C,dd,Me,σ,rfl,.inr ⟨Hc,T,.none,I',.inl rfl,h1,h2,h3,hE⟩⟩
 new:=λMe σ H s e C dd I he hE=>⟨e,C,dd,Me,σ,rfl,.inl ⟨H,I.ef,he,hE⟩⟩
 own:=Zx.own Mv hf
variable{N:List Str}{Od:Array (Option Value)}{an od:Option Addr}{body:List Stmt}{params:Arguments}
theorem rT{K:PySem.W.Frag}{dV kV doc pm Mr ct oc:Value}(lk:K.lookup f=some ⟨oc,od,.func (PySem.W.fnOf name qual params body scope dV kV doc pm an Mr ct),Od⟩)(Nc:PySem.W.codeIn K Mr qual=true)(S:b_ N ps scope)
  (len:∀ vs H Q E,sp vs H Q E->vs.length=ps.length)
  (Oi:∀ (A:Around) (outer:List Env) (s:Shared) (H:Hp) (vs:List V) (Q:VK) (E:XK),bP k (A.deeper (envOfC qual scope s.heap.objs.size f Mr))->sp vs H Q E ->
   ∃ t,kc ((kb (bY P w) P w K mg base N qual scope f Mr A outer s H E).out λ_=>E) body t/\t { nx:=λ_ H'=>Q .cL H',rt:=Q } (start N vs) H) :
  aW P w K mg base (bY P w) (k+1) f (PySem.W.fnOf name qual params body scope dV kV doc pm an Mr ct) ps sp:=by
 refine HW lk Nc S len λA outer s H vs Q E hr hs=>?_
 obtain⟨t,h1,h2⟩:=Oi A outer s H vs Q E hr hs
 refine⟨t,λMe s1 σ H1 D I q=>?_,h2⟩
 refine wpAny_mono (h1 Me s1 σ H1 D (I.nY _) q) (λf s' z=>z.ef) λe s' z=>?_
 exact z.FF rfl rfl rfl
variable{pos':Pos}
section
open PySem.Builtin.ObjectAttr (storeInOwnDict storeTaker? setByDescriptor)
theorem rj{e t:Addr}(he:h.get? e=some ⟨.ref C,dd,.fields #[.ref t,.none,.none,.none,.bool false,.none],#[]⟩):bx P w H h e (j_ C dd e) :=
 ⟨⟨t,he⟩,⟨_,he⟩,λ_ _ ⟨t,q⟩ k=>⟨t,k _ q⟩⟩
section
variable{p pos:Pos}{t:TA}
def Jt(C:Addr)(t:TA):TE:=fun σ H Q=>t σ H λvs H1=>vs.length<=sizeLine/\∀ a,H1 a=none->Q (.ref a) (upd H1 a (j_ C none a))
theorem CK(hc:PySem.W.excIn X.K C eQ "ValueError.__new__" = true)(kp:PySem.W.keepIn X.K (.ref C)=true)(hg:Gl X x)(hm:X.mg x=some (.ref C))
  (ha:PA X (e::es) t) (MP:autoParam ((x==("__debug__" : Str))=false) aD._auto_1) (he:autoParam (starEach (e::es) X.env=(false,eval e X.env)::starEach es X.env) aR._auto_1) (Mt:autoParam ((backTo pos (starEach es X.env)).any (·.1)=false) aR._auto_1) :
  PE X (.Call (.Name x p) (e::es) [] pos) (Jt C t):=by
 intro Me s σ H Q I h
 refine wpAny_Call_Name_kw (iY I hg hm ?_ MP)
 refine PySem.W.callWith_K (h₀:=X.base) I.ok.mod.EL kp (bT (ha pos Me s σ H _ I h) λus s1 ⟨vs,H1,I1,r,hl,q⟩=>⟨I1.jt,?_⟩) he Mt
 obtain⟨bm,N,nm,qn,bs,NR,sn,sub,ab,col,dd,k0,k1,k2,k3,k5,mN,hC,hN,N_,T⟩:=B5 I1.jt hc
 obtain⟨hp,g,d,tk,os⟩:=s1
 refine wpAny_call_exc_subT PySem.F.excBase_ValueError T hC hN N_ (λh' a M=>?_) (by show us.length<=sizeLine;rw[← r.length];exact hl)
 obtain⟨t',e1,_,_⟩:=M.there
 have I2:Inv X Me σ (upd H1 a (j_ C none a)) ⟨h',g,d,tk,os⟩:=I1.Ea (t':=tk) M.keeps M.new (rj e1)
 have hn:H1 a=none:=I1.rS M.new
 exact⟨.ref a,_,I2,rfl,q a hn⟩
def G1(C:Addr)(sp:Sp)(t:TA):TE:=fun σ H Q=>t σ H λvs H1=>vs.length<=sizeLine/\∀ a,H1 a=none->sp (.ref a::vs) (upd H1 a (j_ C none a)) (λv H2=>v=.cL/\Q (.ref a) H2) E0
theorem BI(hc:om X.K C "ValueError.__new__" f=true)(hf:PySem.W.isFn X.K (.ref f)=true)(kp:PySem.W.keepIn X.K (.ref C)=true)(F:aW X.prog X.w X.K X.mg X.base (bY X.prog X.w) k f fd ps sp)(hr:bP (k+1) X.A)(hb:Binds X.K fd ps [])(hg:Gl X x)(hm:X.mg x=some (.ref C))
  (ha:PA X (e::es) t) (MP:autoParam ((x==("__debug__" : Str))=false) aD._auto_1) (he:autoParam (starEach (e::es) X.env=(false,eval e X.env)::starEach es X.env) aR._auto_1) (Mt:autoParam ((backTo pos (starEach es X.env)).any (·.1)=false) aR._auto_1) :
  PE X (.Call (.Name x p) (e::es) [] pos) (G1 C sp t):=by
 intro Me s σ H Q I h
 refine wpAny_Call_Name_kw (iY I hg hm ?_ MP)
 refine PySem.W.callWith_K (h₀:=X.base) I.ok.mod.EL kp (bT (ha pos Me s σ H _ I h) λus s1 ⟨vs,H1,I1,r,hl,q⟩=>⟨I1.jt,?_⟩) he Mt
 have X1:=I1.jt
 obtain⟨bm,N,nm,qn,bs,NR,sn,sub,ab,col,dd,k0,k1,k2,k3,k5,mN,hC,hN,N_,T⟩:=zK X1 hc
 obtain⟨hp,g,d,tk,os⟩:=s1
 have f1:=tc_lookup
 have f2:=tc_bind (.ref C)
 have hT:(⟨hp,g,d,tk,os⟩:Shared).TypeIs (.ref C) "type" := ⟨_,hC,rfl⟩
 refine wpAny_call (codeAny_of_tree ?_)
 show wpAny _ _ (callAny (.ref C) _) _ _ _
 repeat (any_goals (first | assumption | with_reducible refine wpAny_loadPart_at hC ?_ | wp_step))
 refine⟨rfl,?_⟩
 refine codeAny_call_builtin_at (Code.quiet_builtin _ (by decide +kernel)) entry_typeCall (wpAny_check_type_call_sub hC (oA PySem.F.excBase_ValueError T hC hN N_
  (λh' kk self=>PySem.W.bind_fn (λb o z=>kk b o (X1 b o z)) self (beq_iff_eq.mp hf)) (λh' kk ht hx hz=>?_) (by show us.length<=sizeLine;rw[← r.length];exact hl)))
 have I2:Inv X Me σ (upd H1 (hp.objs.size+1) (j_ C none (hp.objs.size+1))) ⟨h',g,d,tk,os⟩:=I1.Ea (t':=tk) kk (Heap.get?_none_of_le (Nat.le_succ _)) (rj hx)
 have hq:=q (hp.objs.size+1) (I1.rS (Heap.get?_none_of_le (Nat.le_succ _)))
 have r2:Vals (V.ref (hp.objs.size+1)::vs) (Value.ref (hp.objs.size+1)::us):=.cons rfl r
 have hlen:(Value.ref (hp.objs.size+1)::us++[]).length=ps.length:=by
  rw[List.append_nil,← r2.length]
  exact F.len _ _ _ _ hq
 refine wpAny_call (codeAny_mono (F.run _ X.stack _ _ ⟨Value.ref (hp.objs.size+1)::us,[]⟩ (Value.ref (hp.objs.size+1)::us) _ _ E0 (hr.make C us []) (I2.jL.make C us []) (by have:=hb _ (Value.ref (hp.objs.size+1)::us) I2.jt hlen;rwa [List.append_nil] at this) r2 hq) λr s' Ov=>?_)
 cases r with
 | error e =>
  obtain⟨_,_,_,_,_,_,_,_,_,_,_,_,_,z⟩:=Ov
  exact z.elim
 | ok fl =>
  cases fl with
  | ret u =>
   obtain⟨v,H',I3,rv,ev,q3⟩:=I2.after Ov
   subst ev
   exact⟨rv,⟨V.ref (hp.objs.size+1),H',I3,rfl,q3⟩⟩
  | next=>exact False.elim Ov
  | brk=>exact False.elim Ov
  | cont=>exact False.elim Ov
def FZ(K:PySem.W.Frag)(ta tv:TE)(f:Str):TS:=λD σ H=>tv σ H λy H1=>ta σ H1 λx H2=>∃ a C,x=.ref a/\H2 a=some (j_ C none a)/\fq K C/\((PySem.W.clsIn K C).any λcd=>fS cd.mro)=true/\bU K C f ∧
 ∀ d,H2 d=none->d≠a->D.nx σ (upd (upd H2 d (.xd [(f,y)])) a (j_ C (some d) a))
theorem Bx{value:Expr}{tv:TE}{n:Str}(ha:PE X o ta)(hv:PE X value tv)(hs:swapsWith value (some (.Attribute o n pos')) pos.line X.env=pure false):PS X (.Assign [.Attribute o n pos'] value pos) (FZ X.K ta tv n):=by
 intro Me s σ H D I h
 refine plainObj_wpAny_Assign_Attribute (bT (hv Me s σ H _ I h) λu s1 ⟨y,H1,I1,ry,q⟩=>bT (ha Me s1 σ H1 _ I1 q) λov s2 ⟨x,H2,I2,rx,a,C,ex,ea,c,po,na,q2⟩=>?_) hs
 subst ex
 obtain rfl:ov=Value.ref a:=rx
 obtain⟨tt,hx⟩:=(I2.bu a _ ea).1
 refine Ag po c I2.jt hx na.EY λh' tk d e1 e2 e3 e4=>?_
 have hd:H2 d=none:=I2.rS e2
 have nda:d≠a:=λz=>by rw[z,ea] at hd;cases hd
 refine⟨σ,_,?_,q2 d hd nda⟩
 have up:∀ b,b≠a->b≠d->upd (upd H2 d (.xd [(n,y)])) a (j_ C (some d) a) b=H2 b:=λb h1 h2=>by rw[ao h1,ao h2]
 have nd:∀ b u,s2.heap.get? b=some u->b≠d:=λb u e z=>by rw[z,e2] at e;cases e
 have nH:∀ b u,H2 b=some u->b≠d:=λb u e z=>by rw[z,hd] at e;cases e
 have nE:∀ b u,H2 b=some u->(∀ C dd,u≠j_ C dd a)->b≠a:=λb u e hu z=>by
  rw[z,ea] at e
  exact hu C none (Option.some.inj e).symm
 refine I2.un (t':=tk) ⟨λb u e z _ _=>e4 b u (λw=>by rw[w,ea] at z;cases z) e,λb u e z _ _=>⟨u.slots,e4 b u (λw=>by rw[w,ea] at z;cases z) e⟩,λb u e z _=>?_,λb u e _=>?_,λb xs e=>?_,λb ob u e=>?_,λb ps e=>?_⟩ λb u e=>?_
 ·rw[up b (λw=>by rw[w,ea] at z;cases z) (nd b u e)];exact z
 ·by_cases w:b=a
  ·rw[w];exact⟨_,e1⟩
  ·exact⟨u,e4 b u w e⟩
 ·rw[up b (nE b _ e λ_ _ z=>by cases z) (nH b _ e)];exact e
 ·rw[up b (nE b _ e λ_ _ z=>by cases z) (nH b _ e)];exact e
 ·exact⟨#[],by rw[up b (nE b _ e λ_ _ z=>by cases z) (nH b _ e),e];simp⟩
 ·by_cases w:b=a
  ·subst w
   rw[az] at e
   cases e
   exact rj e1
  ·rw[ao w] at e
   by_cases w2:b=d
   ·subst w2
    rw[az] at e
    cases e
    refine⟨_,e3,λg=>?_⟩
    show jA (List.lookup g [(n,y)]) (if g=n then some _ else none)
    rw[List.lookup_cons]
    by_cases z:g=n
    ·rw[if_pos z,show (g==n)=true from by simp[z]];exact ry
    ·rw[if_neg z,show (g==n)=false from by simp[z]];exact True.intro
   ·rw[ao w2] at e
    refine(I2.bu b u e).lj (λc v hc z=>e4 c v ?_ z) (λc z=>?_) λc ys z=>?_
    ·rcases hc with z' | z'
     ·rw[z'];exact w
     ·exact nE c _ z' λ_ _ z=>by cases z
    ·rw[up c (nE c _ z λ_ _ z=>by cases z) (nH c _ z)];exact z
    ·rw[up c (nE c _ z λ_ _ z=>by cases z) (nH c _ z)];exact z
end
end
section
variable{M:Model}{E:Value->Shared->Prop}
theorem BB{e:Addr}{o:Obj}(hx:s.heap.get? e=some o)(h:Q o.cls s):wpAny M A (typeOf (.ref e)) Q E s:=by
 unfold typeOf
 exact wpAny_bind (wpAny_loadPart hx (wpAny_pure h))
theorem v7{e:Addr}{o:Obj}{vs:Array Value}{Q:Bool->Shared->Prop}(hx:s.heap.get? e=some o)(hd:o.data=.fields vs)(h:Q false s):wpAny M A (isType (.ref e)) Q E s:=by
 unfold isType loadHead
 refine wpAny_bind (wpAny_loadPart hx (wpAny_pure ?_))
 rw[hd];exact h
end
def Hk(K:PySem.W.Frag)(E:St->XK)(te:TE):TS:=λD σ H=>te σ H λv H1=>∃ e C dd,v=.ref e/\H1 e=some (j_ C dd e)/\fq K C/\PySem.W.typeIn K (.ref C)=some (.type "type")/\E σ (.ref e) none (upd H1 e (gC C dd e))
theorem sH{exc:Expr}{pos:Pos}(O:dz X E)(Mn:X.calm=true)(he:PE X exc te):PS X (.Raise (some exc) none pos) (Hk X.K E te):=by
 intro Me s σ H D I h
 rw[arm_exec_Raise]
 refine wpAny_bind (wpAny_standAt ?_)
 unfold raiseStmt
 dsimp only [evalOpt,Option.map]
 refine wpAny_bind (wpAny_bind (bT (he Me s σ H _ I h) λu s1 hq=>wpAny_bind (wpAny_standAt (wpAny_pure ?_))))
 obtain⟨v,H1,I1,rv,e,C,dd,ev,hN,c,ht,hE⟩:=hq
 subst ev
 obtain rfl:u=Value.ref e:=rv
 obtain⟨t,hx⟩:=(I1.bu e _ hN).1
 have X1:=I1.jt
 refine wpAny_bind (wpAny_pure ?_)
 refine wpAny_bind (wpAny_holding ?_)
 unfold excFromValue isExcClass
 refine wpAny_bind (wpAny_bind (v7 hx rfl ?_))
 refine wpAny_pure ?_
 refine wpAny_bind ?_
 unfold isInstance
 refine wpAny_bind (BB hx ((PySem.W.looks_mroIn X1 c.mb).here ?_))
 refine wpAny_pure ?_
 dsimp only
 refine wpAny_bind (v7 hx rfl ?_)
 unfold raisedInstance
 refine wpAny_bind (wpAny_bind (BB hx (wpAny_bind ((PySem.W.looks_typeIn X1 ht).here ?_))))
 refine wpAny_pure ?_
 unfold setFlight
 refine wpAny_bind (wpAny_bind (wpAny_field hx rfl (x:=.none) rfl ?_))
 refine wpAny_pure ?_
 exact wpAny_raiseNew_none (I1.ok.hd Mn) (O.new Me σ H1 s1 e C dd I1 hN hE)
inductive PV where
 | cL | bl (b:Bool) | int (i:Int) | str (x:Str)
 | tup (xs:List PV) | lst (xs:List PV)
 | jh (xs:List PV)
 | obj (C:Addr) (fs:List (Str×PV))
 | exc (C:Addr) (fo:Option (List (Str×PV)))
 | emp
 deriving Inhabited
mutual
inductive Rep (H:Hp):PV->V->Prop where
 | cL:Rep H .cL .cL
 | bl (b:Bool):Rep H (.bl b) (.bl b)
 | int (i:Int):Rep H (.int i) (.int i)
 | str (x:Str):Rep H (.str x) (.str x)
 | tup {a:Addr} {xs:List PV} {vs:List V}:H a=some (.tup vs)->aL H xs vs->Rep H (.tup xs) (.ref a)
 | lst {a:Addr} {xs:List PV} {vs:List V}:H a=some (.lst vs)->aL H xs vs->Rep H (.lst xs) (.ref a)
 | jh {a:Addr} {o:Obj} {xs:List PV} {vs:List V}:H a=some (.pT o (.lst vs))->aL H xs vs->Rep H (.jh xs) (.ref a)
 | obj {a C dx:Addr} {fs:List (Str×PV)} {vs:List (Str×V)}:H a=some (.ins C dx vs)->h_ H fs vs->Rep H (.obj C fs) (.ref a)
 | vJ {a C:Addr}:H a=some (gC C none a)->Rep H (.exc C none) (.ref a)
 | vK {a C d:Addr} {fs:List (Str×PV)} {vs:List (Str×V)}:H a=some (gC C (some d) a)->H d=some (.xd vs)->h_ H fs vs->Rep H (.exc C (some fs)) (.ref a)
 | emp {a:Addr}:H a=some (.dK [])->Rep H .emp (.ref a)
inductive aL (H:Hp):List PV->List V->Prop where
 | nil:aL H [] []
 | cons {p:PV} {v:V} {ps:List PV} {vs:List V}:Rep H p v->aL H ps vs->aL H (p::ps) (v::vs)
inductive h_ (H:Hp):List (Str×PV)->List (Str×V)->Prop where
 | nil:h_ H [] []
 | cons {n:Str} {p:PV} {v:V} {ps:List (Str×PV)} {vs:List (Str×V)}:Rep H p v->h_ H ps vs->h_ H ((n,p)::ps) ((n,v)::vs)
end
mutual
theorem Rep.mono{H H':Hp}(s:bf H H'):∀ {p:PV} {v:V},Rep H p v->Rep H' p v
 | _,_,.cL=>.cL
 | _,_,.bl b=>.bl b
 | _,_,.int i=>.int i
 | _,_,.str x=>.str x
 | _,_,.tup h r=>.tup (s _ _ h) (r.mono s)
 | _,_,.lst h r=>.lst (s _ _ h) (r.mono s)
 | _,_,.jh h r=>.jh (s _ _ h) (r.mono s)
 | _,_,.obj h r=>.obj (s _ _ h) (r.mono s)
 | _,_,.vJ h=>.vJ (s _ _ h)
 | _,_,.vK h h2 r=>.vK (s _ _ h) (s _ _ h2) (r.mono s)
 | _,_,.emp h=>.emp (s _ _ h)
theorem aL.mono{H H':Hp}(s:bf H H'):∀ {p:List PV} {v:List V},aL H p v->aL H' p v
 | _,_,.nil=>.nil
 | _,_,.cons h r=>.cons (h.mono s) (r.mono s)
theorem h_.mono{H H':Hp}(s:bf H H'):∀ {p:List (Str×PV)} {v:List (Str×V)},h_ H p v->h_ H' p v
 | _,_,.nil=>.nil
 | _,_,.cons h r=>.cons (h.mono s) (r.mono s)
end
theorem aL.length{H:Hp}:∀ {p:List PV} {v:List V},aL H p v->p.length=v.length
 | _,_,.nil=>rfl
 | _,_,.cons _ r=>by simp[r.length]
theorem aL.get{H:Hp}:∀ {p:List PV} {v:List V} {i:Nat} {x:PV},aL H p v->p[i]?=some x->∃ u,v[i]?=some u/\Rep H x u
 | _,_,_,_,.nil,e=>by simp at e
 | _,_,0,_,.cons h _,e=>by simp at e;subst e;exact⟨_,rfl,h⟩
 | _,_,i+1,x,.cons _ r,e=>by
  obtain⟨u,h1,h2⟩:=aL.get (i:=i) (x:=x) r (by simpa using e)
  exact⟨u,by simpa using h1,h2⟩
theorem aL.append{H:Hp}:∀ {p q:List PV} {v u:List V},aL H p v->aL H q u->aL H (p++q) (v++u)
 | _,_,_,_,.nil,s=>s
 | _,_,_,_,.cons h r,s=>.cons h (r.append s)
theorem aL.take{H:Hp}:∀ {p:List PV} {v:List V} (n:Nat),aL H p v->aL H (p.take n) (v.take n)
 | _,_,0,_=>.nil
 | _,_,_+1,.nil=>.nil
 | _,_,n+1,.cons h r=>.cons h (r.take n)
theorem aL.drop{H:Hp}:∀ {p:List PV} {v:List V} (n:Nat),aL H p v->aL H (p.drop n) (v.drop n)
 | _,_,0,r=>r
 | _,_,_+1,.nil=>.nil
 | _,_,n+1,.cons _ r=>r.drop n
theorem aL.snoc{p:List PV}{v:List V}{x:PV}{u:V}(r:aL H p v)(h:Rep H x u):aL H (p++[x]) (v++[u]):=r.append (.cons h .nil)
theorem h_.look{H:Hp}{f:Str}:∀ {p:List (Str×PV)} {v:List (Str×V)} {x:PV},h_ H p v->p.lookup f=some x->∃ u,v.lookup f=some u/\Rep H x u
 | _,_,_,.nil,e=>by simp at e
 | (n,_)::_,_,x,.cons h r,e=>by
  rw[List.lookup_cons] at e ⊢
  cases q:f==n with
  | true=>rw[q] at e;cases e;exact⟨_,rfl,h⟩
  | false=>rw[q] at e;exact r.look e
theorem h_.none{H:Hp}{f:Str}:∀ {p:List (Str×PV)} {v:List (Str×V)},h_ H p v->p.lookup f=none->v.lookup f=none
 | _,_,.nil,_=>rfl
 | (n,_)::_,_,.cons h r,e=>by
  rw[List.lookup_cons] at e ⊢
  cases q:f==n with
  | true=>rw[q] at e;cases e
  | false=>rw[q] at e;exact r.none e
theorem aL.ints{H:Hp}:∀ {ns:List Int} {v:List V},aL H (ns.map PV.int) v->v=ns.map V.int
 | [],_,.nil=>rfl
 | _::_,_,.cons (.int i) r=>by rw[r.ints];rfl
theorem aL.Ly{H:Hp}:∀ {ns:List Bool} {v:List V},aL H (ns.map PV.bl) v->v=ns.map V.bl
 | [],_,.nil=>rfl
 | _::_,_,.cons (.bl i) r=>by rw[r.Ly];rfl
structure bJ (Hs H Mi H':Hp):Prop where
 st:bf Hs Mi
 al:bf H H'
 sub:bf Mi H'
 nw:∀ a o,Hs a=none->H a=some o->Mi a=none
variable{Hs:Hp}
theorem bJ.refl(s:bf Hs H):bJ Hs H Hs H:=⟨λ_ _ e=>e,λ_ _ e=>e,s,λ_ _ e _=>e⟩
variable{Mp:Hp}
theorem bJ.trans{H1 Mq H2:Hp}(a:bJ Hs H Mp H1)(b:bJ Mp H1 Mq H2):bJ Hs H Mq H2 :=
 ⟨λc o e=>b.st c o (a.st c o e),λc o e=>b.al c o (a.al c o e),b.sub,λc o e q=>b.nw c o (a.nw c o e q) (a.al c o q)⟩
theorem bJ.new{p:Addr}{o:HO}(s:bf Hs H)(n:H p=none):bJ Hs H (upd Hs p o) (upd H p o):=by
 have ne:∀ c u,H c=some u->c≠p:=λc u e z=>by rw[z,n] at e;cases e
 refine⟨λc u e=>?_,λc u e=>?_,λc u e=>?_,λc u e q=>?_⟩
 ·rw[ao (ne c u (s c u e))];exact e
 ·rw[ao (ne c u e)];exact e
 ·by_cases z:c=p
  ·subst z;rw[az] at e ⊢;exact e
  ·rw[ao z] at e ⊢;exact s c u e
 ·rw[ao (ne c u q)];exact e
inductive SV where
 | sh (p:PV)
 | ow (xs:List PV)
 | bd (a C:Addr) (fs:List (Str×PV))
abbrev ai:=List (Option SV)
structure SR (B H₀ Hs H:Hp) (σ:St) (env:ai):Prop where
 gr:bJ B H₀ Hs H
 len:σ.length=env.length
 sh:∀ (i:Nat) (p:PV),env[i]?=some (some (.sh p))->∃ v,σ[i]?=some (some v)/\Rep Hs p v
 ow:∀ (i:Nat) (xs:List PV),env[i]?=some (some (.ow xs))->∃ a vs,σ[i]?=some (some (.ref a))/\H a=some (.lst vs)/\Hs a=none/\H₀ a=none/\aL Hs xs vs
 sep:∀ (i j:Nat) (xs ys:List PV) (a:Addr),i≠j->env[i]?=some (some (.ow xs))->env[j]?=some (some (.ow ys))->σ[i]?=some (some (.ref a))->σ[j]?≠some (some (.ref a))
 bd:∀ (i:Nat) (a C:Addr) (fs:List (Str×PV)),env[i]?=some (some (.bd a C fs))->∃ dx vs,σ[i]?=some (some (.ref a))/\H a=some (.ins C dx vs)/\Hs a=none/\H₀ a=none/\h_ Hs fs vs
 one:∀ (i j:Nat) (a b C D:Addr) (fs gs:List (Str×PV)),env[i]?=some (some (.bd a C fs))->env[j]?=some (some (.bd b D gs))->i=j
variable{H₀:Hp}
theorem SR.grow{B Mi H':Hp}{env:ai}(r:SR B H₀ Hs H σ env)(g:bJ Hs H Mi H'):SR B H₀ Mi H' σ env where
 gr:=r.gr.trans g
 len:=r.len
 sh:=λi p e=>let ⟨v,h1,h2⟩:=r.sh i p e;⟨v,h1,h2.mono g.st⟩
 ow:=λi xs e=>let ⟨a,vs,h1,h2,h3,h4,h5⟩:=r.ow i xs e;⟨a,vs,h1,g.al _ _ h2,g.nw _ _ h3 h2,h4,h5.mono g.st⟩
 sep:=r.sep
 bd:=λi a C fs e=>let ⟨dx,vs,h1,h2,h3,h4,h5⟩:=r.bd i a C fs e;⟨dx,vs,h1,g.al _ _ h2,g.nw _ _ h3 h2,h4,h5.mono g.st⟩
 one:=r.one
abbrev EX:=Addr×Option (List (Str×PV))
abbrev M(α:Type):=Option (Except EX α)
def M.ok{α:Type}(a:α):M α:=some (.ok a)
variable{α:Type}
noncomputable def M.bind{β:Type}(x:M α)(f:α->M β):M β:=match x with
 | some (.ok a)=>f a
 | some (.error e)=>some (.error e)
 | none=>none
instance:Monad M where
 pure:=M.ok
 bind:=M.bind
def aw(r:M α)(Q:α->Prop)(E:EX->Prop):Prop:=match r with
 | some (.ok a)=>Q a
 | some (.error e)=>E e
 | none=>False
variable{E':EX->Prop}
theorem aw.imp{r:M α}{Q Q':α->Prop}{E:EX->Prop}(h:aw r Q E)(hq:∀ a,Q a->Q' a)(he:∀ e,E e->E' e):aw r Q' E':=by
 cases r with
 | none=>exact h
 | some x=>cases x with
  | ok a=>exact hq a h
  | error e=>exact he e h
theorem aw.bind{α β:Type}{x:M α}{f:α->M β}{Q:β->Prop}{E:EX->Prop}(h:aw (x.bind f) Q E):aw x (λa=>aw (f a) Q E) E:=by
 cases x with
 | none=>exact h
 | some x=>cases x with
  | ok a=>exact h
  | error e=>exact h
def XW(E:XK)(Hs H:Hp)(x:EX):Prop:=∀ ea Mi H',bJ Hs H Mi H'->Rep Mi (.exc x.1 x.2) (.ref ea)->E (.ref ea) none H'
theorem XW.grow{E:XK}{Mi H':Hp}{x:EX}(h:XW E Hs H x)(g:bJ Hs H Mi H'):XW E Mi H' x:=λea Mq H2 g2 r=>h ea Mq H2 (g.trans g2) r
def tE(E:St->XK)(f:ai->M PV):TE:=fun σ H Q=>∃ B H₀ Hs env,SR B H₀ Hs H σ env/\aw (f env) (λp=>∀ v Mi H',bJ Hs H Mi H'->Rep Mi p v->Q v H') (XW (E σ) Hs H)
theorem PE.imp{t t':TE}(h:PE X e t)(i:∀ σ H Q,t' σ H Q->t σ H Q):PE X e t':=λMe s σ H Q I q=>h Me s σ H Q I (i σ H Q q)
theorem wJ{f:ai->M PV}{g:ai->PV->M PV}{Q R:VK}(h:tE E (λenv=>(f env).bind (g env)) σ H Q)
  (k:∀ B H₀ Hs H1 env p v,SR B H₀ Hs H1 σ env->Rep Hs p v->aw (g env p) (λq=>∀ u Mi H',bJ Hs H1 Mi H'->Rep Mi q u->Q u H') (XW (E σ) Hs H1)->R v H1):tE E f σ H R:=by
 obtain⟨B,H₀,Hs,env,sr,h⟩:=h
 refine⟨B,H₀,Hs,env,sr,(aw.bind h).imp (λp hp v Mi H' g r=>?_) λe he=>he⟩
 exact k B H₀ Mi H' env p v (sr.grow g) r (hp.imp (λq hq u Mq H2 g2 r2=>hq u Mq H2 (g.trans g2) r2) λe he=>he.grow g)
theorem vX{f g:ai->M PV}{op:PV->PV->M PV}{r:R2}{Q:VK}(h:tE E (λenv=>(f env).bind λp=>(g env).bind λq=>op p q) σ H Q)
  (k:∀ Hs H1 p q v u,bf Hs H1->Rep Hs p v->Rep Hs q u->aw (op p q) (λz=>∀ w Mi H',bJ Hs H1 Mi H'->Rep Mi z w->Q w H') (XW (E σ) Hs H1)->r v u H1 Q):Gj r (tE E f) (tE E g) σ H Q:=by
 refine wJ h λB H₀ Hs H1 env p v sr rp hp=>?_
 refine⟨B,H₀,Hs,env,sr,(aw.bind hp).imp (λq hq u Mi H' g ru=>?_) λe he=>he⟩
 exact k Mi H' p q v u (sr.grow g).gr.sub (rp.mono g.st) ru (hq.imp (λz hz w Mq H2 g2 r2=>hz w Mq H2 (g.trans g2) r2) λe he=>he.grow g)
theorem Iy{f:ai->M PV}{op:PV->M PV}{r:V->Hp->VK->Prop}{Q:VK}(h:tE E (λenv=>(f env).bind op) σ H Q)
  (k:∀ Hs H1 p v,bf Hs H1->Rep Hs p v->aw (op p) (λz=>∀ w Mi H',bJ Hs H1 Mi H'->Rep Mi z w->Q w H') (XW (E σ) Hs H1)->r v H1 Q):Kx r (tE E f) σ H Q :=
 wJ h λB H₀ Hs H1 env p v sr rp hp=>k Hs H1 p v sr.gr.sub rp hp
def u9(sp:Sp)(MR:List V)(E:St->XK)(t:TA):TE:=fun σ H Q=>t σ H λvs H1=>sp (vs++MR) H1 Q (E σ)
def yW(C:Addr)(m:Str)(sp:Sp)(MR:List V)(E:St->XK)(ta:TE)(t:TA):TE:=fun σ H Q=>ta σ H λx H1=>∃ a dx fs,x=.ref a/\H1 a=some (.ins C dx fs)/\fs.lookup m=none ∧
 t σ H1 λvs H2=>sp (x::(vs++MR)) H2 Q (E σ)
def Fj(C:Addr)(sp:Sp)(MR:List V)(E:St->XK)(t:TA):TE:=fun σ H Q=>t σ H λvs H1=>∀ x dx,H1 x=none->H1 dx=none->dx≠x ->
 sp (.ref x::(vs++MR)) (upd (upd H1 dx (.own x)) x (.ins C dx [])) (λv H2=>v=.cL/\Q (.ref x) H2) (E σ)
variable{MR:List V}
variable{vs:List V}{us:List Value}
variable{pl:Sem Bool}
section
variable{p pos:Pos}{t:TA}
theorem rC{Q:VK}(F:aW X.prog X.w X.K X.mg X.base (bY X.prog X.w) k f fd ps sp)(hr:bP k X.A)(hb:Binds X.K fd ps ds)(hd:Vals MR ds)(hx:dz X E)
  (I:Inv X Me σ H s) (r:Vals vs us) (h:sp (vs++MR) H Q (E σ)):wpAny (model X.prog X.w) X.A (call (.ref f) us) (EP X Me σ Q) X.xe s:=by
 have r2:Vals (vs++MR) (us++ds):=r.append hd
 have hl:(us++ds).length=ps.length:=by rw[← r2.length];exact F.len _ _ _ _ h
 refine wpAny_call (codeAny_mono (F.run X.A X.stack s H ⟨us,[]⟩ (us++ds) (vs++MR) Q (E σ) hr I.jL (hb s us I.jt hl) r2 h) λr s' hq=>?_)
 cases r with
 | error e=>exact hx.pass Me σ H s e s' I hq
 | ok fl =>
  cases fl with
  | ret u=>exact I.after hq
  | next=>exact False.elim hq
  | brk=>exact False.elim hq
  | cont=>exact False.elim hq
theorem oo(F:aW X.prog X.w X.K X.mg X.base (bY X.prog X.w) k f fd ps sp)(hr:bP k X.A)(hg:Gl X x)(hm:X.mg x=some (.ref f))(hk:PySem.W.keepIn X.K (.ref f)=true)(hb:Binds X.K fd ps ds)(hd:Vals MR ds)(hx:dz X E)
  (ha:PA X (e::es) t) (MP:autoParam ((x==("__debug__" : Str))=false) aD._auto_1) (he:autoParam (starEach (e::es) X.env=(false,eval e X.env)::starEach es X.env) aR._auto_1) (Mt:autoParam ((backTo pos (starEach es X.env)).any (·.1)=false) aR._auto_1) :
  PE X (.Call (.Name x p) (e::es) [] pos) (u9 sp MR E t):=by
 intro Me s σ H Q I h
 refine wpAny_Call_Name_kw (iY I hg hm ?_ MP)
 refine PySem.W.callWith_K (h₀:=X.base) I.ok.mod.EL hk (bT (ha pos Me s σ H _ I h) λus s1 ⟨vs,H1,I1,r,q⟩=>⟨I1.jt,?_⟩) he Mt
 exact rC F hr hb hd hx I1 r q
theorem AR(he:PE X o ta)(c:lK X.K C)(hm:Meth X.K C m f)(F:aW X.prog X.w X.K X.mg X.base (bY X.prog X.w) k f fd ps sp)(hr:bP k X.A)(hb:Binds X.K fd ps ds)(hd:Vals MR ds)(hx:dz X E)(ha:PA X (e::es) t)
  (Mv:autoParam (starEach (e::es) X.env=(false,eval e X.env)::starEach es X.env) aR._auto_1) (Mt:autoParam ((backTo pos (starEach es X.env)).any (·.1)=false) aR._auto_1)
  (ht:autoParam (eval (.Call (.Attribute o m apos) (e::es) [] pos) X.env=(do
   let ov ← eval o X.env
   standAt apos.atName
   let (f,first) ← holding [ov] (getMethod ov m pl)
   callWith pos f first (backTo pos (starEach (e::es) X.env)) (backToKw pos (keywordEach [] X.env)))) aR._auto_1) :
  PE X (.Call (.Attribute o m apos) (e::es) [] pos) (yW C m sp MR E ta t):=by
 intro Me s σ H Q I h
 refine PySem.W.methodCall_KW (pl:=pl) (bT (he Me s σ H _ I h) λu s1 ⟨x,H1,I1,rx,a,dx,fs,ex,ea,l,q⟩=>?_) ht
 subst ex
 obtain rfl:u=Value.ref a:=rx
 refine nJ I1 ea c hm l ?_
 refine PySem.W.callWith_K (first:=[.ref a]) (h₀:=X.base) I.ok.mod.EL hm.kp (bT (ha pos Me s1 σ H1 _ I1 q) λus s2 ⟨vs,H2,I2,r,q2⟩=>⟨I2.jt,?_⟩) Mv Mt
 exact rC (us:=.ref a::us) (vs:=.ref a::vs) F hr hb hd hx I2 (.cons rfl r) q2
theorem w8(he:PE X o ta)(c:lK X.K C)(hm:Meth X.K C m f)(F:aW X.prog X.w X.K X.mg X.base (bY X.prog X.w) k f fd ps sp)(hr:bP k X.A)(hb:Binds X.K fd ps ds)(hd:Vals MR ds)(hx:dz X E)
  (ht:autoParam (eval (.Call (.Attribute o m apos) [] [] pos) X.env=(do
   let ov ← eval o X.env
   standAt apos.atName
   let (f,first) ← holding [ov] (getMethod ov m pl)
   callWith pos f first (backTo pos (starEach [] X.env)) (backToKw pos (keywordEach [] X.env)))) aR._auto_1) :
  PE X (.Call (.Attribute o m apos) [] [] pos) (yW C m sp MR E ta uz):=by
 intro Me s σ H Q I h
 refine PySem.W.methodCall_KW (pl:=pl) (bT (he Me s σ H _ I h) λu s1 ⟨x,H1,I1,rx,a,dx,fs,ex,ea,l,q⟩=>?_) ht
 subst ex
 obtain rfl:u=Value.ref a:=rx
 refine nJ I1 ea c hm l ?_
 exact PySem.W.callWith_K0 (first:=[.ref a]) I1.jt hm.kp (rC (us:=[.ref a]) (vs:=[.ref a]) F hr hb hd hx I1 (.cons rfl .nil) q)
theorem xI{Q:VK}(M:Mk X.K C f)(F:aW X.prog X.w X.K X.mg X.base (bY X.prog X.w) k f fd ps sp)(hr:bP (k+1) X.A)(hb:Binds X.K fd ps ds)(hd:Vals MR ds)
  (hx:dz X E) (I:Inv X Me σ H s) (r:Vals vs us)
  (h:∀ x dx,H x=none->H dx=none->dx≠x->sp (.ref x::(vs++MR)) (upd (upd H dx (.own x)) x (.ins C dx [])) (λv H2=>v=.cL/\Q (.ref x) H2) (E σ)) :
  wpAny (model X.prog X.w) X.A (call (.ref C) us) (EP X Me σ Q) X.xe s:=by
 have hq:=h (s.heap.objs.size+1) s.heap.objs.size (I.bu.fresh (Nat.le_succ _)) (I.bu.fresh (Nat.le_refl _)) (Nat.ne_of_lt (Nat.lt_succ_self _))
 have I2:=Inv.made (C:=C) I
 have r2:Vals (V.ref (s.heap.objs.size+1)::(vs++MR)) (Value.ref (s.heap.objs.size+1)::(us++ds)):=.cons rfl (r.append hd)
 have hl:(Value.ref (s.heap.objs.size+1)::us++ds).length=ps.length:=by
  have e:=r2.length
  rw[F.len _ _ _ _ hq] at e
  exact e.symm
 refine wpAny_call (Bz (f:=f) I.jt M.makes M.init (beq_iff_eq.mp M.fn) (codeAny_mono (F.run _ X.stack _ _ ⟨Value.ref (s.heap.objs.size+1)::us,[]⟩ (Value.ref (s.heap.objs.size+1)::(us++ds)) _ _ (E σ) (hr.make C us [])
  (I2.jL.make C us []) (hb _ (Value.ref (s.heap.objs.size+1)::us) I2.jt hl) r2 hq) λr s' Ov=>?_))
 cases r with
 | error e=>exact hx.pass Me σ _ _ e s' I2 Ov
 | ok fl =>
  cases fl with
  | ret u =>
   obtain⟨v,H',I3,rv,ev,q3⟩:=I2.after Ov
   subst ev
   exact⟨rv,⟨V.ref (s.heap.objs.size+1),H',I3,rfl,q3⟩⟩
  | next=>exact False.elim Ov
  | brk=>exact False.elim Ov
  | cont=>exact False.elim Ov
theorem zR(M:Mk X.K C f)(F:aW X.prog X.w X.K X.mg X.base (bY X.prog X.w) k f fd ps sp)(hr:bP (k+1) X.A)(hg:Gl X x)(hm:X.mg x=some (.ref C))(hb:Binds X.K fd ps ds)(hd:Vals MR ds)(hx:dz X E)
  (ha:PA X (e::es) t) (MP:autoParam ((x==("__debug__" : Str))=false) aD._auto_1) (he:autoParam (starEach (e::es) X.env=(false,eval e X.env)::starEach es X.env) aR._auto_1) (Mt:autoParam ((backTo pos (starEach es X.env)).any (·.1)=false) aR._auto_1) :
  PE X (.Call (.Name x p) (e::es) [] pos) (Fj C sp MR E t):=by
 intro Me s σ H Q I h
 refine wpAny_Call_Name_kw (iY I hg hm ?_ MP)
 refine PySem.W.callWith_K (h₀:=X.base) I.ok.mod.EL M.kp (bT (ha pos Me s σ H _ I h) λus s1 ⟨vs,H1,I1,r,q⟩=>⟨I1.jt,?_⟩) he Mt
 exact xI M F hr hb hd hx I1 r q
end
abbrev dq(Hs H:Hp)(Q:VK):PV->Prop:=λz=>∀ w Mi H',bJ Hs H Mi H'->Rep Mi z w->Q w H'
theorem dq.flat{Q:VK}{p:PV}(h:dq Hs H Q p)(s:bf Hs H)(r:Rep Hs p v):Q v H:=h v Hs H (.refl s) r
theorem dq.tup{Hs H:Hp}{Q:VK}{xs:List PV}{vs:List V}(h:dq Hs H Q (.tup xs))(s:bf Hs H)(r:aL Hs xs vs):∀ p,H p=none->Q (.ref p) (upd H p (.tup vs)) :=
 λp n=>h _ (upd Hs p (.tup vs)) _ (bJ.new s n) (.tup az (r.mono (bJ.new s n).st))
theorem dq.lst{Hs H:Hp}{Q:VK}{xs:List PV}{vs:List V}(h:dq Hs H Q (.lst xs))(s:bf Hs H)(r:aL Hs xs vs):∀ p,H p=none->Q (.ref p) (upd H p (.lst vs)) :=
 λp n=>h _ (upd Hs p (.lst vs)) _ (bJ.new s n) (.lst az (r.mono (bJ.new s n).st))
namespace HT
theorem Bu{prog:Program}{w:World}{A:Around}{E:Value->Shared->Prop}{s:Shared}{t b:Addr}{ws:List Value}{Q:Value->Shared->Prop}(ht:IsTup s.heap t #[])(hb:IsTup s.heap b ws.toArray)
  (h1:Q (.ref b) s):wpAny (model prog w) A (binaryOp .Add (.ref t) (.ref b)) Q E s:=by
 obtain⟨⟨cls,dd,data,sl⟩,ho,hc,n,hd⟩:=id ht
 obtain⟨⟨cls2,Pp,data2,sl2⟩,Oa,Oj,n2,hd2⟩:=id hb
 simp only at hc hd Oj hd2
 subst hc hd Oj hd2
 exact concat_meets ⟨_,ho,rfl⟩ ⟨_,Oa,rfl⟩ noFill_tuple_add seq_tuple_add PySem.F.slot_tuple_add PySem.F.entry_tuple_add (PySem.F.args_tuple_add_2 _ _)
   (tuple_addW0 t b #[] ws.toArray n n2 dd Pp sl sl2 rfl) ⟨ho,Oa,h1⟩
end HT
def yO(K:PySem.W.Frag):R2:=λx y H Q=>∃ a b ys,x=.ref a/\y=.ref b/\gx K H a []/\gx K H b ys/\Q (.ref b) H
theorem zV:gc X (binaryOp .Add) (yO X.K):=by
 intro Me s σ H x y v u Q I rx ry h
 obtain⟨a,b,ys,rfl,rfl,ha,hb,q1⟩:=h
 cases rx
 cases ry
 obtain⟨Mg,r1,p1,_⟩:=I.tuple ha
 obtain⟨NB,r2,p2,_⟩:=I.tuple hb
 have e:Mg=[]:=r1.kY.mpr rfl
 subst e
 exact HT.Bu p1 p2 ⟨.ref b,H,I,rfl,q1⟩
def cC(c:Prop)[Decidable c](x:M α):M α:=if c then x else none
theorem aw.cC{α:Type}{c:Prop}[Decidable c]{x:M α}{Q:α->Prop}{E:EX->Prop}(h:aw (L2.cC c x) Q E):c/\aw x Q E:=by
 unfold L2.cC at h
 by_cases hc:c
 ·rw[if_pos hc] at h;exact⟨hc,h⟩
 ·rw[if_neg hc] at h;exact h.elim
def eD(o:Option PV):M PV:=match o with
 | some x=>M.ok x
 | none=>none
theorem aw.opt{o:Option PV}{Q:PV->Prop}{E:EX->Prop}(h:aw (eD o) Q E):∃ x,o=some x/\Q x:=by
 cases o with
 | none=>exact h.elim
 | some x=>exact⟨x,rfl,h⟩
variable{j:Nat}
variable{op:CmpOp}
section
variable{a b:Expr}{pos:Pos}{f g h:ai->M PV}
def af(i:Nat)(env:ai):M PV:=match env[i]? with
 | some (some (.sh p))=>M.ok p
 | _=>none
theorem F5(hN:X.N[i]?=some x)(hv:CC X.env.scope x)(hd:autoParam ((x==("__debug__" : Str))=false) aD._auto_1)(Nc:autoParam ((x==("__classdict__" : Str))=false) aD._auto_1):PE X (.Name x pos) (tE E (af i)):=by
 refine(bG hN hv hd Nc).imp fun σ H Q q=>?_
 obtain⟨B,H₀,Hs,env,sr,q⟩:=q
 unfold af at q
 split at q
 ·rename_i p e
  obtain⟨v,h1,h2⟩:=sr.sh i p e
  exact⟨v,h1,dq.flat q sr.gr.sub h2⟩
 ·exact q.elim
theorem kX{p:PV}(he:PE X e (tC v))(r:∀ H,Rep H p v):PE X e (tE E λ_=>M.ok p):=by
 refine he.imp fun σ H Q q=>?_
 obtain⟨B,H₀,Hs,env,sr,q⟩:=q
 exact dq.flat q sr.gr.sub (r Hs)
theorem zp{i:Int}:PE X (.Constant (.int i) j pos) (tE E λ_=>M.ok (.int i)):=kX kJ λ_=>.int i
theorem Il{i:Bool}:PE X (.Constant (.bool i) j pos) (tE E λ_=>M.ok (.bl i)):=kX A5 λ_=>.bl i
theorem Gn:PE X (.Constant .none j pos) (tE E λ_=>M.ok .cL):=kX FY λ_=>.cL
theorem Gm{i:Str}:PE X (.Constant (.str i) j pos) (tE E λ_=>M.ok (.str i)):=kX GN λ_=>.str i
def ak(op:PV->PV->M PV)(f g:ai->M PV):ai->M PV:=λenv=>(f env).bind λp=>(g env).bind λq=>op p q
def k_(E:St->XK)(r:R2)(op:PV->PV->M PV):Prop:=∀ (σ:St) (Hs H:Hp) (p q:PV) (v u:V) (Q:VK),bf Hs H->Rep Hs p v->Rep Hs q u->aw (op p q) (dq Hs H Q) (XW (E σ) Hs H)->r v u H Q
theorem lO{op:Operator}{r:R2}{o:PV->PV->M PV}(ho:gc X (binaryOp op) r)(hv:k_ E r o)(ha:PE X a (tE E f))(hb:PE X b (tE E g)):PE X (.BinOp a op b pos) (tE E (ak o f g)) :=
 (Ej ho ha hb).imp fun σ H Q q=>vX q λHs H1 p q v u s rp rq h=>hv σ Hs H1 p q v u Q s rp rq h
theorem kE{r:R2}{o:PV->PV->M PV}(ho:gc X (compareOp op) r)(hv:k_ E r o)(ha:PE X a (tE E f))(hb:PE X b (tE E g))(hm:behindInMarks op b=false):PE X (.Compare a [op] [b] pos) (tE E (ak o f g)) :=
 (Cf ho ha hb hm).imp fun σ H Q q=>vX q λHs H1 p q v u s rp rq h=>hv σ Hs H1 p q v u Q s rp rq h
def cP:PV->PV->M PV
 | .int i,.int j=>M.ok (.int (i+j))
 | .str x,.str y=>cC (x.length+y.length<=sizeLine) (M.ok (.str (x++y)))
 | .tup xs,.tup ys=>cC (xs.length+ys.length<=sizeLine) (M.ok (.tup (xs++ys)))
 | .lst xs,.lst ys=>cC (xs.length+ys.length<=sizeLine) (M.ok (.lst (xs++ys)))
 | _,_=>none
def Ek(K:PySem.W.Frag):R2:=λx y H Q=>(∃ i j,x=.int i/\y=.int j/\Q (.int (i+j)) H)\/(∃ i j,x=.str i/\y=.str j/\i.length+j.length<=sizeLine/\Q (.str (i++j)) H)\/Eg K x y H Q\/Ir x y H Q\/yO K x y H Q
theorem Cb:gc X (binaryOp .Add) (Ek X.K):=gc.or F0 (gc.or va (gc.or Cs (gc.or E4 zV)))
theorem Hf{K:PySem.W.Frag}:k_ E (Ek K) cP:=by
 intro σ Hs H p q v u Q s rp rq h
 cases rp with
 | int i=>cases rq with
  | int j=>exact .inl ⟨i,j,rfl,rfl,dq.flat h s (.int _)⟩
  | _=>exact h.elim
 | str i=>cases rq with
  | str j =>
   obtain⟨hz,h⟩:=aw.cC h
   exact .inr (.inl ⟨i,j,rfl,rfl,hz,dq.flat h s (.str _)⟩)
  | _=>exact h.elim
 | @tup a xs vs ha hx=>cases rq with
  | @tup b ys us hb hy =>
   obtain⟨hz,h⟩:=aw.cC h
   cases hx with
   | nil=>exact .inr (.inr (.inr (.inr ⟨a,b,us,rfl,rfl,gx.of (s _ _ ha),gx.of (s _ _ hb),dq.flat h s (.tup hb hy)⟩)))
   | cons Pm Nr =>
    have hx:=aL.cons Pm Nr
    refine .inr (.inr (.inl ⟨a,b,_,us,rfl,rfl,gx.of (s _ _ ha),gx.of (s _ _ hb),(λz=>nomatch z),by rw[← hx.length,← hy.length];exact hz,λz=>?_,λz=>dq.tup h s (hx.append hy)⟩))
    have e:ys=[]:=by cases hy with | nil=>rfl | cons _ _=>cases z
    subst e
    rw[List.append_nil] at h
    exact dq.flat h s (.tup ha hx)
  | _=>exact h.elim
 | @lst a xs vs ha hx=>cases rq with
  | @lst b ys us hb hy =>
   obtain⟨hz,h⟩:=aw.cC h
   exact .inr (.inr (.inr (.inl ⟨a,b,vs,us,rfl,rfl,s _ _ ha,s _ _ hb,by rw[← hx.length,← hy.length];exact hz,dq.lst h s (hx.append hy)⟩)))
  | _=>exact h.elim
 | _=>exact h.elim
def vB(c:Int->Int->Bool)(o:Int->Int->Int):PV->PV->M PV
 | .int i,.int j=>cC (c i j=true) (M.ok (.int (o i j)))
 | _,_=>none
theorem vH{C:Int->Int->Prop}{c:Int->Int->Bool}{o:Int->Int->Int}(hc:∀ i j,c i j=true->C i j):k_ E (rI C λi j=>.int (o i j)) (vB c o):=by
 intro σ Hs H p q v u Q s rp rq h
 cases rp with
 | int i=>cases rq with
  | int j =>
   obtain⟨hz,h⟩:=aw.cC h
   exact⟨i,j,rfl,rfl,hc i j hz,dq.flat h s (.int _)⟩
  | _=>exact h.elim
 | _=>exact h.elim
def jd:PV->PV->M PV
 | .int i,.int j=>M.ok (.int (i-j))
 | _,_=>none
theorem G8:k_ E (u4 λi j=>.int (i-j)) jd:=by
 intro σ Hs H p q v u Q s rp rq h
 cases rp with
 | int i=>cases rq with
  | int j=>exact⟨i,j,rfl,rfl,dq.flat h s (.int _)⟩
  | _=>exact h.elim
 | _=>exact h.elim
def AK(o:Int->Int->Bool):PV->PV->M PV
 | .int i,.int j=>M.ok (.bl (o i j))
 | _,_=>none
theorem qQ{o:Int->Int->Bool}:k_ E (u4 λi j=>.bl (o i j)) (AK o):=by
 intro σ Hs H p q v u Q s rp rq h
 cases rp with
 | int i=>cases rq with
  | int j=>exact⟨i,j,rfl,rfl,dq.flat h s (.bl _)⟩
  | _=>exact h.elim
 | _=>exact h.elim
def aV:PV->PV->M PV
 | .tup xs,.int i=>eD (nv xs i)
 | .lst xs,.int i=>eD (nv xs i)
 | .jh xs,.int i=>eD (nv xs i)
 | .str z,.int i=>cC (z.length<=sizeLine) (eD ((nv z.cps.toList i).map λc=>.str ⟨#[c]⟩))
 | _,_=>none
theorem aL.nv{H:Hp}{xs:List PV}{vs:List V}{i:Int}{x:PV}(r:aL H xs vs)(e:L2.nv xs i=some x):∃ v,L2.nv vs i=some v/\Rep H x v:=by
 unfold L2.nv at e ⊢
 rw[← r.length]
 obtain⟨j,h1,h2⟩:=Option.bind_eq_some_iff.mp e
 obtain⟨v,h3,h4⟩:=r.get h2
 exact⟨v,by rw[h1];exact h3,h4⟩
theorem Hh{K:PySem.W.Frag}:k_ E (Kj K) aV:=by
 intro σ Hs H p q v u Q s rp rq h
 cases rp with
 | @tup a xs vs ha hx=>cases rq with
  | int i =>
   obtain⟨x,ex,h⟩:=aw.opt h
   obtain⟨v,h1,h2⟩:=hx.nv ex
   exact .inr (.inl ⟨a,vs,i,v,rfl,rfl,gx.of (s _ _ ha),h1,dq.flat h s h2⟩)
  | _=>exact h.elim
 | @lst a xs vs ha hx=>cases rq with
  | int i =>
   obtain⟨x,ex,h⟩:=aw.opt h
   obtain⟨v,h1,h2⟩:=hx.nv ex
   exact .inl ⟨a,vs,i,v,rfl,rfl,eI.of (s _ _ ha),h1,dq.flat h s h2⟩
  | _=>exact h.elim
 | @jh a o xs vs ha hx=>cases rq with
  | int i =>
   obtain⟨x,ex,h⟩:=aw.opt h
   obtain⟨v,h1,h2⟩:=hx.nv ex
   exact .inl ⟨a,vs,i,v,rfl,rfl,.inl (.inr ⟨o,s _ _ ha⟩),h1,dq.flat h s h2⟩
  | _=>exact h.elim
 | str z=>cases rq with
  | int i =>
   obtain⟨hz,h⟩:=aw.cC h
   obtain⟨x,ex,h⟩:=aw.opt h
   obtain⟨c,ec,rfl⟩:=Option.map_eq_some_iff.mp ex
   exact .inr (.inr ⟨z,i,c,rfl,rfl,hz,ec,dq.flat h s (.str _)⟩)
  | _=>exact h.elim
 | _=>exact h.elim
theorem E6(ha:PE X a (tE E f))(hb:PE X b (tE E g))(hs:si b):PE X (.Subscript a b pos) (tE E (ak aV f g)) :=
 (AS ve ha hb hs).imp fun σ H Q q=>vX q λHs H1 p q v u s rp rq h=>Hh σ Hs H1 p q v u Q s rp rq h
end
def tG(E:St->XK)(f:ai->M α)(K:Hp->Hp->α->Prop):St->Hp->Prop:=fun σ H=>∃ B H₀ Hs env,SR B H₀ Hs H σ env/\aw (f env) (K Hs H) (XW (E σ) Hs H)
def KG(K:Hp->Hp->α->Prop):Prop:=∀ Hs H Mi H' b,K Hs H b->bJ Hs H Mi H'->K Mi H' b
abbrev KB(Q:Bool->Hp->Prop):Hp->Hp->Bool->Prop:=λHs H k=>∀ Mi H',bJ Hs H Mi H'->Q k H'
abbrev ir(Q:VK):Hp->Hp->PV->Prop:=λHs H p=>dq Hs H Q p
abbrev KL(Q:List V->Hp->Prop):Hp->Hp->List PV->Prop:=λHs H ps=>∀ vs Mi H',bJ Hs H Mi H'->aL Mi ps vs->Q vs H'
theorem KB.g{Q:Bool->Hp->Prop}:KG (KB Q):=λHs H Mi H' b k g Mq H2 g2=>k Mq H2 (g.trans g2)
theorem ir.g{Q:VK}:KG (ir Q):=λHs H Mi H' b k g w Mq H2 g2 r=>k w Mq H2 (g.trans g2) r
theorem KL.g{Q:List V->Hp->Prop}:KG (KL Q):=λHs H Mi H' b k g w Mq H2 g2 r=>k w Mq H2 (g.trans g2) r
def tT(E:St->XK)(f:ai->M Bool):TT:=fun σ H Q=>tG E f (KB Q) σ H
def tL(E:St->XK)(f:ai->M (List PV)):TA:=fun σ H Q=>tG E f (KL Q) σ H
theorem PT.imp{t t':TT}(h:PT X e t)(i:∀ σ H Q,t' σ H Q->t σ H Q):PT X e t':=λMe s σ H Q I q=>h Me s σ H Q I (i σ H Q q)
theorem PW.imp{t t':TT}(h:PW X e t)(i:∀ σ H Q,t' σ H Q->t σ H Q):PW X e t':=λw Me s σ H Q I q=>h w Me s σ H Q I (i σ H Q q)
theorem PA.imp{e:List Expr}{t t':TA}(h:PA X e t)(i:∀ σ H Q,t' σ H Q->t σ H Q):PA X e t':=λw Me s σ H Q I q=>h w Me s σ H Q I (i σ H Q q)
section
variable{β:Type}{K:Hp->Hp->β->Prop}
theorem bR{f:ai->M PV}{g:ai->PV->M β}{R:VK}(kg:KG K)(h:tG E (λenv=>(f env).bind (g env)) K σ H)
  (k:∀ B H₀ Hs H1 env p v,SR B H₀ Hs H1 σ env->Rep Hs p v->aw (g env p) (K Hs H1) (XW (E σ) Hs H1)->R v H1):tE E f σ H R:=by
 obtain⟨B,H₀,Hs,env,sr,h⟩:=h
 refine⟨B,H₀,Hs,env,sr,(aw.bind h).imp (λp hp v Mi H' g r=>?_) λe he=>he⟩
 exact k B H₀ Mi H' env p v (sr.grow g) r (hp.imp (λq hq=>kg _ _ _ _ q hq g) λe he=>he.grow g)
theorem lp{f:ai->M Bool}{g:ai->Bool->M β}{R:Bool->Hp->Prop}(kg:KG K)(h:tG E (λenv=>(f env).bind (g env)) K σ H)
  (k:∀ B H₀ Hs H1 env p,SR B H₀ Hs H1 σ env->aw (g env p) (K Hs H1) (XW (E σ) Hs H1)->R p H1):tT E f σ H R:=by
 obtain⟨B,H₀,Hs,env,sr,h⟩:=h
 refine⟨B,H₀,Hs,env,sr,(aw.bind h).imp (λp hp Mi H' g=>?_) λe he=>he⟩
 exact k B H₀ Mi H' env p (sr.grow g) (hp.imp (λq hq=>kg _ _ _ _ q hq g) λe he=>he.grow g)
theorem cM{f:ai->M (List PV)}{g:ai->List PV->M β}{R:List V->Hp->Prop}(kg:KG K)(h:tG E (λenv=>(f env).bind (g env)) K σ H)
  (k:∀ B H₀ Hs H1 env p v,SR B H₀ Hs H1 σ env->aL Hs p v->aw (g env p) (K Hs H1) (XW (E σ) Hs H1)->R v H1):tL E f σ H R:=by
 obtain⟨B,H₀,Hs,env,sr,h⟩:=h
 refine⟨B,H₀,Hs,env,sr,(aw.bind h).imp (λp hp v Mi H' g r=>?_) λe he=>he⟩
 exact k B H₀ Mi H' env p v (sr.grow g) r (hp.imp (λq hq=>kg _ _ _ _ q hq g) λe he=>he.grow g)
end
def vD:PV->M Bool
 | .bl b=>M.ok b
 | _=>none
def eW(f:ai->M PV):ai->M Bool:=λenv=>(f env).bind vD
theorem aw.IC{p:PV}{Q:Bool->Prop}{E:EX->Prop}(h:aw (vD p) Q E):∃ b,p=.bl b/\Q b:=by
 cases p with
 | bl b=>exact⟨b,rfl,h⟩
 | _=>exact h.elim
variable{r:List V->Hp->VK->Prop}
section
variable{a b:Expr}{pos:Pos}{f g h:ai->M PV}{u v:ai->M Bool}{rest:List Expr}
theorem oB{Q:Bool->Hp->Prop}(q:tT E (eW f) σ H Q):tB (tE E f) σ H Q:=by
 refine bR KB.g q λB H₀ Hs H1 env p v sr rp hp=>?_
 obtain⟨k,rfl,hp⟩:=aw.IC hp
 cases rp
 exact⟨k,rfl,hp Hs H1 (.refl sr.gr.sub)⟩
theorem rP(he:PE X e (tE E f))(hw:autoParam (∀ whole,isTrue e X.env whole=(do let v ← whole;standAt e.pos;holding [v] (truthy v))) aI._auto_1):PT X e (tT E (eW f)) :=
 (F1 he hw).imp fun σ H Q q=>oB q
theorem kH{r:R2}{o:PV->PV->M PV}(ho:gc X (compareOp op) r)(hv:k_ E r o)(ha:PE X a (tE E f))(hb:PE X b (tE E g))(hm:behindInMarks op b=false):PT X (.Compare a [op] [b] pos) (tT E (eW (ak o f g))):=by
 refine(Dm ho ha hb hm).imp fun σ H Q q=>?_
 have q':=oB q
 exact vX q' λHs H1 p q v u s rp rq h=>hv σ Hs H1 p q v u _ s rp rq h
def jC(u:ai->M Bool):ai->M Bool:=λenv=>(u env).bind λb=>M.ok (!b)
def FN(u v:ai->M Bool):ai->M Bool:=λenv=>(u env).bind λb=>if b=true then v env else M.ok false
def Ef(u v:ai->M Bool):ai->M Bool:=λenv=>(u env).bind λb=>if b=true then M.ok true else v env
theorem F9(ha:PT X a (tT E u)):PT X (.UnaryOp .Not a pos) (tT E (jC u)) :=
 (Fo ha).imp fun σ H Q q=>lp KB.g q λB H₀ Hs H1 env p sr hp=>hp Hs H1 (.refl sr.gr.sub)
theorem BY(ha:PT X a (tT E u)):PW X (.BoolOp .And [a] pos) (tT E u):=pw_and1 ha
theorem l_(ha:PT X a (tT E u)):PW X (.BoolOp .Or [a] pos) (tT E u):=pw_or1 ha
theorem Gs(ha:PT X a (tT E u))(hb:PW X (.BoolOp .And (b::rest) pos) (tT E v)):PW X (.BoolOp .And (a::b::rest) pos) (tT E (FN u v)):=by
 refine(pw_and ha hb).imp fun σ H Q q=>lp KB.g q λB H₀ Hs H1 env p sr hp=>?_
 cases p with
 | true=>exact⟨B,H₀,Hs,env,sr,hp⟩
 | false=>exact hp Hs H1 (.refl sr.gr.sub)
theorem qh(ha:PT X a (tT E u))(hb:PW X (.BoolOp .Or (b::rest) pos) (tT E v)):PW X (.BoolOp .Or (a::b::rest) pos) (tT E (Ef u v)):=by
 refine(pw_or ha hb).imp fun σ H Q q=>lp KB.g q λB H₀ Hs H1 env p sr hp=>?_
 cases p with
 | true=>exact hp Hs H1 (.refl sr.gr.sub)
 | false=>exact⟨B,H₀,Hs,env,sr,hp⟩
def Cd(f:ai->M PV):ai->M PV:=λenv=>(f env).bind λp=>(vD p).bind λb=>M.ok (.bl (!b))
def tK(f g:ai->M PV):ai->M PV:=λenv=>(f env).bind λp=>(vD p).bind λb=>if b=true then g env else M.ok (.bl false)
def Lj(f g:ai->M PV):ai->M PV:=λenv=>(f env).bind λp=>(vD p).bind λb=>if b=true then M.ok (.bl true) else g env
theorem Ae(ha:PE X a (tE E f)):PE X (.UnaryOp .Not a pos) (tE E (Cd f)):=by
 refine(F2 ha).imp fun σ H Q q=>bR (K:=ir Q) ir.g q λB H₀ Hs H1 env p v sr rp hp=>?_
 obtain⟨k,rfl,hp⟩:=aw.IC (aw.bind hp)
 cases rp
 exact⟨k,rfl,dq.flat hp sr.gr.sub (.bl _)⟩
theorem mn(ha:PE X a (tE E f))(hb:PE X (.BoolOp .And (b::rest) pos) (tE E g)):PE X (.BoolOp .And (a::b::rest) pos) (tE E (tK f g)):=by
 refine(E_ ha hb).imp fun σ H Q q=>bR (K:=ir Q) ir.g q λB H₀ Hs H1 env p v sr rp hp=>?_
 obtain⟨k,rfl,hp⟩:=aw.IC (aw.bind hp)
 cases rp
 refine⟨k,rfl,?_⟩
 cases k with
 | true=>exact⟨B,H₀,Hs,env,sr,hp⟩
 | false=>exact dq.flat hp sr.gr.sub (.bl _)
theorem HJ(ha:PE X a (tE E f))(hb:PE X (.BoolOp .Or (b::rest) pos) (tE E g)):PE X (.BoolOp .Or (a::b::rest) pos) (tE E (Lj f g)):=by
 refine(Iu ha hb).imp fun σ H Q q=>bR (K:=ir Q) ir.g q λB H₀ Hs H1 env p v sr rp hp=>?_
 obtain⟨k,rfl,hp⟩:=aw.IC (aw.bind hp)
 cases rp
 refine⟨k,rfl,?_⟩
 cases k with
 | false=>exact⟨B,H₀,Hs,env,sr,hp⟩
 | true=>exact dq.flat hp sr.gr.sub (.bl _)
def xg(u:ai->M Bool)(f g:ai->M PV):ai->M PV:=λenv=>(u env).bind λb=>if b=true then f env else g env
theorem F4(hc:PT X c (tT E u))(ha:PE X a (tE E f))(hb:PE X b (tE E g)):PE X (.IfExp c a b pos) (tE E (xg u f g)):=by
 refine(A8 hc ha hb).imp fun σ H Q q=>lp (K:=ir Q) ir.g q λB H₀ Hs H1 env p sr hp=>?_
 cases p with
 | true=>exact⟨B,H₀,Hs,env,sr,hp⟩
 | false=>exact⟨B,H₀,Hs,env,sr,hp⟩
def aq:ai->M (List PV):=λ_=>M.ok []
def aa(f:ai->M PV)(fs:ai->M (List PV)):ai->M (List PV):=λenv=>(f env).bind λp=>(fs env).bind λps=>M.ok (p::ps)
variable{fs:ai->M (List PV)}
theorem AY:PA X [] (tL E aq):=by
 refine dC.imp fun σ H Q q=>?_
 obtain⟨B,H₀,Hs,env,sr,q⟩:=q
 exact q [] Hs H (.refl sr.gr.sub) .nil
theorem wG(ha:PE X e (tE E f))(hr:PA X es (tL E fs))(hs:autoParam (starEach (e::es) X.env=(false,eval e X.env)::starEach es X.env) aR._auto_1):PA X (e::es) (tL E (aa f fs)):=by
 refine(bj ha hr hs).imp fun σ H Q q=>bR (K:=KL Q) KL.g q λB H₀ Hs H1 env p v sr rp hp=>?_
 refine⟨B,H₀,Hs,env,sr,(aw.bind hp).imp (λps O9 vs Mi H' g r=>?_) λe he=>he⟩
 exact O9 (v::vs) Mi H' g (.cons (rp.mono g.st) r)
def iU(fs:ai->M (List PV)):ai->M PV:=λenv=>(fs env).bind λps=>cC (ps.length<=sizeLine) (M.ok (.tup ps))
def mJ(fs:ai->M (List PV)):ai->M PV:=λenv=>(fs env).bind λps=>cC (ps.length<=sizeLine) (M.ok (.lst ps))
theorem Gv(hr:PA X es (tL E fs)):PE X (.Tuple es x1 pos) (tE E (iU fs)):=by
 refine(zd hr).imp fun σ H Q q=>cM (K:=ir Q) ir.g q λB H₀ Hs H1 env p v sr rp hp=>?_
 obtain⟨hz,hp⟩:=aw.cC hp
 exact⟨by rw[← rp.length];exact hz,dq.tup hp sr.gr.sub rp⟩
theorem A6(hr:PA X es (tL E fs)):PE X (.List es pos) (tE E (mJ fs)):=by
 refine(sv hr).imp fun σ H Q q=>cM (K:=ir Q) ir.g q λB H₀ Hs H1 env p v sr rp hp=>?_
 obtain⟨hz,hp⟩:=aw.cC hp
 exact⟨by rw[← rp.length];exact hz,dq.lst hp sr.gr.sub rp⟩
def aj(o:List PV->M PV)(fs:ai->M (List PV)):ai->M PV:=λenv=>(fs env).bind o
def kR(E:St->XK)(r:List V->Hp->VK->Prop)(o:List PV->M PV):Prop:=∀ (σ:St) (Hs H:Hp) (ps:List PV) (vs:List V) (Q:VK),bf Hs H->aL Hs ps vs->aw (o ps) (dq Hs H Q) (XW (E σ) Hs H)->r vs H Q
theorem z_{o:List PV->M PV}{Q:VK}(hv:kR E r o)(q:tE E (aj o fs) σ H Q):JL r (tL E fs) σ H Q :=
 cM (K:=ir Q) ir.g q λB H₀ Hs H1 env p v sr rp hp=>hv σ Hs H1 p v Q sr.gr.sub rp hp
variable{p:Pos}{id T:String}
theorem iw{o:List PV->M PV}(hc:cy X (.builtin id) r)(hv:kR E r o)(hg:Gl X x)(hm:X.mg x=none)(hx:bootBuiltins x=some (.builtin id))(ha:PA X (e::es) (tL E fs))(hn:autoParam (x ≠ "__name__") aD._auto_1)(MP:autoParam ((x==("__debug__" : Str))=false) aD._auto_1)
  (he:autoParam (starEach (e::es) X.env=(false,eval e X.env)::starEach es X.env) aR._auto_1) (Mt:autoParam ((backTo pos (starEach es X.env)).any (·.1)=false) aR._auto_1):PE X (.Call (.Name x p) (e::es) [] pos) (tE E (aj o fs)) :=
 (jB hc hg hm hx ha hn MP he Mt).imp fun σ H Q q=>z_ hv q
theorem qC{o:List PV->M PV}(hc:cy X (.type T) r)(hv:kR E r o)(hg:Gl X x)(hm:X.mg x=none)(hx:bootBuiltins x=some (.type T))(ha:PA X (e::es) (tL E fs))(hn:autoParam (x ≠ "__name__") aD._auto_1)(MP:autoParam ((x==("__debug__" : Str))=false) aD._auto_1)
  (he:autoParam (starEach (e::es) X.env=(false,eval e X.env)::starEach es X.env) aR._auto_1) (Mt:autoParam ((backTo pos (starEach es X.env)).any (·.1)=false) aR._auto_1):PE X (.Call (.Name x p) (e::es) [] pos) (tE E (aj o fs)) :=
 (qa hc hg hm hx ha hn MP he Mt).imp fun σ H Q q=>z_ hv q
end
variable{xs:List PV}
def bX:PV->Option (List PV)
 | .tup xs=>some xs
 | .lst xs=>some xs
 | .jh xs=>some xs
 | _=>none
theorem BP{K:PySem.W.Frag}{p:PV}(s:bf Hs H)(r:Rep Hs p v)(e:bX p=some xs):∃ a vs,v=.ref a/\(eI K H a vs\/gx K H a vs)/\aL Hs xs vs:=by
 cases r with
 | tup h r=>cases e;exact⟨_,_,rfl,.inr (gx.of (s _ _ h)),r⟩
 | lst h r=>cases e;exact⟨_,_,rfl,.inl (eI.of (s _ _ h)),r⟩
 | jh h r=>cases e;exact⟨_,_,rfl,.inl (.inl (.inr ⟨_,s _ _ h⟩)),r⟩
 | _=>cases e
def sA:PV->M PV
 | .str z=>cC (z.length<=sizeLine) (M.ok (.int z.length))
 | p=>eD ((bX p).map λxs=>.int xs.length)
def fx:List PV->M PV
 | [p]=>sA p
 | _=>none
theorem aL.one{p:PV}(r:aL H [p] vs):∃ v,vs=[v]/\Rep H p v:=by
 cases r with
 | cons h r=>cases r;exact⟨_,rfl,h⟩
theorem aL.two{p q:PV}(r:aL H [p,q] vs):∃ v u,vs=[v,u]/\Rep H p v/\Rep H q u:=by
 cases r with
 | cons h r=>obtain⟨u,rfl,h2⟩:=r.one;exact⟨_,_,rfl,h,h2⟩
def EA(K:PySem.W.Frag):List V->Hp->VK->Prop:=λxs H Q=>(∃ p ys,xs=[.ref p]/\(eI K H p ys\/gx K H p ys)/\Q (.int ys.length) H)\/∃ z,xs=[.str z]/\z.length<=sizeLine/\Q (.int z.length) H
theorem yg:cy X (.builtin "len") (EA X.K):=cy.or qZ sF
theorem Fs{K:PySem.W.Frag}:kR E (EA K) fx:=by
 intro σ Hs H ps vs Q s r h
 match ps,r with
 | [],_=>exact h.elim
 | _::_::_,_=>exact h.elim
 | [p],r =>
  obtain⟨v,rfl,rp⟩:=r.one
  cases hp:bX p with
  | none =>
   cases p with
   | str z =>
    cases rp
    obtain⟨hz,h⟩:=aw.cC h
    exact .inr ⟨z,rfl,hz,dq.flat h s (.int _)⟩
   | tup _=>cases hp
   | lst _=>cases hp
   | jh _=>cases hp
   | _=>exact h.elim
  | some xs =>
   obtain⟨a,us,rfl,hq,hx⟩:=BP (K:=K) s rp hp
   have h':aw (eD ((bX p).map λxs=>PV.int xs.length)) (dq Hs H Q) (XW (E σ) Hs H):=by
    cases p with
    | str z=>cases hp
    | _=>exact h
   rw[hp] at h'
   refine .inl ⟨a,us,rfl,hq,?_⟩
   rw[← hx.length]
   exact dq.flat h' s (.int _)
def wu:List PV->M PV
 | [p]=>eD ((bX p).map .lst)
 | _=>none
theorem DP{K:PySem.W.Frag}:kR E (λxs H Q=>∃ p ys,xs=[.ref p]/\(eI K H p ys\/gx K H p ys)/\∀ l,H l=none->Q (.ref l) (upd H l (.lst ys))) wu:=by
 intro σ Hs H ps vs Q s r h
 match ps,r with
 | [],_=>exact h.elim
 | _::_::_,_=>exact h.elim
 | [p],r =>
  obtain⟨v,rfl,rp⟩:=r.one
  obtain⟨x,ex,h⟩:=aw.opt h
  obtain⟨xs,hp,rfl⟩:=Option.map_eq_some_iff.mp ex
  obtain⟨a,us,rfl,hq,hx⟩:=BP (K:=K) s rp hp
  exact⟨a,us,rfl,hq,dq.lst h s hx⟩
def dX:List PV->M PV
 | [p]=>eD ((bX p).map .tup)
 | _=>none
theorem yT{K:PySem.W.Frag}:kR E (λxs H Q=>∃ p ys,xs=[.ref p]/\((eI K H p ys/\∀ l,H l=none->Q (.ref l) (upd H l (.tup ys)))\/(gx K H p ys/\Q (.ref p) H))) dX:=by
 intro σ Hs H ps vs Q s r h
 match ps,r with
 | [],_=>exact h.elim
 | _::_::_,_=>exact h.elim
 | [p],r =>
  obtain⟨v,rfl,rp⟩:=r.one
  obtain⟨x,ex,h⟩:=aw.opt h
  obtain⟨xs,hp,rfl⟩:=Option.map_eq_some_iff.mp ex
  cases rp with
  | tup ha hx=>cases hp;exact⟨_,_,rfl,.inr ⟨gx.of (s _ _ ha),dq.flat h s (.tup ha hx)⟩⟩
  | lst ha hx=>cases hp;exact⟨_,_,rfl,.inl ⟨eI.of (s _ _ ha),dq.tup h s hx⟩⟩
  | jh ha hx=>cases hp;exact⟨_,_,rfl,.inl ⟨.inl (.inr ⟨_,s _ _ ha⟩),dq.tup h s hx⟩⟩
  | _=>cases hp
def sX:List PV->Option (List Int)
 | []=>some []
 | .int i::r=>(sX r).map (i::·)
 | _=>none
def yM:List PV->Option (List Bool)
 | []=>some []
 | .bl i::r=>(yM r).map (i::·)
 | _=>none
theorem wj:∀ {ps:List PV} {ns:List Int},sX ps=some ns->ps=ns.map PV.int
 | [],_,e=>by cases e;rfl
 | .int i::r,_,e=>by
  obtain⟨ms,h1,rfl⟩:=Option.map_eq_some_iff.mp e
  rw[wj h1];rfl
theorem Ax:∀ {ps:List PV} {ns:List Bool},yM ps=some ns->ps=ns.map PV.bl
 | [],_,e=>by cases e;rfl
 | .bl i::r,_,e=>by
  obtain⟨ms,h1,rfl⟩:=Option.map_eq_some_iff.mp e
  rw[Ax h1];rfl
theorem qz:∀ (ns:List Int),sX (ns.map PV.int)=some ns
 | []=>rfl
 | n::r=>by show (sX (r.map PV.int)).map (n::·)=_;rw[qz r];rfl
theorem tZ:∀ (ns:List Bool),yM (ns.map PV.bl)=some ns
 | []=>rfl
 | n::r=>by show (yM (r.map PV.bl)).map (n::·)=_;rw[tZ r];rfl
def Jn:PV->M PV
 | .lst xs=>eD ((sX xs).map λns=>.int ns.sum)
 | _=>none
def xB:List PV->M PV
 | [p]=>Jn p
 | _=>none
theorem Gz{K:PySem.W.Frag}:kR E (λxs H Q=>∃ (a:Addr) (ns:List Int),xs=[.ref a]/\eI K H a (ns.map V.int)/\Q (.int ns.sum) H) xB:=by
 intro σ Hs H ps vs Q s r h
 match ps,r with
 | [],_=>exact h.elim
 | _::_::_,_=>exact h.elim
 | [p],r =>
  obtain⟨v,rfl,rp⟩:=r.one
  cases rp with
  | lst ha hx =>
   obtain⟨x,ex,h⟩:=aw.opt h
   obtain⟨ns,hn,rfl⟩:=Option.map_eq_some_iff.mp ex
   rw[wj hn] at hx
   exact⟨_,ns,rfl,hx.ints▸eI.of (s _ _ ha),dq.flat h s (.int _)⟩
  | _=>exact h.elim
def all1:PV->M PV
 | .lst xs=>eD ((yM xs).map λns=>.bl (ns.all id))
 | _=>none
def sM:List PV->M PV
 | [p]=>all1 p
 | _=>none
theorem F3{K:PySem.W.Frag}:kR E (λxs H Q=>∃ (a:Addr) (bs:List Bool),xs=[.ref a]/\eI K H a (bs.map V.bl)/\Q (.bl (bs.all id)) H) sM:=by
 intro σ Hs H ps vs Q s r h
 match ps,r with
 | [],_=>exact h.elim
 | _::_::_,_=>exact h.elim
 | [p],r =>
  obtain⟨v,rfl,rp⟩:=r.one
  cases rp with
  | lst ha hx =>
   obtain⟨x,ex,h⟩:=aw.opt h
   obtain⟨ns,hn,rfl⟩:=Option.map_eq_some_iff.mp ex
   rw[Ax hn] at hx
   exact⟨_,ns,rfl,hx.Ly▸eI.of (s _ _ ha),dq.flat h s (.bl _)⟩
  | _=>exact h.elim
def J2(o:Int->Int->Int):PV->PV->M PV
 | .int i,.int j=>M.ok (.int (o i j))
 | _,_=>none
def qd(o:Int->Int->Int):List PV->M PV
 | [p,q]=>J2 o p q
 | _=>none
theorem rR{o:Int->Int->Int}:kR E (λxs H Q=>∃ i j,xs=[.int i,.int j]/\Q (.int (o i j)) H) (qd o):=by
 intro σ Hs H ps vs Q s r h
 match ps,r with
 | [],_=>exact h.elim
 | [_],_=>exact h.elim
 | _::_::_::_,_=>exact h.elim
 | [p,q],r =>
  obtain⟨v,u,rfl,rp,rq⟩:=r.two
  cases rp with
  | int i=>cases rq with
   | int j=>exact⟨i,j,rfl,dq.flat h s (.int _)⟩
   | _=>exact h.elim
  | _=>exact h.elim
def dJ(n:Nat)(sem:List PV->M PV):Sp:=λvs H Q E=>vs.length=n/\∃ Hs ps,bf Hs H/\aL Hs ps vs/\aw (sem ps) (dq Hs H Q) (XW E Hs H)
variable{NA:List PV}
section
variable{sem:List PV->M PV}{p pos:Pos}{fs:ai->M (List PV)}{g:ai->M PV}
theorem C7(F:aW X.prog X.w X.K X.mg X.base (bY X.prog X.w) k f fd ps (dJ n sem))(hr:bP k X.A)(hg:Gl X x)(hm:X.mg x=some (.ref f))(hk:PySem.W.keepIn X.K (.ref f)=true)(hb:Binds X.K fd ps ds)(hd:Vals MR ds)(hdp:∀ H,aL H NA MR)(O:dz X E)
  (hl:∀ ps,sem (ps++NA)≠none->ps.length+NA.length=n)
  (ha:PA X (e::es) (tL E fs)) (MP:autoParam ((x==("__debug__" : Str))=false) aD._auto_1) (he:autoParam (starEach (e::es) X.env=(false,eval e X.env)::starEach es X.env) aR._auto_1) (Mt:autoParam ((backTo pos (starEach es X.env)).any (·.1)=false) aR._auto_1) :
  PE X (.Call (.Name x p) (e::es) [] pos) (tE E (aj (λps=>sem (ps++NA)) fs)):=by
 refine(oo F hr hg hm hk hb hd O ha MP he Mt).imp fun σ H Q q=>cM (K:=ir Q) ir.g q λB H₀ Hs H1 env Nn v sr rp hp=>?_
 have r2:aL Hs (Nn++NA) (v++MR):=rp.append (hdp Hs)
 have hn:sem (Nn++NA)≠none:=λz=>by rw[z] at hp;exact hp
 refine⟨?_,Hs,Nn++NA,sr.gr.sub,r2,hp⟩
 rw[← r2.length,List.length_append]
 exact hl Nn hn
def iJ(ok:Addr->Bool)(f:Str)(g:ai->M PV):ai->M PV:=λenv=>(g env).bind λp=>match p with
 | .obj C fs=>cC (ok C=true) (eD (fs.lookup f))
 | _=>none
theorem F_{ok:Addr->Bool}{fl:Str}(he:PE X e (tE E g))(bu:∀ C,ok C=true->lK X.K C/\bU X.K C fl)(hb:attributeBase e fl X.env (eval e X.env)=eval e X.env):PE X (.Attribute e fl pos) (tE E (iJ ok fl g)):=by
 refine(GX he hb).imp fun σ H Q q=>bR (K:=ir Q) ir.g q λB H₀ Hs H1 env p v sr rp hp=>?_
 cases rp with
 | obj ha hx =>
  obtain⟨hc,hp⟩:=aw.cC hp
  obtain⟨x,ex,hp⟩:=aw.opt hp
  obtain⟨u,h1,h2⟩:=hx.look ex
  exact⟨_,_,_,_,u,rfl,sr.gr.sub _ _ ha,(bu _ hc).1,(bu _ hc).2,h1,dq.flat hp sr.gr.sub h2⟩
 | _=>exact hp.elim
def cN(C:Addr)(m:Str)(sem:List PV->M PV)(g:ai->M PV)(fs:ai->M (List PV)):ai->M PV:=λenv=>(g env).bind λp=>match p with
 | .obj C' fl=>cC (C'=C/\fl.lookup m=none) ((fs env).bind λps=>sem (.obj C' fl::ps))
 | _=>none
theorem BZ(he:PE X o (tE E g))(c:lK X.K C)(hm:Meth X.K C m f)(F:aW X.prog X.w X.K X.mg X.base (bY X.prog X.w) k f fd ps (dJ n sem))(hr:bP k X.A)(hb:Binds X.K fd ps [])(O:dz X E)(hl:∀ ps,sem ps≠none->ps.length=n)(ha:PA X (e::es) (tL E fs))
  (Mv:autoParam (starEach (e::es) X.env=(false,eval e X.env)::starEach es X.env) aR._auto_1) (Mt:autoParam ((backTo pos (starEach es X.env)).any (·.1)=false) aR._auto_1)
  (ht:autoParam (eval (.Call (.Attribute o m apos) (e::es) [] pos) X.env=(do
   let ov ← eval o X.env
   standAt apos.atName
   let (f,first) ← holding [ov] (getMethod ov m pl)
   callWith pos f first (backTo pos (starEach (e::es) X.env)) (backToKw pos (keywordEach [] X.env)))) aR._auto_1) :
  PE X (.Call (.Attribute o m apos) (e::es) [] pos) (tE E (cN C m sem g fs)):=by
 refine(AR he c hm F hr hb .nil O ha Mv Mt ht).imp fun σ H Q q=>bR (K:=ir Q) ir.g q λB H₀ Hs H1 env p v sr rp hp=>?_
 cases rp with
 | @obj a C' dx fl fvs ho hx =>
  obtain⟨⟨e1,hn⟩,Hy⟩:=aw.cC hp
  subst e1
  refine⟨a,dx,fvs,rfl,sr.gr.sub _ _ ho,hx.none hn,B,H₀,Hs,env,sr,(aw.bind Hy).imp (λNn O9 vs Mi H' g' r=>?_) λe he=>he⟩
  have r2:aL Mi (.obj C' fl::Nn) (V.ref a::(vs++[])):=by rw[List.append_nil];exact .cons ((Rep.obj ho hx).mono g'.st) r
  have hn:sem (.obj C' fl::Nn)≠none:=λz=>by rw[z] at O9;exact O9
  refine⟨by rw[← r2.length];exact hl _ hn,Mi,_,g'.sub,r2,O9.imp (λz hz w Mq H2 g2 r2=>hz w Mq H2 (g'.trans g2) r2) λe he=>he.grow g'⟩
 | _=>exact hp.elim
theorem Bt(he:PE X o (tE E g))(c:lK X.K C)(hm:Meth X.K C m f)(F:aW X.prog X.w X.K X.mg X.base (bY X.prog X.w) k f fd ps (dJ n sem))(hr:bP k X.A)(hb:Binds X.K fd ps [])(O:dz X E)(hl:∀ ps,sem ps≠none->ps.length=n)
  (ht:autoParam (eval (.Call (.Attribute o m apos) [] [] pos) X.env=(do
   let ov ← eval o X.env
   standAt apos.atName
   let (f,first) ← holding [ov] (getMethod ov m pl)
   callWith pos f first (backTo pos (starEach [] X.env)) (backToKw pos (keywordEach [] X.env)))) aR._auto_1) :
  PE X (.Call (.Attribute o m apos) [] [] pos) (tE E (cN C m sem g aq)):=by
 refine(w8 he c hm F hr hb .nil O ht).imp fun σ H Q q=>bR (K:=ir Q) ir.g q λB H₀ Hs H1 env p v sr rp hp=>?_
 cases rp with
 | @obj a C' dx fl fvs ho hx =>
  obtain⟨⟨e1,hn⟩,Hy⟩:=aw.cC hp
  subst e1
  have r2:aL Hs [.obj C' fl] [V.ref a]:=.cons (Rep.obj ho hx) .nil
  have PH:sem [.obj C' fl]≠none:=λz=>by
   have N4:aw (sem [.obj C' fl]) (dq Hs H1 Q) (XW (E σ) Hs H1):=Hy
   rw[z] at N4;exact N4
  exact⟨a,dx,fvs,rfl,sr.gr.sub _ _ ho,hx.none hn,by rw[show ([]:List V)++[]=[] from rfl];exact r2.length▸hl _ PH,Hs,_,sr.gr.sub,r2,Hy⟩
 | _=>exact hp.elim
end
inductive Out where
 | nx (env:ai) | rt (p:PV) | bk (env:ai) | ct (env:ai)
def KS(D:Ends)(B H₀:Hp):Out->Prop
 | .nx env=>∀ σ Hs H,SR B H₀ Hs H σ env->D.nx σ H
 | .rt p=>∀ v Hs H,bJ B H₀ Hs H->Rep Hs p v->D.rt v H
 | .bk env=>∀ σ Hs H,SR B H₀ Hs H σ env->D.bk σ H
 | .ct env=>∀ σ Hs H,SR B H₀ Hs H σ env->D.ct σ H
def tS(E:XK)(f:ai->M Out):TS:=λD σ H=>∃ B H₀ Hs env,SR B H₀ Hs H σ env/\aw (f env) (KS D B H₀) (XW E B H₀)
theorem PS.imp{st:Stmt}{t t':TS}(h:PS X st t)(i:∀ D σ H,t' D σ H->t D σ H):PS X st t':=λMe s σ H D I q=>h Me s σ H D I (i D σ H q)
theorem kc.imp{st:List Stmt}{t t':TS}(h:kc X st t)(i:∀ D σ H,t' D σ H->t D σ H):kc X st t':=λMe s σ H D I q=>h Me s σ H D I (i D σ H q)
def av:ai->M Out:=λenv=>M.ok (.nx env)
def zZ(g:ai->M Out):Out->M Out
 | .nx env=>g env
 | o=>M.ok o
noncomputable def au(f g:ai->M Out):ai->M Out:=λenv=>(f env).bind (zZ g)
theorem kS{E:XK}{f:ai->M PV}{g:ai->PV->M Out}{D:Ends}{R:VK}(h:tS E (λenv=>(f env).bind (g env)) D σ H)
  (k:∀ B H₀ Hs H1 env p v,SR B H₀ Hs H1 σ env->Rep Hs p v->aw (g env p) (KS D B H₀) (XW E B H₀)->R v H1):tE (λ_=>E) f σ H R:=by
 obtain⟨B,H₀,Hs,env,sr,h⟩:=h
 refine⟨B,H₀,Hs,env,sr,(aw.bind h).imp (λp hp v Mi H' g r=>?_) λe he=>he.grow sr.gr⟩
 exact k B H₀ Mi H' env p v (sr.grow g) r hp
theorem zg{E:XK}{f:ai->M Bool}{g:ai->Bool->M Out}{D:Ends}{R:Bool->Hp->Prop}(h:tS E (λenv=>(f env).bind (g env)) D σ H)
  (k:∀ B H₀ Hs H1 env p,SR B H₀ Hs H1 σ env->aw (g env p) (KS D B H₀) (XW E B H₀)->R p H1):tT (λ_=>E) f σ H R:=by
 obtain⟨B,H₀,Hs,env,sr,h⟩:=h
 refine⟨B,H₀,Hs,env,sr,(aw.bind h).imp (λp hp Mi H' g=>?_) λe he=>he.grow sr.gr⟩
 exact k B H₀ Mi H' env p (sr.grow g) hp
theorem tw{E:XK}{f:ai->M (List PV)}{g:ai->List PV->M Out}{D:Ends}{R:List V->Hp->Prop}(h:tS E (λenv=>(f env).bind (g env)) D σ H)
  (k:∀ B H₀ Hs H1 env p v,SR B H₀ Hs H1 σ env->aL Hs p v->aw (g env p) (KS D B H₀) (XW E B H₀)->R v H1):tL (λ_=>E) f σ H R:=by
 obtain⟨B,H₀,Hs,env,sr,h⟩:=h
 refine⟨B,H₀,Hs,env,sr,(aw.bind h).imp (λp hp v Mi H' g r=>?_) λe he=>he.grow sr.gr⟩
 exact k B H₀ Mi H' env p v (sr.grow g) r hp
theorem SR.set{B H₀ Hs H:Hp}{σ:St}{env:ai}{p:PV}{v:V}{i:Nat}(r:SR B H₀ Hs H σ env)(h:Rep Hs p v):SR B H₀ Hs H (σ.set i (some v)) (env.set i (some (.sh p))) where
 gr:=r.gr
 len:=by rw[List.length_set,List.length_set];exact r.len
 sh:=λj q e=>by
  rw[List.getElem?_set] at e ⊢
  by_cases z:i=j
  ·subst z
   rw[if_pos rfl] at e ⊢
   split at e
   ·cases e
    rw[if_pos (by rw[r.len];assumption)]
    exact⟨v,rfl,h⟩
   ·cases e
  ·rw[if_neg z] at e ⊢
   exact r.sh j q e
 ow:=λj xs e=>by
  rw[List.getElem?_set] at e ⊢
  by_cases z:i=j
  ·subst z
   rw[if_pos rfl] at e
   split at e <;> cases e
  ·rw[if_neg z] at e ⊢
   exact r.ow j xs e
 sep:=λj k xs ys a n e1 e2 e3 e4=>by
  rw[List.getElem?_set] at e1 e2 e3 e4
  by_cases z:i=j
  ·subst z
   rw[if_pos rfl] at e1
   split at e1 <;> cases e1
  ·by_cases z2:i=k
   ·subst z2
    rw[if_pos rfl] at e2
    split at e2 <;> cases e2
   ·rw[if_neg z] at e1 e3
    rw[if_neg z2] at e2 e4
    exact r.sep j k xs ys a n e1 e2 e3 e4
 bd:=λj a C fs e=>by
  rw[List.getElem?_set] at e ⊢
  by_cases z:i=j
  ·subst z
   rw[if_pos rfl] at e
   split at e <;> cases e
  ·rw[if_neg z] at e ⊢
   exact r.bd j a C fs e
 one:=λj k a b C D fs gs e1 e2=>by
  rw[List.getElem?_set] at e1 e2
  by_cases z:i=j
  ·subst z
   rw[if_pos rfl] at e1
   split at e1 <;> cases e1
  ·by_cases z2:i=k
   ·subst z2
    rw[if_pos rfl] at e2
    split at e2 <;> cases e2
   ·rw[if_neg z] at e1
    rw[if_neg z2] at e2
    exact r.one j k _ _ C D fs gs e1 e2
theorem SR.own{B:Hp}{env:ai}{p:Addr}(r:SR B H₀ Hs H σ env)(h:aL Hs xs vs)(n:H p=none):SR B H₀ Hs (upd H p (.lst vs)) (σ.set i (some (.ref p))) (env.set i (some (.ow xs))):=by
 have ne:∀ c u,H c=some u->c≠p:=λc u e z=>by rw[z,n] at e;cases e
 have hs:Hs p=none:=by
  cases q:Hs p with
  | none=>rfl
  | some o=>have:=r.gr.sub _ _ q;rw[n] at this;cases this
 have h0:H₀ p=none:=by
  cases q:H₀ p with
  | none=>rfl
  | some o=>have:=r.gr.al _ _ q;rw[n] at this;cases this
 refine⟨⟨r.gr.st,λc u e=>by rw[ao (ne c u (r.gr.al c u e))];exact r.gr.al c u e,λc u e=>by rw[ao (ne c u (r.gr.sub c u e))];exact r.gr.sub c u e,r.gr.nw⟩,by rw[List.length_set,List.length_set];exact r.len,λj q e=>?_,λj ys e=>?_,λj k ys zs a nj e1 e2 e3 e4=>?_,λj ba C fs e=>?_,λj k _ _ C D fs gs e1 e2=>?_⟩
 ·rw[List.getElem?_set] at e ⊢
  by_cases z:i=j
  ·subst z
   rw[if_pos rfl] at e
   split at e <;> cases e
  ·rw[if_neg z] at e ⊢
   exact r.sh j q e
 ·rw[List.getElem?_set] at e ⊢
  by_cases z:i=j
  ·subst z
   rw[if_pos rfl] at e ⊢
   split at e
   ·cases e
    rw[if_pos (by rw[r.len];assumption)]
    exact⟨p,vs,rfl,az,hs,h0,h⟩
   ·cases e
  ·rw[if_neg z] at e ⊢
   obtain⟨a,us,h1,h2,h3,h4,h5⟩:=r.ow j ys e
   exact⟨a,us,h1,by rw[ao (ne a _ h2)];exact h2,h3,h4,h5⟩
 ·rw[List.getElem?_set] at e1 e2 e3 e4
  by_cases z:i=j
  ·subst z
   rw[if_pos rfl] at e3
   split at e3
   ·cases e3
    rw[if_neg nj] at e2 e4
    obtain⟨a',us,h1,h2,_⟩:=r.ow k zs e2
    rw[e4] at h1;cases h1
    rw[n] at h2;cases h2
   ·cases e3
  ·rw[if_neg z] at e1 e3
   by_cases z2:i=k
   ·subst z2
    rw[if_pos rfl] at e4
    split at e4
    ·cases e4
     obtain⟨a',us,h1,h2,_⟩:=r.ow j ys e1
     rw[e3] at h1;cases h1
     rw[n] at h2;cases h2
    ·cases e4
   ·rw[if_neg z2] at e2 e4
    exact r.sep j k ys zs a nj e1 e2 e3 e4
 ·rw[List.getElem?_set] at e ⊢
  by_cases z:i=j
  ·subst z
   rw[if_pos rfl] at e
   split at e <;> cases e
  ·rw[if_neg z] at e ⊢
   obtain⟨dx,us,h1,h2,h3,h4,h5⟩:=r.bd j ba C fs e
   exact⟨dx,us,h1,by rw[ao (ne ba _ h2)];exact h2,h3,h4,h5⟩
 ·rw[List.getElem?_set] at e1 e2
  by_cases z:i=j
  ·subst z
   rw[if_pos rfl] at e1
   split at e1 <;> cases e1
  ·by_cases z2:i=k
   ·subst z2
    rw[if_pos rfl] at e2
    split at e2 <;> cases e2
   ·rw[if_neg z] at e1
    rw[if_neg z2] at e2
    exact r.one j k _ _ C D fs gs e1 e2
def oQ(i:Nat)(env:ai):ai:=match env[i]? with
 | some (some (.ow xs))=>env.set i (some (.sh (.lst xs)))
 | _=>env
theorem SR.pT{B:Hp}{env:ai}(i:Nat)(r:SR B H₀ Hs H σ env):∃ Mi,SR B H₀ Mi H σ (oQ i env)/\bf Hs Mi:=by
 unfold oQ
 split
 ·rename_i xs e
  obtain⟨a,vs,h1,h2,h3,h4,h5⟩:=r.ow i xs e
  have ne:∀ c u,Hs c=some u->c≠a:=λc u q z=>by rw[z,h3] at q;cases q
  have Mv:bf Hs (upd Hs a (.lst vs)):=λc u q=>by rw[ao (ne c u q)];exact q
  refine⟨upd Hs a (.lst vs),⟨⟨λc u q=>Mv c u (r.gr.st c u q),r.gr.al,λc u q=>?_,λc u q1 q2=>?_⟩,by rw[List.length_set];exact r.len,λj q ej=>?_,λj ys ej=>?_,λj k ys zs b nj e1 e2 e3 e4=>?_,λj ba C fs ej=>?_,λj k _ _ C D fs gs e1 e2=>?_⟩,Mv⟩
  ·by_cases z:c=a
   ·subst z;rw[az] at q;cases q;exact h2
   ·rw[ao z] at q;exact r.gr.sub c u q
  ·have z:c≠a:=λz=>by rw[z,h4] at q2;cases q2
   rw[ao z];exact r.gr.nw c u q1 q2
  ·rw[List.getElem?_set] at ej
   by_cases z:i=j
   ·subst z
    rw[if_pos rfl] at ej
    split at ej
    ·cases ej
     exact⟨.ref a,h1,.lst az (h5.mono Mv)⟩
    ·cases ej
   ·rw[if_neg z] at ej
    obtain⟨v,q1,q2⟩:=r.sh j q ej
    exact⟨v,q1,q2.mono Mv⟩
  ·rw[List.getElem?_set] at ej
   by_cases z:i=j
   ·subst z
    rw[if_pos rfl] at ej
    split at ej <;> cases ej
   ·rw[if_neg z] at ej
    obtain⟨b,us,q1,q2,q3,q4,q5⟩:=r.ow j ys ej
    have nb:b≠a:=λw=>by subst w;exact r.sep i j xs ys b z e ej h1 q1
    exact⟨b,us,q1,q2,by rw[ao nb];exact q3,q4,q5.mono Mv⟩
  ·rw[List.getElem?_set] at e1 e2
   by_cases z:i=j
   ·subst z
    rw[if_pos rfl] at e1
    split at e1 <;> cases e1
   ·by_cases z2:i=k
    ·subst z2
     rw[if_pos rfl] at e2
     split at e2 <;> cases e2
    ·rw[if_neg z] at e1
     rw[if_neg z2] at e2
     exact r.sep j k ys zs b nj e1 e2 e3 e4
  ·rw[List.getElem?_set] at ej
   by_cases z:i=j
   ·subst z
    rw[if_pos rfl] at ej
    split at ej <;> cases ej
   ·rw[if_neg z] at ej
    obtain⟨dx,us,q1,q2,q3,q4,q5⟩:=r.bd j ba C fs ej
    have nb:ba≠a:=λw=>by subst w;rw[h2] at q2;cases q2
    exact⟨dx,us,q1,q2,by rw[ao nb];exact q3,q4,q5.mono Mv⟩
  ·rw[List.getElem?_set] at e1 e2
   by_cases z:i=j
   ·subst z
    rw[if_pos rfl] at e1
    split at e1 <;> cases e1
   ·by_cases z2:i=k
    ·subst z2
     rw[if_pos rfl] at e2
     split at e2 <;> cases e2
    ·rw[if_neg z] at e1
     rw[if_neg z2] at e2
     exact r.one j k _ _ C D fs gs e1 e2
 ·exact⟨Hs,r,λ_ _ q=>q⟩
def oj(is:List Nat)(f:ai->M Out):ai->M Out:=λenv=>f (is.foldl (λe i=>oQ i e) env)
theorem SR.kx{B H₀ H:Hp}{σ:St}:∀ {is:List Nat} {Hs:Hp} {env:ai},SR B H₀ Hs H σ env->∃ Mi,SR B H₀ Mi H σ (is.foldl (λe i=>oQ i e) env)/\bf Hs Mi
 | [],Hs,_,r=>⟨Hs,r,λ_ _ q=>q⟩
 | i::is,_,_,r=>by
  obtain⟨Mp,r1,s1⟩:=r.pT i
  obtain⟨Mq,r2,s2⟩:=SR.kx (is:=is) r1
  exact⟨Mq,r2,λc u q=>s2 c u (s1 c u q)⟩
section
variable{E:XK}{pos:Pos}{f:ai->M PV}{st:Stmt}{sts rest:List Stmt}{u:ai->M Bool}{g h:ai->M Out}
theorem GO(is:List Nat)(hs:PS X st (tS E g)):PS X st (tS E (oj is g)):=hs.imp λD σ H q=>by
 obtain⟨B,H₀,Hs,env,sr,q⟩:=q
 obtain⟨Mi,r,_⟩:=sr.kx (is:=is)
 exact⟨B,H₀,Mi,_,r,q⟩
theorem DU:kc X [] (tS E av):=iQ.imp λD σ H q=>by
 obtain⟨B,H₀,Hs,env,sr,q⟩:=q
 exact q σ Hs H sr
theorem AQ(h1:PS X st (tS E g))(h2:kc X rest (tS E h)):kc X (st::rest) (tS E (au g h)):=by
 refine(bH h1 h2).imp λD σ H q=>?_
 obtain⟨B,H₀,Hs,env,sr,q⟩:=q
 refine⟨B,H₀,Hs,env,sr,(aw.bind q).imp (λo ho=>?_) λe he=>he⟩
 cases o with
 | nx Mh=>exact fun σ' Mi H' NG=>⟨B,H₀,Mi,Mh,NG,ho⟩
 | rt p=>exact ho
 | bk Mh=>exact ho
 | ct Mh=>exact ho
def bw(i:Nat)(f:ai->M PV):ai->M Out:=λenv=>(f env).bind λp=>M.ok (.nx (env.set i (some (.sh p))))
theorem G_(hN:X.N.Nodup)(hi:X.N[i]?=some x)(hx:Loc X.env.scope x)(he:PE X e (tE (λ_=>E) f))(hs:autoParam (swapsWith e (some (.Name x pos')) pos.line X.env=pure false) aR._auto_1)(hf:autoParam (X.fn x=true\/X.env.scope.names.lookup x=some .local) aF._auto_1) :
  PS X (.Assign [.Name x pos'] e pos) (tS E (bw i f)) :=
 (gY hN hi hx he hs hf).imp λD σ H q=>kS q λB H₀ Hs H1 env p v sr rp hp=>hp _ Hs H1 (sr.set rp)
def retS(f:ai->M PV):ai->M Out:=λenv=>(f env).bind λp=>M.ok (.rt p)
theorem Ht(he:PE X e (tE (λ_=>E) f)):PS X (.Return (some e) pos) (tS E (retS f)) :=
 (By he).imp λD σ H q=>kS q λB H₀ Hs H1 env p v sr rp hp=>hp v Hs H1 sr.gr rp
def kj(f:ai->M PV):ai->M Out:=λenv=>(f env).bind λ_=>M.ok (.nx env)
theorem Dw(he:PE X e (tE (λ_=>E) f))(hs:autoParam (swapsWith e none pos.line X.env=pure false) aR._auto_1):PS X (.Expr e pos) (tS E (kj f)) :=
 (m9 he hs).imp λD σ H q=>kS q λB H₀ Hs H1 env p v sr rp hp=>hp σ Hs H1 sr
def mv(u:ai->M Bool)(g h:ai->M Out):ai->M Out:=λenv=>(u env).bind λb=>if b=true then g env else h env
theorem HS{a b:List Stmt}(hc:PT X c (tT (λ_=>E) u))(ha:kc X a (tS E g))(hb:kc X b (tS E h)):PS X (.If c a b pos) (tS E (mv u g h)):=by
 refine(Im hc ha hb).imp λD σ H q=>zg q λB H₀ Hs H1 env p sr hp=>?_
 cases p with
 | true=>exact⟨B,H₀,Hs,env,sr,hp⟩
 | false=>exact⟨B,H₀,Hs,env,sr,hp⟩
end
def ov(Hs H₀:Hp):Hp:=λa=>match Hs a with
 | some o=>some o
 | none=>H₀ a
theorem nq{o:HO}(h:Hs a=some o):ov Hs H₀ a=some o:=by unfold ov;rw[h]
theorem i7(h:Hs a=none):ov Hs H₀ a=H₀ a:=by unfold ov;rw[h]
theorem CS(s:bf Hs H)(t:bf H₀ H):bf (ov Hs H₀) H:=λa o e=>by
 cases q:Hs a with
 | some o'=>rw[nq q] at e;cases e;exact s _ _ q
 | none=>rw[i7 q] at e;exact t _ _ e
theorem SR.rebase{B:Hp}{env:ai}(r:SR B H₀ Hs H σ env):SR Hs (ov Hs H₀) Hs H σ env where
 gr:=⟨λ_ _ e=>e,CS r.gr.sub r.gr.al,r.gr.sub,λ_ _ e _=>e⟩
 len:=r.len
 sh:=r.sh
 ow:=λi xs e=>let ⟨a,vs,h1,h2,h3,h4,h5⟩:=r.ow i xs e;⟨a,vs,h1,h2,h3,by rw[i7 h3];exact h4,h5⟩
 sep:=r.sep
 bd:=λi a C fs e=>let ⟨dx,vs,h1,h2,h3,h4,h5⟩:=r.bd i a C fs e;⟨dx,vs,h1,h2,h3,by rw[i7 h3];exact h4,h5⟩
 one:=r.one
theorem bJ.kD{B Mq H2:Hp}(g:bJ B H₀ Hs H)(g2:bJ Hs (ov Hs H₀) Mq H2):bJ B H₀ Mq H2 where
 st:=λa o e=>g2.st a o (g.st a o e)
 al:=λa o e=>by
  cases q:Hs a with
  | some o' =>
   have h1:=g.sub a o' q
   have h2:=g.al a o e
   rw[h1] at h2;cases h2
   exact g2.al a _ (nq q)
  | none=>exact g2.al a o (by rw[i7 q];exact e)
 sub:=g2.sub
 nw:=λa o e q=>by
  have h1:=g.nw a o e q
  exact g2.nw a o h1 (by rw[i7 h1];exact q)
theorem SR.kD{B H₀ Hs H Mq H2:Hp}{σ:St}{env:ai}(g:bJ B H₀ Hs H)(r:SR Hs (ov Hs H₀) Mq H2 σ env):SR B H₀ Mq H2 σ env where
 gr:=g.kD r.gr
 len:=r.len
 sh:=r.sh
 ow:=λi xs e=>by
  obtain⟨a,vs,h1,h2,h3,h4,h5⟩:=r.ow i xs e
  refine⟨a,vs,h1,h2,h3,?_,h5⟩
  cases q:Hs a with
  | some o=>rw[nq q] at h4;cases h4
  | none=>rw[i7 q] at h4;exact h4
 sep:=r.sep
 bd:=λi a C fs e=>by
  obtain⟨dx,vs,h1,h2,h3,h4,h5⟩:=r.bd i a C fs e
  refine⟨dx,vs,h1,h2,h3,?_,h5⟩
  cases q:Hs a with
  | some o=>rw[nq q] at h4;cases h4
  | none=>rw[i7 q] at h4;exact h4
 one:=r.one
theorem XW.rebase{E:XK}{B:Hp}(g:bJ B H₀ Hs H){x:EX}(h:XW E B H₀ x):XW E Hs (ov Hs H₀) x:=λea Mq H2 r q=>h ea Mq H2 (g.kD r) q
def Js(k:ai->M Out):Out->M Out
 | .nx env=>k env
 | .ct env=>k env
 | .bk env=>M.ok (.nx env)
 | .rt p=>M.ok (.rt p)
def jK(set:PV->ai->M ai)(body:ai->M Out):List PV->ai->M Out
 | [],env=>M.ok (.nx env)
 | x::xs,env=>(set x env).bind λMh=>(body Mh).bind (Js (jK set body xs))
def BW(E:XK)(g:TG)(set:PV->ai->M ai):Prop:=∀ (B H₀ Hs H:Hp) (σ:St) (env:ai) (p:PV) (v:V) (Q:St->Hp->Prop) (Z:EX->Prop),SR B H₀ Hs H σ env->Rep Hs p v->aw (set p env) (λMh=>∀ σ',SR B H₀ Hs H σ' Mh->Q σ' H) Z->g v σ H Q
def cB(i:Nat)(p:PV)(env:ai):M ai:=M.ok (env.set i (some (.sh p)))
theorem bO{E:XK}:BW E (aH i) (cB i):=λB H₀ Hs H σ env p v Q Z sr r h=>h _ (sr.set r)
def cA(i j:Nat):PV->ai->M ai
 | .tup [p,q],env=>M.ok ((env.set i (some (.sh p))).set j (some (.sh q)))
 | _,_=>none
theorem cZ{E:XK}{K:PySem.W.Frag}:BW E (jy K 2 (bM (aH i) (bM (aH j) jG))) (cA i j):=by
 intro B H₀ Hs H σ env p v Q Z sr r h
 cases r with
 | @tup a xs vs ha hx =>
  match xs,hx with
  | [p,q],hx =>
   obtain⟨v,u,rfl,rp,rq⟩:=hx.two
   exact⟨a,[v,u],rfl,gx.of (sr.gr.sub _ _ ha),rfl,v,[u],rfl,u,[],rfl,rfl,h _ ((sr.set rp).set rq)⟩
  | [],_=>exact h.elim
  | [_],_=>exact h.elim
  | _::_::_::_,_=>exact h.elim
 | _=>exact h.elim
section
variable{E:XK}{g:TG}{set:PV->ai->M ai}{body:ai->M Out}{D:Ends}{B:Hp}
def Jv(E:XK)(set:PV->ai->M ai)(body:ai->M Out)(D:Ends)(B H₀ Mp:Hp)(xs:List PV)(i:Nat)(σ:St)(H:Hp):Prop:=∃ Hs env,SR B H₀ Hs H σ env/\bf Mp Hs/\aw (jK set body (xs.drop i) env) (KS D B H₀) (XW E B H₀)
theorem Jv.done(j:Jv E set body D B H₀ Mp xs n σ H)(hn:xs.length<=n):D.nx σ H:=by
 obtain⟨Hs,env,sr,_,h⟩:=j
 rw[List.drop_eq_nil_of_le hn] at h
 exact h σ Hs H sr
theorem Jv.turn{H1 Hx:Hp}{x:PV}(tg:BW E g set)(hx:xs[i]?=some x){env:ai}(sr:SR B H₀ Hs H σ env)(s1:bf Mp Hs)(h:aw (jK set body (xs.drop i) env) (KS D B H₀) (XW E B H₀)){Mq H2:Hp}(gr:bJ Hs H Mq H2)(rv:Rep Mq x v) :
  g v σ H2 fun σ2 H3=>tS E body { D with nx:=Jv E set body D B H₀ Mp xs (i+1),ct:=Jv E set body D B H₀ Mp xs (i+1),bk:=D.nx } σ2 H3:=by
 have Nd:i<xs.length:=(List.getElem?_eq_some_iff.mp hx).1
 have hd:xs.drop i=x::xs.drop (i+1):=by
  rw[List.drop_eq_getElem_cons Nd]
  rw[List.getElem?_eq_getElem Nd] at hx
  rw[Option.some.inj hx]
 rw[hd] at h
 have MN:=sr.grow gr
 refine tg B H₀ Mq H2 σ env x v _ _ MN rv ((aw.bind h).imp (λMh h' σ' NG=>?_) λ_ z=>z)
 refine⟨Mq,ov Mq H₀,Mq,Mh,NG.rebase,(aw.bind h').imp (λo ho=>?_) λe he=>he.rebase NG.gr⟩
 cases o with
 | nx e2=>exact fun σ3 ND H3 r=>⟨ND,e2,r.kD NG.gr,λa o z=>r.gr.st a o (gr.st a o (s1 a o z)),ho⟩
 | ct e2=>exact fun σ3 ND H3 r=>⟨ND,e2,r.kD NG.gr,λa o z=>r.gr.st a o (gr.st a o (s1 a o z)),ho⟩
 | bk e2=>exact fun σ3 ND H3 r=>ho σ3 ND H3 (r.kD NG.gr)
 | rt p=>exact λv3 ND H3 r q=>ho v3 ND H3 (NG.gr.kD r) q
end
def iP(it:ai->M (List PV))(set:PV->ai->M ai)(body:ai->M Out):ai->M Out:=λenv=>(it env).bind λxs=>jK set body xs env
def itemsOf(f:ai->M PV):ai->M (List PV):=λenv=>(f env).bind λp=>match bX p with | some xs=>M.ok xs | none=>none
theorem jS{K:PySem.W.Frag}{p:PV}(s:bf Hs H)(r:Rep Hs p v)(e:bX p=some xs):∃ b a vs,v=.ref a/\(∀ Mi H',bf Hs Mi->bf Mi H'->j9 K H' b a vs)/\aL Hs xs vs:=by
 cases r with
 | tup h r=>cases e;exact⟨false,_,_,rfl,λMi H' s1 s2=>gx.of (s2 _ _ (s1 _ _ h)),r⟩
 | lst h r=>cases e;exact⟨true,_,_,rfl,λMi H' s1 s2=>eI.of (s2 _ _ (s1 _ _ h)),r⟩
 | jh h r=>cases e;exact⟨true,_,_,rfl,λMi H' s1 s2=>.inl (.inr ⟨_,s2 _ _ (s1 _ _ h)⟩),r⟩
 | _=>cases e
section
variable{E:XK}{pos p:Pos}{f f2:ai->M PV}{g:TG}{set:PV->ai->M ai}{body:ai->M Out}{bd:List Stmt}
end
def K_:PV->M (List PV)
 | .int n=>cC (-(2^62)<=n/\n<2^62) (M.ok ((List.range n.toNat).map λ(i:Nat)=>.int (0+(i:Int))))
 | _=>none
def Ki:PV->PV->M (List PV)
 | .int a,.int b=>cC (-(2^62)<=a/\a<2^62/\-(2^62)<=b/\b<2^62) (M.ok ((List.range (b-a).toNat).map λ(i:Nat)=>.int (a+(i:Int))))
 | _,_=>none
def og:List PV->M (List PV)
 | [p]=>K_ p
 | _=>none
def yE:List PV->M (List PV)
 | [p,q]=>Ki p q
 | _=>none
variable{Z:EX->Prop}
theorem xp{ps:List PV}{k:List PV->M α}{Q:α->Prop}(h:aw ((og ps).bind k) Q Z):∃ n:Int,ps=[.int n]/\-(2^62)<=n/\n<2^62/\aw (k ((List.range n.toNat).map λ(i:Nat)=>.int (0+(i:Int)))) Q Z:=by
 match ps with
 | []=>exact h.elim
 | _::_::_=>exact h.elim
 | [p] =>
  cases p with
  | int n =>
   obtain⟨hc,h⟩:=aw.cC (aw.bind h)
   exact⟨n,rfl,hc.1,hc.2,h⟩
  | _=>exact h.elim
theorem xY{ps:List PV}{k:List PV->M α}{Q:α->Prop}(h:aw ((yE ps).bind k) Q Z):∃ a b:Int,ps=[.int a,.int b]/\(-(2^62)<=a/\a<2^62/\-(2^62)<=b/\b<2^62)/\aw (k ((List.range (b-a).toNat).map λ(i:Nat)=>.int (a+(i:Int)))) Q Z:=by
 match ps with
 | []=>exact h.elim
 | [_]=>exact h.elim
 | _::_::_::_=>exact h.elim
 | [p,q] =>
  cases p with
  | int a=>cases q with
   | int b =>
    obtain⟨hc,h⟩:=aw.cC (aw.bind h)
    exact⟨a,b,rfl,hc,h⟩
   | _=>exact h.elim
  | _=>exact h.elim
def zip2:List PV->M (List PV)
 | [p,q]=>match bX p,bX q with
  | some xs,some ys=>M.ok (List.zipWith (λa b=>.tup [a,b]) xs ys)
  | _,_=>none
 | _=>none
theorem xN{ps:List PV}{k:List PV->M α}{Q:α->Prop}(h:aw ((zip2 ps).bind k) Q Z):∃ p q xs ys,ps=[p,q]/\bX p=some xs/\bX q=some ys/\aw (k (List.zipWith (λa b=>.tup [a,b]) xs ys)) Q Z:=by
 match ps with
 | []=>exact h.elim
 | [_]=>exact h.elim
 | _::_::_::_=>exact h.elim
 | [p,q] =>
  unfold zip2 at h
  dsimp only at h
  cases e1:bX p with
  | none=>rw[e1] at h;exact h.elim
  | some xs =>
   cases e2:bX q with
   | none=>rw[e1,e2] at h;exact h.elim
   | some ys=>rw[e1,e2] at h;exact⟨p,q,xs,ys,rfl,e1,e2,h⟩
theorem xu{f:Nat->PV}(h:i<n):((List.range n).map f)[i]?=some (f i):=by
 rw[List.getElem?_map,List.getElem?_range h];rfl
section
variable{E:XK}{a b l l1 l2:Expr}{pos p tp:Pos}{fs:ai->M (List PV)}{g:TG}{set:PV->ai->M ai}{body:ai->M Out}{bd:List Stmt}
end
def KO(Q:VK):Hp->Hp->List PV->Prop:=λHs H ps=>∀ vs p Mi H',bJ Hs H Mi H'->aL Mi ps vs->H' p=none->Q (.ref p) (upd H' p (.lst vs))
def tO(E:St->XK)(f:ai->M (List PV)):TE:=fun σ H Q=>tG E f (KO Q) σ H
section
variable{E:XK}{pos:Pos}{fs:ai->M (List PV)}{f:ai->M PV}
def nB(i:Nat)(f:ai->M (List PV)):ai->M Out:=λenv=>(f env).bind λps=>M.ok (.nx (env.set i (some (.ow ps))))
theorem Cz(hN:X.N.Nodup)(hi:X.N[i]?=some x)(hx:Loc X.env.scope x)(he:PE X e (tO (λ_=>E) fs))(hs:autoParam (swapsWith e (some (.Name x pos')) pos.line X.env=pure false) aR._auto_1)(hf:autoParam (X.fn x=true\/X.env.scope.names.lookup x=some .local) aF._auto_1) :
  PS X (.Assign [.Name x pos'] e pos) (tS E (nB i fs)):=by
 refine(gY hN hi hx he hs hf).imp λD σ H q=>?_
 obtain⟨B,H₀,Hs,env,sr,q⟩:=q
 refine⟨B,H₀,Hs,env,sr,(aw.bind q).imp (λps hp vs p Mi H' g r n=>?_) λe he=>he.grow sr.gr⟩
 exact hp _ Mi _ ((sr.grow g).own r n)
def gI(fs:ai->M (List PV)):ai->M (List PV):=λenv=>(fs env).bind λps=>if ps.length<=sizeLine then M.ok ps else none
theorem Gw{E:St->XK}(hr:PA X es (tL E fs)):PE X (.List es pos) (tO E (gI fs)):=by
 refine(sv hr).imp fun σ H Q q=>?_
 obtain⟨B,H₀,Hs,env,sr,q⟩:=q
 refine⟨B,H₀,Hs,env,sr,(aw.bind q).imp (λps hp vs Mi H' g r=>?_) λe he=>he⟩
 by_cases hz:ps.length<=sizeLine
 ·rw[if_pos hz] at hp
  exact⟨by rw[← r.length];exact hz,λp n=>hp vs p Mi H' g r n⟩
 ·rw[if_neg hz] at hp;exact hp.elim
def kO(i:Nat)(f:ai->M PV):ai->M Out:=λenv=>match env[i]? with
 | some (some (.ow xs))=>(f env).bind λp=>if xs.length<sizeLine then M.ok (.nx (env.set i (some (.ow (xs++[p]))))) else none
 | _=>none
theorem SR.put{B:Hp}{env:ai}{ys:List PV}{us:List V}(r:SR B H₀ Hs H σ env)(e:env[i]?=some (some (.ow xs)))(hi:σ[i]?=some (some (.ref a)))(h:aL Hs ys us):SR B H₀ Hs (upd H a (.lst us)) σ (env.set i (some (.ow ys))):=by
 obtain⟨a',vs,h1,h2,h3,h4,h5⟩:=r.ow i xs e
 rw[hi] at h1;cases h1
 have nS:∀ c u,Hs c=some u->c≠a:=λc u q z=>by rw[z,h3] at q;cases q
 have n0:∀ c u,H₀ c=some u->c≠a:=λc u q z=>by rw[z,h4] at q;cases q
 refine⟨⟨r.gr.st,λc u q=>by rw[ao (n0 c u q)];exact r.gr.al c u q,λc u q=>by rw[ao (nS c u q)];exact r.gr.sub c u q,r.gr.nw⟩,by rw[List.length_set];exact r.len,λj q ej=>?_,λj zs ej=>?_,λj k y1 y2 b nj e1 e2 e3 e4=>?_,λj ba C fs ej=>?_,λj k _ _ C D fs gs e1 e2=>?_⟩
 ·rw[List.getElem?_set] at ej
  by_cases z:i=j
  ·subst z
   rw[if_pos rfl] at ej
   split at ej <;> cases ej
  ·rw[if_neg z] at ej;exact r.sh j q ej
 ·rw[List.getElem?_set] at ej
  by_cases z:i=j
  ·subst z
   rw[if_pos rfl] at ej
   split at ej
   ·cases ej;exact⟨a,us,hi,az,h3,h4,h⟩
   ·cases ej
  ·rw[if_neg z] at ej
   obtain⟨b,ws,q1,q2,q3,q4,q5⟩:=r.ow j zs ej
   have nb:b≠a:=λw=>by subst w;exact r.sep i j xs zs b z e ej hi q1
   exact⟨b,ws,q1,by rw[ao nb];exact q2,q3,q4,q5⟩
 ·have o1:∃ w,env[j]?=some (some (.ow w)):=by
   rw[List.getElem?_set] at e1
   by_cases z:i=j
   ·subst z;exact⟨xs,e⟩
   ·rw[if_neg z] at e1;exact⟨_,e1⟩
  have o2:∃ w,env[k]?=some (some (.ow w)):=by
   rw[List.getElem?_set] at e2
   by_cases z:i=k
   ·subst z;exact⟨xs,e⟩
   ·rw[if_neg z] at e2;exact⟨_,e2⟩
  obtain⟨w1,o1⟩:=o1
  obtain⟨w2,o2⟩:=o2
  exact r.sep j k w1 w2 b nj o1 o2 e3 e4
 ·rw[List.getElem?_set] at ej
  by_cases z:i=j
  ·subst z
   rw[if_pos rfl] at ej
   split at ej <;> cases ej
  ·rw[if_neg z] at ej
   obtain⟨dx,ws,q1,q2,q3,q4,q5⟩:=r.bd j ba C fs ej
   have nb:ba≠a:=λw=>by subst w;rw[h2] at q2;cases q2
   exact⟨dx,ws,q1,by rw[ao nb];exact q2,q3,q4,q5⟩
 ·rw[List.getElem?_set] at e1 e2
  by_cases z:i=j
  ·subst z
   rw[if_pos rfl] at e1
   split at e1 <;> cases e1
  ·by_cases z2:i=k
   ·subst z2
    rw[if_pos rfl] at e2
    split at e2 <;> cases e2
   ·rw[if_neg z] at e1
    rw[if_neg z2] at e2
    exact r.one j k _ _ C D fs gs e1 e2
theorem xA{px:Pos}(hi:X.N[i]?=some x)(hv:CC X.env.scope x)(he:PE X e (tE (λ_=>E) f))(hd:autoParam ((x==("__debug__" : Str))=false) aD._auto_1)(Nc:autoParam ((x==("__classdict__" : Str))=false) aD._auto_1)
  (Oh:autoParam (attributeBase (.Name x px) "append" X.env (eval (.Name x px) X.env)=eval (.Name x px) X.env) aR._auto_1)
  (O3:autoParam (((backTo Mw (starEach [e] X.env)).all (λx=>!x.1)&&(backToKw Mw (keywordEach [] X.env)).all (λx=>x.1.isSome)
   && decide (([e]:List Expr).length+([]:List Keyword).length+(if ([]:List Keyword).isEmpty then 0 else 1)<30))=true) aR._auto_1)
  (Ou:autoParam ((apos.endLine==Mw.line)=true) aR._auto_1) (Mv:autoParam (starEach [e] X.env=(false,eval e X.env)::starEach [] X.env) aR._auto_1) (NT:autoParam ((backTo Mw (starEach [] X.env)).any (·.1)=false) aR._auto_1)
  (hs:autoParam (swapsWith (.Call (.Attribute (.Name x px) "append" apos) [e] [] Mw) none pos.line X.env=pure false) aR._auto_1) :
  PS X (.Expr (.Call (.Attribute (.Name x px) "append" apos) [e] [] Mw) pos) (tS E (kO i f)):=by
 refine(m9 (Ep PySem.F.plainAttrs_list PySem.F.slot_list_append PySem.F.type_list_append mj (bG hi hv hd Nc) (bj he dC Mv) Oh O3 Ou Mv NT) hs).imp λD σ H q=>?_
 obtain⟨B,H₀,Hs,env,sr,q⟩:=q
 unfold kO at q
 split at q
 ·rename_i xs ex
  obtain⟨a,vs,h1,h2,h3,h4,h5⟩:=sr.ow i xs ex
  refine⟨.ref a,h1,.inl ⟨rfl,vs,eI.of h2⟩,B,H₀,Hs,env,sr,(aw.bind q).imp (λp hp v Mi H' g r=>?_) λe he=>he.grow sr.gr⟩
  by_cases hz:xs.length<sizeLine
  ·rw[if_pos hz] at hp
   have NG:=sr.grow g
   have r5:aL Mi (xs++[p]) (vs++[v]):=(h5.mono g.st).snoc r
   exact⟨a,vs,v,rfl,rfl,g.al _ _ h2,by rw[← h5.length];exact hz,hp σ Mi _ (NG.put ex h1 r5)⟩
  ·rw[if_neg hz] at hp;exact hp.elim
 ·exact q.elim
end
def Gh:Out->M PV
 | .rt p=>M.ok p
 | .nx _=>M.ok .cL
 | _=>none
def jL(m:Nat)(ps:List PV):ai:=ps.map (λp=>some (.sh p))++List.replicate (m-ps.length) none
def aB(m:Nat)(g:ai->M Out)(ps:List PV):M PV:=(g (jL m ps)).bind Gh
theorem SR.start{Hs H:Hp}{N:List Str}{ps:List PV}{vs:List V}(s:bf Hs H)(r:aL Hs ps vs):SR Hs H Hs H (start N vs) (jL N.length ps) where
 gr:=.refl s
 len:=by unfold L2.start jL;simp[r.length]
 sh:=λi p e=>by
  unfold jL at e
  unfold L2.start
  by_cases hi:i<ps.length
  ·rw[List.getElem?_append_left (by simpa using hi),List.getElem?_map,List.getElem?_eq_getElem hi] at e
   cases e
   obtain⟨v,h1,h2⟩:=r.get (List.getElem?_eq_getElem hi)
   exact⟨v,by rw[List.getElem?_append_left (by simpa using (r.length▸hi)),List.getElem?_map,h1];rfl,h2⟩
  ·rw[List.getElem?_append_right (by simpa using hi),List.getElem?_replicate] at e
   split at e <;> cases e
 ow:=λi xs e=>by
  unfold jL at e
  by_cases hi:i<ps.length
  ·rw[List.getElem?_append_left (by simpa using hi),List.getElem?_map,List.getElem?_eq_getElem hi] at e
   cases e
  ·rw[List.getElem?_append_right (by simpa using hi),List.getElem?_replicate] at e
   split at e <;> cases e
 sep:=λi j xs ys a _ e=>by
  unfold jL at e
  by_cases hi:i<ps.length
  ·rw[List.getElem?_append_left (by simpa using hi),List.getElem?_map,List.getElem?_eq_getElem hi] at e
   cases e
  ·rw[List.getElem?_append_right (by simpa using hi),List.getElem?_replicate] at e
   split at e <;> cases e
 bd:=λi a C fs e=>by
  unfold jL at e
  by_cases hi:i<ps.length
  ·rw[List.getElem?_append_left (by simpa using hi),List.getElem?_map,List.getElem?_eq_getElem hi] at e
   cases e
  ·rw[List.getElem?_append_right (by simpa using hi),List.getElem?_replicate] at e
   split at e <;> cases e
 one:=λi j a b C D fs gs e=>by
  unfold jL at e
  by_cases hi:i<ps.length
  ·rw[List.getElem?_append_left (by simpa using hi),List.getElem?_map,List.getElem?_eq_getElem hi] at e
   cases e
  ·rw[List.getElem?_append_right (by simpa using hi),List.getElem?_replicate] at e
   split at e <;> cases e
theorem E3{K:PySem.W.Frag}{dV kV doc pm Mr ct oc:Value}{g:ai->M Out}(lk:K.lookup f=some ⟨oc,od,.func (PySem.W.fnOf name qual params body scope dV kV doc pm an Mr ct),Od⟩)(Nc:PySem.W.codeIn K Mr qual=true)(S:b_ N ps scope)
  (hb:∀ (A:Around) (outer:List Env) (s:Shared) (H:Hp) (E:XK),bP k (A.deeper (envOfC qual scope s.heap.objs.size f Mr))->kc ((kb (bY P w) P w K mg base N qual scope f Mr A outer s H E).out λ_=>E) body (tS E g)) :
  aW P w K mg base (bY P w) (k+1) f (PySem.W.fnOf name qual params body scope dV kV doc pm an Mr ct) ps (dJ ps.length (aB N.length g)):=by
 refine rT lk Nc S (λvs H Q E h=>h.1) λA outer s H vs Q E hr hs=>⟨_,hb A outer s H E hr,?_⟩
 obtain⟨_,Hs,Nn,sm,r,h⟩:=hs
 refine⟨Hs,H,Hs,_,SR.start sm r,(aw.bind h).imp (λo ho=>?_) λe he=>he⟩
 cases o with
 | rt p=>exact λv Mi H' gr rv=>ho v Mi H' gr rv
 | nx env=>exact fun σ Mi H' sr=>ho .cL Mi H' sr.gr .cL
 | bk env=>exact ho.elim
 | ct env=>exact ho.elim
section
variable{E:XK}{pos p:Pos}{fs:ai->M (List PV)}
def jw(C:Addr)(fs:ai->M (List PV)):ai->M Out:=λenv=>(fs env).bind λps=>cC (ps.length<=sizeLine) (some (.error (C,none)))
theorem xK(O:dz X λ_=>E)(Mn:X.calm=true)(hc:PySem.W.excIn X.K C eQ "ValueError.__new__" = true)(c:fq X.K C)(ht:PySem.W.typeIn X.K (.ref C)=some (.type "type"))(kp:PySem.W.keepIn X.K (.ref C)=true)(hg:Gl X x)(hm:X.mg x=some (.ref C))(ha:PA X (e::es) (tL (λ_=>E) fs))
  (MP:autoParam ((x==("__debug__" : Str))=false) aD._auto_1) (he:autoParam (starEach (e::es) X.env=(false,eval e X.env)::starEach es X.env) aR._auto_1) (Mt:autoParam ((backTo Mw (starEach es X.env)).any (·.1)=false) aR._auto_1) :
  PS X (.Raise (some (.Call (.Name x p) (e::es) [] Mw)) none pos) (tS E (jw C fs)):=by
 refine(sH O Mn (CK hc kp hg hm ha MP he Mt)).imp λD σ H q=>tw q λB H₀ Hs H1 env Nn v sr rp hp=>?_
 obtain⟨hz,hp⟩:=aw.cC hp
 refine⟨by rw[← rp.length];exact hz,λa n=>⟨a,C,none,rfl,az,c,ht,?_⟩⟩
 rw[nu]
 exact hp a (upd Hs a (gC C none a)) _ (sr.gr.trans (bJ.new sr.gr.sub n)) (.vJ az)
def xU(K:PySem.W.Frag)(C:Addr)(fl:Str):Sp:=λvs H Q _=>∃ a y,vs=[.ref a,y]/\H a=some (j_ C none a)/\∀ d,H d=none->d≠a->Q .cL (upd (upd H d (.xd [(fl,y)])) a (j_ C (some d) a))
def ju(C:Addr)(fl:Str)(fs:ai->M (List PV)):ai->M Out:=λenv=>(fs env).bind λps=>match ps with
 | [p]=>some (.error (C,some [(fl,p)]))
 | _=>none
theorem yw{fl:Str}(O:dz X λ_=>E)(Mn:X.calm=true)(hc:om X.K C "ValueError.__new__" f=true)(hf:PySem.W.isFn X.K (.ref f)=true)(c:fq X.K C)(ht:PySem.W.typeIn X.K (.ref C)=some (.type "type"))(kp:PySem.W.keepIn X.K (.ref C)=true)(F:aW X.prog X.w X.K X.mg X.base (bY X.prog X.w) k f fd ps (xU X.K C fl))(hr:bP (k+1) X.A)(hb:Binds X.K fd ps [])
  (hg:Gl X x) (hm:X.mg x=some (.ref C)) (ha:PA X [e] (tL (λ_=>E) fs))
  (MP:autoParam ((x==("__debug__" : Str))=false) aD._auto_1) (he:autoParam (starEach [e] X.env=(false,eval e X.env)::starEach [] X.env) aR._auto_1) (Mt:autoParam ((backTo Mw (starEach [] X.env)).any (·.1)=false) aR._auto_1) :
  PS X (.Raise (some (.Call (.Name x p) [e] [] Mw)) none pos) (tS E (ju C fl fs)):=by
 refine(sH O Mn (BI hc hf kp F hr hb hg hm ha MP he Mt)).imp λD σ H q=>tw q λB H₀ Hs H1 env Nn v sr rp hp=>?_
 match Nn,rp,hp with
 | [],_,hp=>exact hp.elim
 | _::_::_,_,hp=>exact hp.elim
 | [y],rp,hp =>
  obtain⟨v,rfl,ry⟩:=rp.one
  refine⟨by show 1<=sizeLine;decide,λa n=>⟨a,v,rfl,az,λd hd hda=>⟨rfl,a,C,some d,rfl,az,c,ht,?_⟩⟩⟩
  rw[nu]
  have hd1:H1 d=none:=by rw[ao hda] at hd;exact hd
  have g1:=bJ.new (o:=.xd [(fl,v)]) sr.gr.sub hd1
  have OM:upd H1 d (.xd [(fl,v)]) a=none:=by rw[ao (Ne.symm hda)];exact n
  have g2:=bJ.new (o:=gC C (some d) a) g1.sub OM
  have hH:upd (upd (upd H1 a (j_ C none a)) d (.xd [(fl,v)])) a (gC C (some d) a)=upd (upd H1 d (.xd [(fl,v)])) a (gC C (some d) a):=by
   funext b
   by_cases z:b=a
   ·subst z;rw[az,az]
   ·rw[ao z,ao z]
    by_cases z2:b=d
    ·subst z2;rw[az,az]
    ·rw[ao z2,ao z2,ao z]
  rw[hH]
  refine hp a (upd (upd Hs d (.xd [(fl,v)])) a (gC C (some d) a)) _ ((sr.gr.trans g1).trans g2) ?_
  exact .vK az (by rw[ao hda];exact az) (.cons ((ry.mono g1.st).mono g2.st) .nil)
theorem oq{K:PySem.W.Frag}{dV kV doc pm Mr ct oc:Value}{n0 n1 fl:Str}{p0 p1 p2 p3:Pos}(lk:K.lookup f=some ⟨oc,od,.func (PySem.W.fnOf name qual params [.Assign [.Attribute (.Name n0 p0) fl p1] (.Name n1 p2) p3] scope dV kV doc pm an Mr ct),Od⟩)(Nc:PySem.W.codeIn K Mr qual=true)(S:b_ [n0,n1] [n0,n1] scope)
  (c:fq K C) (ho:((PySem.W.clsIn K C).any λcd=>fS cd.mro)=true) (na:bU K C fl) (v0:CC scope n0) (v1:CC scope n1) (d0:(n0==("__debug__" : Str))=false) (d1:(n1==("__debug__" : Str))=false) (c0:(n0==("__classdict__" : Str))=false) (c1:(n1==("__classdict__" : Str))=false)
  (hs:∀ env,swapsWith (.Name n1 p2) (some (.Attribute (.Name n0 p0) fl p1)) p3.line env=pure false) :
  aW P w K mg base (bY P w) 1 f (PySem.W.fnOf name qual params [.Assign [.Attribute (.Name n0 p0) fl p1] (.Name n1 p2) p3] scope dV kV doc pm an Mr ct) [n0,n1] (xU K C fl):=by
 refine rT (k:=0) lk Nc S (λvs H Q E h=>by obtain⟨a,y,rfl,_⟩:=h;rfl) λA outer s H vs Q E hr h=>?_
 obtain⟨a,y,rfl,ha,hq⟩:=h
 refine⟨_,Cv (Bx (bG (i:=0) rfl v0 d0 c0) (bG (i:=1) rfl v1 d1 c1) (hs _)),?_⟩
 exact⟨y,rfl,.ref a,rfl,a,C,rfl,ha,c,ho,na,hq⟩
end
structure jE (J:It) (Mp:Hp) (xs:List PV):Prop where
 stop:∀ (i:Nat) (Hs H:Hp),bf Mp Hs->bf Hs H->xs.length<=i->J.stop i H
 go:∀ (i:Nat) (Hs H:Hp),bf Mp Hs->bf Hs H->i<xs.length->J.go i H
 uu:∀ (i:Nat) (Hs H:Hp) (x:V) (H2:Hp),bf Mp Hs->bf Hs H->i<xs.length->J.uu i H x H2->∃ p Mq,xs[i]?=some p/\bJ Hs H Mq H2/\Rep Mq p x
def KI(R:It->Hp->Prop):Hp->Hp->List PV->Prop:=λHs H xs=>∀ J Mi H',bJ Hs H Mi H'->jE J Mi xs->R J H'
def w9(E:St->XK)(wi:TI)(it:ai->M (List PV)):Prop:=∀ (σ:St) (H:Hp) (R:It->Hp->Prop),tG E it (KI R) σ H->wi σ H R
theorem KI.g{R:It->Hp->Prop}:KG (KI R):=λHs H Mi H' b k g J Mq H2 g2 o=>k J Mq H2 (g.trans g2) o
section
variable{K:PySem.W.Frag}{f:ai->M PV}{fs:ai->M (List PV)}
theorem Aj(hq:∀ Mi H',bf Mp Mi->bf Mi H'->j9 K H' b a vs)(hr:aL Mp xs vs):jE (Ky K b a) Mp xs where
 stop:=λi Hs H s1 s2 hi=>by
  have q:=hq Hs H s1 s2
  cases b with
  | true=>exact⟨vs,q,by rw[← hr.length];exact hi⟩
  | false=>exact⟨vs,q,by rw[← hr.length];exact hi⟩
 go:=λi Hs H s1 s2 hi=>by
  have q:=hq Hs H s1 s2
  obtain⟨v,e,_⟩:=hr.get (List.getElem?_eq_getElem hi)
  cases b with
  | true=>exact⟨vs,v,q,e⟩
  | false=>exact⟨vs,v,q,e⟩
 uu:=λi Hs H x H2 s1 s2 hi y=>by
  have q:=hq Hs H s1 s2
  obtain⟨v,e,r⟩:=hr.get (List.getElem?_eq_getElem hi)
  have z:H2=H/\vs[i]?=some x:=by
   cases b with
   | true=>exact⟨y.1,y.2 vs q⟩
   | false=>exact⟨y.1,y.2 vs q⟩
  obtain⟨rfl,z⟩:=z
  rw[e] at z;cases z
  exact⟨xs[i],Hs,List.getElem?_eq_getElem hi,.refl s2,r.mono s1⟩
theorem dP:w9 E (H_ K (tE E f)) (itemsOf f):=by
 intro σ H R q
 refine bR (K:=KI R) KI.g q λB H₀ Hs H1 env p v sr rp hp=>?_
 cases e:bX p with
 | none=>rw[e] at hp;exact hp.elim
 | some xs =>
  rw[e] at hp
  obtain⟨b,a,vs,rfl,hq,hr⟩:=jS (K:=K) sr.gr.sub rp e
  exact⟨b,a,rfl,⟨vs,hq Hs H1 (λ_ _ z=>z) sr.gr.sub⟩,hp (Ky K b a) Hs H1 (.refl sr.gr.sub) (Aj hq hr)⟩
def kP(o:List PV->M (List PV))(fs:ai->M (List PV)):ai->M (List PV):=λenv=>(fs env).bind o
theorem uc{lo:Int}:jE (HG lo n) Mp ((List.range n).map λ(i:Nat)=>PV.int (lo+(i:Int))) where
 stop:=λi Hs H s1 s2 hi=>show n<=i by simpa using hi
 go:=λi Hs H s1 s2 hi=>show i<n by simpa using hi
 uu:=λi Hs H x H2 s1 s2 hi y=>by
  obtain⟨rfl,rfl⟩:=y
  exact⟨_,Hs,xu (by simpa using hi),.refl s2,.int _⟩
theorem aS(x:M α):x.bind M.ok=x:=by
 cases x with
 | none=>rfl
 | some x=>cases x <;> rfl
theorem gi:w9 E (AF (tL E fs)) (kP og fs):=by
 intro σ H R q
 refine cM (K:=KI R) KI.g q λB H₀ Hs H1 env ps v sr rp hp=>?_
 rw[← aS (og ps)] at hp
 obtain⟨n,rfl,h1,h2,hp⟩:=xp hp
 obtain⟨w,rfl,NC⟩:=rp.one
 cases NC
 exact⟨n,rfl,h1,h2,hp _ Hs H1 (.refl sr.gr.sub) uc⟩
theorem AO:w9 E (EB (tL E fs)) (kP yE fs):=by
 intro σ H R q
 refine cM (K:=KI R) KI.g q λB H₀ Hs H1 env ps v sr rp hp=>?_
 rw[← aS (yE ps)] at hp
 obtain⟨n,m,rfl,h1,hp⟩:=xY hp
 obtain⟨w,u,rfl,NC,ru⟩:=rp.two
 cases NC
 cases ru
 exact⟨n,m,rfl,h1,hp _ Hs H1 (.refl sr.gr.sub) uc⟩
theorem ze{ys:List PV}(h1:i<xs.length)(h2:i<ys.length):(List.zipWith (λa b=>PV.tup [a,b]) xs ys)[i]?=some (.tup [xs[i],ys[i]]):=by
 rw[List.getElem?_zipWith,List.getElem?_eq_getElem h1,List.getElem?_eq_getElem h2]
theorem Bp{b1 b2:Bool}{a1 a2:Addr}{ys:List PV}{us:List V}(MM:∀ Mi H',bf Mp Mi->bf Mi H'->j9 K H' b1 a1 vs)(Ow:aL Mp xs vs)(MG:∀ Mi H',bf Mp Mi->bf Mi H'->j9 K H' b2 a2 us)(Ox:aL Mp ys us) :
  jE (KA K b1 b2 a1 a2) Mp (List.zipWith (λa b=>PV.tup [a,b]) xs ys) where
 stop:=λi Hs H s1 s2 hi=>by
  rw[List.length_zipWith,Ow.length,Ox.length] at hi
  exact⟨vs,us,MM Hs H s1 s2,MG Hs H s1 s2,by omega⟩
 go:=λi Hs H s1 s2 hi=>by
  rw[List.length_zipWith] at hi
  obtain⟨v,e,_⟩:=Ow.get (List.getElem?_eq_getElem (show i<xs.length by omega))
  obtain⟨u,e',_⟩:=Ox.get (List.getElem?_eq_getElem (show i<ys.length by omega))
  exact⟨vs,us,v,u,MM Hs H s1 s2,MG Hs H s1 s2,e,e'⟩
 uu:=λi Hs H x H2 s1 s2 hi y=>by
  rw[List.length_zipWith] at hi
  have l1:i<xs.length:=by omega
  have l2:i<ys.length:=by omega
  obtain⟨v,e,r⟩:=Ow.get (List.getElem?_eq_getElem l1)
  obtain⟨u,e',r'⟩:=Ox.get (List.getElem?_eq_getElem l2)
  obtain⟨pa,v',u',hn,rfl,rfl,y1,y2⟩:=y
  have z1:=y1 vs (MM Hs H s1 s2)
  have z2:=y2 us (MG Hs H s1 s2)
  rw[e] at z1;cases z1
  rw[e'] at z2;cases z2
  have gr:=bJ.new (o:=.tup [v,u]) s2 hn
  exact⟨_,_,ze l1 l2,gr,.tup az (.cons ((r.mono s1).mono gr.st) (.cons ((r'.mono s1).mono gr.st) .nil))⟩
theorem gP:w9 E (Jr K (tL E fs)) (kP zip2 fs):=by
 intro σ H R q
 refine cM (K:=KI R) KI.g q λB H₀ Hs H1 env ps v sr rp hp=>?_
 rw[← aS (zip2 ps)] at hp
 obtain⟨p,q,xs,ys,rfl,e1,e2,hp⟩:=xN hp
 obtain⟨w,u,rfl,NC,ru⟩:=rp.two
 obtain⟨b1,a1,vs,rfl,MM,Ow⟩:=jS (K:=K) sr.gr.sub NC e1
 obtain⟨b2,a2,us,rfl,MG,Ox⟩:=jS (K:=K) sr.gr.sub ru e2
 exact⟨b1,b2,a1,a2,rfl,⟨vs,MM Hs H1 (λ_ _ z=>z) sr.gr.sub⟩,⟨us,MG Hs H1 (λ_ _ z=>z) sr.gr.sub⟩,hp _ Hs H1 (.refl sr.gr.sub) (Bp MM Ow MG Ox)⟩
end
theorem cn{E:XK}{pos:Pos}{g:TG}{set:PV->ai->M ai}{body:ai->M Out}{bd:List Stmt}{wi:TI}{it:ai->M (List PV)}(O:dz X λ_=>E)(hc:X.calm=true)(hi:PI X tg iter wi)(hv:w9 (λ_=>E) wi it)(hg:PG X tg g)(OG:BW E g set)(hb:kc X bd (tS E body))(hs:autoParam (∀ x,foldedSetIterable iter X.env x=pure x) aI._auto_1) :
  PS X (.For tg iter bd [] pos) (tS E (iP it set body)):=by
 refine(rM O.own hc hi hg hb hs).imp λD σ H q=>hv σ H _ ?_
 obtain⟨B,H₀,Hs,env,sr,q⟩:=q
 refine⟨B,H₀,Hs,env,sr,(aw.bind q).imp (λxs hp J Mi H' gr ok=>?_) λe he=>he.grow sr.gr⟩
 have NG:=sr.grow gr
 refine⟨λi m σ H=>m=xs.length-i/\i<=xs.length/\Jv E set body D B H₀ Mi xs i σ H,⟨xs.length,by simp,Nat.zero_le _,Mi,env,NG,λ_ _ z=>z,hp⟩,?_⟩
 rintro i m σ' H2 ⟨rfl,hi,Mq,env2,MN,s2,h2⟩
 by_cases Nd:i<xs.length
 ·refine .inr ⟨ok.go i Mq H2 s2 MN.gr.sub Nd,Jv E set body D B H₀ Mi xs (i+1),fun σ3 H3 j=>⟨xs.length-(i+1),by omega,rfl,Nd,j⟩,λx H3 y=>?_⟩
  obtain⟨p,ND,ep,g3,r3⟩:=ok.uu i Mq H2 x H3 s2 MN.gr.sub Nd y
  exact Jv.turn (Hx:=H2) (H1:=H2) OG ep MN s2 h2 g3 r3
 ·have e:i=xs.length:=by omega
  refine .inl ⟨ok.stop i Mq H2 s2 MN.gr.sub (by omega),?_⟩
  exact Jv.done (E:=E) (set:=set) (body:=body) (xs:=xs) (B:=B) (H₀:=H₀) (Mp:=Mi) (n:=i) ⟨Mq,env2,MN,s2,h2⟩ (by omega)
abbrev EF:St->XK:=λ_ _ _ _=>False
def mG(env:ai):Prop:=∀ (i:Nat) (x:SV),env[i]?=some (some x)->∃ p,x=.sh p
theorem mG.ow{env:ai}(n:mG env){i:Nat}{xs:List PV}(e:env[i]?=some (some (.ow xs))):False:=by obtain⟨p,z⟩:=n i _ e;cases z
theorem mG.bd{env:ai}(n:mG env){i:Nat}{a C:Addr}{fs:List (Str×PV)}(e:env[i]?=some (some (.bd a C fs))):False:=by obtain⟨p,z⟩:=n i _ e;cases z
def zH:M α->M α
 | some (.ok a)=>some (.ok a)
 | _=>none
theorem aw.zH{α:Type}{x:M α}{Q:α->Prop}{E:EX->Prop}(h:aw (L2.zH x) Q E):aw x Q (λ_=>False):=by
 cases x with
 | none=>exact h
 | some x=>cases x with
  | ok a=>exact h
  | error e=>exact h
def kF(n:Nat)(js:List Nat)(env:ai):ai:=List.replicate n none++js.map λj=>match env[j]? with
 | some (some (.sh p))=>some (.sh p)
 | _=>none
theorem qx{env:ai}{x:SV}(h:(kF n js env)[i]?=some (some x)):∃ j p,n<=i/\js[i-n]?=some j/\env[j]?=some (some (.sh p))/\x=.sh p:=by
 unfold kF at h
 by_cases hi:i<n
 ·rw[List.getElem?_append_left (by simpa using hi),List.getElem?_replicate] at h
  split at h <;> cases h
 ·rw[List.getElem?_append_right (by simpa using hi),List.getElem?_map,List.length_replicate] at h
  cases hj:js[i-n]? with
  | none=>rw[hj] at h;cases h
  | some j =>
   rw[hj] at h
   have h':(match env[j]? with | some (some (.sh p))=>some (SV.sh p) | _=>none)=some x:=Option.some.inj h
   split at h'
   ·rename_i p e
    cases h'
    exact⟨j,p,by omega,rfl,e,rfl⟩
   ·cases h'
theorem eK{env:ai}:mG (kF n js env):=λi xs e=>by
 obtain⟨_,p,_,_,_,z⟩:=qx e
 exact⟨p,z⟩
variable{D:Addr}
theorem SR.block{B:Hp}{env:ai}(r:SR B H₀ Hs H σ env)(hD:H D=none):SR Hs H Hs (upd H D (.lst [])) (eZ ts js σ) (kF ts.length js env) where
 gr:=by
  have ne:∀ c u,H c=some u->c≠D:=λc u q z=>by rw[z,hD] at q;cases q
  exact⟨λ_ _ e=>e,λc u e=>by rw[ao (ne c u e)];exact e,λc u e=>by rw[ao (ne c u (r.gr.sub c u e))];exact r.gr.sub c u e,λ_ _ e _=>e⟩
 len:=by unfold eZ kF;simp
 sh:=λi p e=>by
  obtain⟨j,q,hn,hj,he,z⟩:=qx e
  cases z
  obtain⟨v,h1,h2⟩:=r.sh j p he
  refine⟨v,?_,h2⟩
  unfold eZ
  rw[List.getElem?_append_right (by simpa using hn),List.getElem?_map,List.length_map,hj]
  show some (σ[j]?).join=_
  rw[h1];rfl
 ow:=λi xs e=>(eK.ow e).elim
 sep:=λi j xs ys a _ e=>(eK.ow e).elim
 bd:=λi a C fs e=>(eK.bd e).elim
 one:=λi j a b C D fs gs e=>(eK.bd e).elim
theorem SR.GD{B:Hp}{env:ai}{o:HO}(r:SR B H₀ Hs H σ env)(n:mG env)(h1:Hs D=none)(h2:H₀ D=none):SR B H₀ Hs (upd H D o) σ env where
 gr:=⟨r.gr.st,λc u q=>by rw[ao (λz=>by rw[z,h2] at q;cases q)];exact r.gr.al c u q,λc u q=>by rw[ao (λz=>by rw[z,h1] at q;cases q)];exact r.gr.sub c u q,r.gr.nw⟩
 len:=r.len
 sh:=r.sh
 ow:=λi xs e=>(n.ow e).elim
 sep:=λi j xs ys a _ e=>(n.ow e).elim
 bd:=λi a C fs e=>(n.bd e).elim
 one:=λi j a b C D fs gs e=>(n.bd e).elim
def cj(set:PV->ai->M ai)(t:Option (ai->M Bool))(f:ai->M PV):List PV->ai->M (List PV)
 | [],_=>M.ok []
 | x::xs,env=>(set x env).bind λe=>match t with
  | none=>(f e).bind λy=>(cj set t f xs e).bind λys=>M.ok (y::ys)
  | some t'=>(t' e).bind λb=>if b=true then (f e).bind λy=>(cj set t f xs e).bind λys=>M.ok (y::ys) else cj set t f xs e
def cY(it:ai->M (List PV))(set:PV->ai->M ai)(t:Option (ai->M Bool))(f:ai->M PV)(n:Nat)(js:List Nat):ai->M (List PV):=λenv=>(it env).bind λxs=>cC (xs.length<=sizeLine) (zH (cj set t f xs (kF n js env)))
def mz(set:PV->ai->M ai):Prop:=∀ p env e,set p env=some (.ok e)->mG env->mG e
theorem j6{env:ai}{p:PV}(n:mG env):mG (env.set i (some (.sh p))):=λj xs e=>by
 rw[List.getElem?_set] at e
 by_cases z:i=j
 ·rw[if_pos z] at e
  split at e
  ·cases e;exact⟨p,rfl⟩
  ·cases e
 ·rw[if_neg z] at e;exact n j xs e
theorem cG:mz (cB i):=λp env e h n=>by
 cases h
 exact j6 n
theorem dy:mz (cA i j):=λp env e h n=>by
 unfold cA at h
 split at h
 ·cases h;exact j6 (j6 n)
 ·cases h
section
variable{set:PV->ai->M ai}{t:Option (ai->M Bool)}{f:ai->M PV}{Q:VK}{H1:Hp}
def Jc(set:PV->ai->M ai)(t:Option (ai->M Bool))(f:ai->M PV)(Q:VK)(Mp H1:Hp)(D:Addr)(xs:List PV)(i:Nat)(σ:St)(H:Hp):Prop:=∃ Hs env ys vs,SR Mp H1 Hs H σ env/\mG env/\H D=some (.lst vs)/\Hs D=none/\aL Hs ys vs/\ys.length<=i ∧
 aw (cj set t f (xs.drop i) env) (λzs=>KO Q Mp H1 (ys++zs)) (λ_=>False)
def rem(H:Hp)(D:Addr):Hp:=λa=>if a=D then none else H a
theorem Ao:rem H D D=none:=by unfold rem;rw[if_pos rfl]
theorem vS(n:a≠D):rem H D a=H a:=by unfold rem;rw[if_neg n]
theorem CY{o:HO}(h:H D=some o):upd (rem H D) D o=H:=by
 funext a
 by_cases z:a=D
 ·subst z;rw[az,h]
 ·rw[ao z,vS z]
theorem Jc.done(hD:H1 D=none)(j:Jc set t f Q Mp H1 D xs i σ H)(hi:xs.length<=i):Q (.ref D) H:=by
 obtain⟨Hs,env,ys,vs,sr,n,h1,h2,r,_,h⟩:=j
 rw[List.drop_eq_nil_of_le hi] at h
 have h':KO Q Mp H1 (ys++[]):=h
 rw[List.append_nil] at h'
 have gr:bJ Mp H1 Hs (rem H D):=by
  refine⟨sr.gr.st,λc u q=>?_,λc u q=>?_,sr.gr.nw⟩
  ·rw[vS (λz=>by rw[z,hD] at q;cases q)];exact sr.gr.al c u q
  ·rw[vS (λz=>by rw[z,h2] at q;cases q)];exact sr.gr.sub c u q
 have:=h' vs D Hs (rem H D) gr r Ao
 rw[CY h1] at this
 exact this
theorem Jc.put{env:ai}{ys:List PV}{y:PV}(hD:H1 D=none)(sr:SR Mp H1 Hs H σ env)(n:mG env)(h1:H D=some (.lst vs))(h2:Hs D=none)(r:aL Hs ys vs)(hy:ys.length<=i)(hi:i<sizeLine)(rv:Rep Hs y v)
  (h:aw ((cj set t f (xs.drop (i+1)) env).bind λzs=>M.ok (y::zs)) (λzs=>KO Q Mp H1 (ys++zs)) (λ_=>False)) :
  ∃ us,H D=some (.lst us)/\us.length<sizeLine/\Jc set t f Q Mp H1 D xs (i+1) σ (upd H D (.lst (us++[v]))):=by
 refine⟨vs,h1,by rw[← r.length];omega,Hs,env,ys++[y],vs++[v],sr.GD n h2 hD,n,az,h2,r.snoc rv,by rw[List.length_append];show ys.length+1<=i+1;omega,(aw.bind h).imp (λzs hz=>?_) λ_ z=>z⟩
 have Oc:KO Q Mp H1 (ys++(y::zs)):=hz
 rw[List.append_assoc]
 exact Oc
end
section
variable{cl:List (Str×Addr)}{pos:Pos}{wi:TI}{it:ai->M (List PV)}{g:TG}{set:PV->ai->M ai}{f:ai->M PV}{u:ai->M Bool}{fs:List Str}
theorem wA{s₀:Shared}{ex:List Addr}:dz (pf X scope cl N C s₀ H₀ ex Me) EF where
 pass:=λ_ _ _ _ _ _ _ h=>by
  obtain⟨_,_,_,_,_,_,_,_,_,_,_,_,_,z⟩:=h
  exact z.elim
 new:=λ_ _ _ _ _ _ _ _ _ z=>z.elim
 own:=PassesOwn.never
theorem tH{Q:VK}(hv:w9 E wi it)(OG:∀ E,BW E g set)(so:mz set)(q:tO E (cY it set none f ts.length js) σ H Q):u7 wi g (tE EF f) ts js σ H Q:=by
 refine hv σ H _ ?_
 obtain⟨B,H₀,Hs,env,sr,q⟩:=q
 refine⟨B,H₀,Hs,env,sr,(aw.bind q).imp (λxs hp J Mp H1 gr ok D hD=>?_) λe he=>he⟩
 obtain⟨hz,hp⟩:=aw.cC hp
 have hp:=aw.zH hp
 have Pe:=sr.grow gr
 refine⟨λi m σ H=>m=xs.length-i/\i<=xs.length/\Jc set none f Q Mp H1 D xs i σ H,⟨xs.length,by simp,Nat.zero_le _,Mp,_,[],[],Pe.block hD,eK,az,?_,.nil,Nat.le_refl _,hp.imp (λzs hz vs p Mq H2 g2 r n=>hz vs p Mq H2 (gr.trans g2) r n) λ_ z=>z⟩,?_⟩
 ·cases z:Mp D with
  | none=>rfl
  | some o=>have:=gr.sub _ _ z;rw[hD] at this;cases this
 rintro i m σ' H2 ⟨rfl,hi,Mq,env2,ys,vs,MN,n2,d1,d2,r2,l2,h2⟩
 by_cases Nd:i<xs.length
 ·refine .inr ⟨ok.go i Mq H2 MN.gr.st MN.gr.sub Nd,Jc set none f Q Mp H1 D xs (i+1),fun σ3 H3 j=>⟨xs.length-(i+1),by omega,rfl,Nd,j⟩,λx H3 y=>?_⟩
  obtain⟨p,ND,ep,g3,r3⟩:=ok.uu i Mq H2 x H3 MN.gr.st MN.gr.sub Nd y
  have hd:xs.drop i=p::xs.drop (i+1):=by
   rw[List.drop_eq_getElem_cons Nd]
   rw[List.getElem?_eq_getElem Nd] at ep
   rw[Option.some.inj ep]
  rw[hd] at h2
  have h3:=aw.bind h2
  have NY:=MN.grow g3
  refine OG (λ_ _ _=>False) Mp H1 ND H3 σ' env2 p x _ (λ_=>False) NY r3 ?_
  cases hset:set p env2 with
  | none=>rw[hset] at h3;exact h3
  | some z=>cases z with
   | error e=>rw[hset] at h3;exact h3
   | ok e3 =>
    rw[hset] at h3
    intro σ4 sr4
    have n4:=so p env2 e3 hset n2
    refine⟨Mp,H1,ND,e3,sr4,(aw.bind h3).imp (λy hy v Po H5 g5 r5=>?_) λ_ z=>z.elim⟩
    exact Jc.put (set:=set) (t:=none) (f:=f) hD (sr4.grow g5) n4 (g5.al _ _ (g3.al _ _ d1)) (g5.nw _ _ (g3.nw _ _ d2 d1) (g3.al _ _ d1)) ((r2.mono g3.st).mono g5.st) l2 (by omega) r5 hy
 ·refine .inl ⟨ok.stop i Mq H2 MN.gr.st MN.gr.sub (by omega),?_⟩
  exact Jc.done (set:=set) (t:=none) (f:=f) (xs:=xs) (Mp:=Mp) (H1:=H1) (i:=i) hD ⟨Mq,env2,ys,vs,MN,n2,d1,d2,r2,l2,h2⟩ (by omega)
theorem AL{Q:VK}(hv:w9 E wi it)(OG:∀ E,BW E g set)(so:mz set)(q:tO E (cY it set (some u) f ts.length js) σ H Q):zy wi g (tT EF u) (tE EF f) ts js σ H Q:=by
 refine hv σ H _ ?_
 obtain⟨B,H₀,Hs,env,sr,q⟩:=q
 refine⟨B,H₀,Hs,env,sr,(aw.bind q).imp (λxs hp J Mp H1 gr ok D hD=>?_) λe he=>he⟩
 obtain⟨hz,hp⟩:=aw.cC hp
 have hp:=aw.zH hp
 have Pe:=sr.grow gr
 refine⟨λi m σ H=>m=xs.length-i/\i<=xs.length/\Jc set (some u) f Q Mp H1 D xs i σ H,⟨xs.length,by simp,Nat.zero_le _,Mp,_,[],[],Pe.block hD,eK,az,?_,.nil,Nat.le_refl _,hp.imp (λzs hz vs p Mq H2 g2 r n=>hz vs p Mq H2 (gr.trans g2) r n) λ_ z=>z⟩,?_⟩
 ·cases z:Mp D with
  | none=>rfl
  | some o=>have:=gr.sub _ _ z;rw[hD] at this;cases this
 rintro i m σ' H2 ⟨rfl,hi,Mq,env2,ys,vs,MN,n2,d1,d2,r2,l2,h2⟩
 by_cases Nd:i<xs.length
 ·refine .inr ⟨ok.go i Mq H2 MN.gr.st MN.gr.sub Nd,Jc set (some u) f Q Mp H1 D xs (i+1),fun σ3 H3 j=>⟨xs.length-(i+1),by omega,rfl,Nd,j⟩,λx H3 y=>?_⟩
  obtain⟨p,ND,ep,g3,r3⟩:=ok.uu i Mq H2 x H3 MN.gr.st MN.gr.sub Nd y
  have hd:xs.drop i=p::xs.drop (i+1):=by
   rw[List.drop_eq_getElem_cons Nd]
   rw[List.getElem?_eq_getElem Nd] at ep
   rw[Option.some.inj ep]
  rw[hd] at h2
  have h3:=aw.bind h2
  have NY:=MN.grow g3
  refine OG (λ_ _ _=>False) Mp H1 ND H3 σ' env2 p x _ (λ_=>False) NY r3 ?_
  cases hset:set p env2 with
  | none=>rw[hset] at h3;exact h3
  | some z=>cases z with
   | error e=>rw[hset] at h3;exact h3
   | ok e3 =>
    rw[hset] at h3
    intro σ4 sr4
    have n4:=so p env2 e3 hset n2
    refine⟨Mp,H1,ND,e3,sr4,(aw.bind h3).imp (λb hb Po H5 g5=>?_) λ_ z=>z.elim⟩
    have d5:=g5.al _ _ (g3.al _ _ d1)
    have e5:=g5.nw _ _ (g3.nw _ _ d2 d1) (g3.al _ _ d1)
    cases b with
    | true =>
     refine⟨Mp,H1,Po,e3,sr4.grow g5,(aw.bind hb).imp (λy hy v Hs6 H6 g6 r6=>?_) λ_ z=>z.elim⟩
     exact Jc.put (set:=set) (t:=some u) (f:=f) hD ((sr4.grow g5).grow g6) n4 (g6.al _ _ d5) (g6.nw _ _ e5 d5) (((r2.mono g3.st).mono g5.st).mono g6.st) l2 (by omega) r6 hy
    | false=>exact⟨Po,e3,ys,vs,sr4.grow g5,n4,d5,e5,(r2.mono g3.st).mono g5.st,by omega,hb⟩
 ·refine .inl ⟨ok.stop i Mq H2 MN.gr.st MN.gr.sub (by omega),?_⟩
  exact Jc.done (set:=set) (t:=some u) (f:=f) (xs:=xs) (Mp:=Mp) (H1:=H1) (i:=i) hD ⟨Mq,env2,ys,vs,MN,n2,d1,d2,r2,l2,h2⟩ (by omega)
theorem cx(Mn:X.calm=true)
  (My:closureFor scope X.env=pure cl) (hk:scope.kind=.function) (nc:fI scope.names=true) (lo:gR scope.names=true) (fh:gK cl scope.names=true) (ag:eo X cl) (fr:iy X scope cl fs js)
  (hi:PI X tg iter wi) (hv:w9 E wi it) (hg:∀ C s₀ H₀ ex Me,PG (pf X scope cl (ts++fs) C s₀ H₀ ex Me) tg g) (OG:∀ E,BW E g set) (so:mz set) (he:∀ C s₀ H₀ ex Me,PE (pf X scope cl (ts++fs) C s₀ H₀ ex Me) elt (tE EF f))
  (hs:autoParam (∀ x,foldedSetIterable iter X.env x=pure x) aI._auto_1):PE X (.ListComp elt [⟨tg,iter,[],0⟩] scope pos) (tO E (cY it set none f ts.length js)):=by
 exact(Ay Mn My hk nc lo fh ag fr hi hg he hs).imp fun σ H Q q=>tH hv OG so q
theorem As(Mn:X.calm=true)
  (My:closureFor scope X.env=pure cl) (hk:scope.kind=.function) (nc:fI scope.names=true) (lo:gR scope.names=true) (fh:gK cl scope.names=true) (ag:eo X cl) (fr:iy X scope cl fs js)
  (hi:PI X tg iter wi) (hv:w9 E wi it) (hg:∀ C s₀ H₀ ex Me,PG (pf X scope cl (ts++fs) C s₀ H₀ ex Me) tg g) (OG:∀ E,BW E g set) (so:mz set) (ht:∀ C s₀ H₀ ex Me,PT (pf X scope cl (ts++fs) C s₀ H₀ ex Me) c (tT EF u)) (he:∀ C s₀ H₀ ex Me,PE (pf X scope cl (ts++fs) C s₀ H₀ ex Me) elt (tE EF f))
  (hs:autoParam (∀ x,foldedSetIterable iter X.env x=pure x) aI._auto_1):PE X (.ListComp elt [⟨tg,iter,[c],0⟩] scope pos) (tO E (cY it set (some u) f ts.length js)):=by
 exact(Ai Mn My hk nc lo fh ag fr hi hg ht he hs).imp fun σ H Q q=>AL hv OG so q
def dE(fo:ai->M (List PV)):ai->M PV:=λenv=>(fo env).bind λps=>M.ok (.lst ps)
theorem dZ{fo:ai->M (List PV)}(he:PE X e (tO E fo)):PE X e (tE E (dE fo)):=he.imp fun σ H Q q=>by
 obtain⟨B,H₀,Hs,env,sr,q⟩:=q
 refine⟨B,H₀,Hs,env,sr,(aw.bind q).imp (λps hp vs p Mi H' g r n=>?_) λe he=>he⟩
 have gn:=bJ.new (o:=.lst vs) g.sub n
 exact hp _ _ _ (g.trans gn) (.lst az (r.mono gn.st))
end
def q_(f:Str)(v:PV):List (Str×PV)->List (Str×PV)
 | []=>[(f,v)]
 | (g,x)::r=>if g=f then (g,v)::r else (g,x)::q_ f v r
theorem h_.put{H:Hp}{f:Str}{p:PV}{v:V}(h:Rep H p v):∀ {fs:List (Str×PV)} {vs:List (Str×V)},h_ H fs vs->h_ H (q_ f p fs) (jn f v vs)
 | _,_,.nil=>.cons h .nil
 | (g,x)::r,_,.cons hx hr=>by
  unfold q_ jn
  by_cases z:g=f
  ·rw[if_pos z,if_pos z];exact .cons h hr
  ·rw[if_neg z,if_neg z];exact .cons hx (hr.put h)
theorem h_.length{H:Hp}:∀ {fs:List (Str×PV)} {vs:List (Str×V)},h_ H fs vs->fs.length=vs.length
 | _,_,.nil=>rfl
 | _,_,.cons _ r=>by simp[r.length]
theorem SR.KY{B:Hp}{env:ai}{dx:Addr}{fs gs:List (Str×PV)}{us:List (Str×V)}(r:SR B H₀ Hs H σ env)(e:env[i]?=some (some (.bd a C fs)))(h:h_ Hs gs us):SR B H₀ Hs (upd H a (.ins C dx us)) σ (env.set i (some (.bd a C gs))):=by
 obtain⟨dx0,vs,h1,h2,h3,h4,h5⟩:=r.bd i a C fs e
 have nS:∀ c u,Hs c=some u->c≠a:=λc u q z=>by rw[z,h3] at q;cases q
 have n0:∀ c u,H₀ c=some u->c≠a:=λc u q z=>by rw[z,h4] at q;cases q
 refine⟨⟨r.gr.st,λc u q=>by rw[ao (n0 c u q)];exact r.gr.al c u q,λc u q=>by rw[ao (nS c u q)];exact r.gr.sub c u q,r.gr.nw⟩,by rw[List.length_set];exact r.len,λj q ej=>?_,λj zs ej=>?_,λj k y1 y2 b nj e1 e2 e3 e4=>?_,λj ba D OV ej=>?_,λj k _ _ C' D OV gs' e1 e2=>?_⟩
 ·rw[List.getElem?_set] at ej
  by_cases z:i=j
  ·subst z
   rw[if_pos rfl] at ej
   split at ej <;> cases ej
  ·rw[if_neg z] at ej;exact r.sh j q ej
 ·rw[List.getElem?_set] at ej
  by_cases z:i=j
  ·subst z
   rw[if_pos rfl] at ej
   split at ej <;> cases ej
  ·rw[if_neg z] at ej
   obtain⟨b,ws,q1,q2,q3,q4,q5⟩:=r.ow j zs ej
   have nb:b≠a:=λw=>by subst w;rw[h2] at q2;cases q2
   exact⟨b,ws,q1,by rw[ao nb];exact q2,q3,q4,q5⟩
 ·rw[List.getElem?_set] at e1 e2
  by_cases z:i=j
  ·subst z
   rw[if_pos rfl] at e1
   split at e1 <;> cases e1
  ·by_cases z2:i=k
   ·subst z2
    rw[if_pos rfl] at e2
    split at e2 <;> cases e2
   ·rw[if_neg z] at e1
    rw[if_neg z2] at e2
    exact r.sep j k y1 y2 b nj e1 e2 e3 e4
 ·rw[List.getElem?_set] at ej
  by_cases z:i=j
  ·subst z
   rw[if_pos rfl] at ej
   split at ej
   ·cases ej;exact⟨dx,us,h1,az,h3,h4,h⟩
   ·cases ej
  ·rw[if_neg z] at ej
   exact absurd (r.one i j _ _ _ _ _ _ e ej) z
 ·have o1:∃ b D w,env[j]?=some (some (.bd b D w)):=by
   rw[List.getElem?_set] at e1
   by_cases z:i=j
   ·subst z;exact⟨_,_,_,e⟩
   ·rw[if_neg z] at e1;exact⟨_,_,_,e1⟩
  have o2:∃ b D w,env[k]?=some (some (.bd b D w)):=by
   rw[List.getElem?_set] at e2
   by_cases z:i=k
   ·subst z;exact⟨_,_,_,e⟩
   ·rw[if_neg z] at e2;exact⟨_,_,_,e2⟩
  obtain⟨_,_,w1,o1⟩:=o1
  obtain⟨_,_,w2,o2⟩:=o2
  exact r.one j k _ _ _ _ _ _ o1 o2
def Al(i:Nat)(C:Addr)(f:Str)(p:PV)(env:ai):M Out:=match env[i]? with
 | some (some (.bd a C' fs))=>cC (C'=C/\fs.length<1000) (M.ok (.nx (env.set i (some (.bd a C (q_ f p fs))))))
 | _=>none
def kK(i:Nat)(C:Addr)(fl:Str)(f:ai->M PV):ai->M Out:=λenv=>(f env).bind λp=>Al i C fl p env
section
variable{E:XK}{pos px:Pos}{f:ai->M PV}{fl:Str}
theorem ku(hi:X.N[i]?=some x)(hv:CC X.env.scope x)(c:lK X.K C)(na:bU X.K C fl)(he:PE X e (tE (λ_=>E) f))(hd:autoParam ((x==("__debug__" : Str))=false) aD._auto_1)(Nc:autoParam ((x==("__classdict__" : Str))=false) aD._auto_1)
  (hs:autoParam (swapsWith e (some (.Attribute (.Name x px) fl pos')) pos.line X.env=pure false) aR._auto_1):PS X (.Assign [.Attribute (.Name x px) fl pos'] e pos) (tS E (kK i C fl f)):=by
 refine(E9 (bG hi hv hd Nc) he hs).imp λD σ H q=>kS q λB H₀ Hs H1 env p v sr rp hp=>?_
 unfold Al at hp
 split at hp
 ·rename_i a C' fs ex
  obtain⟨⟨rfl,hz⟩,hp⟩:=aw.cC hp
  obtain⟨dx,vs,h1,h2,h3,h4,h5⟩:=sr.bd i a _ fs ex
  exact⟨.ref a,h1,a,_,dx,vs,rfl,h2,c,na,by rw[← h5.length];exact hz,hp σ Hs _ (sr.KY ex (h5.put rp))⟩
 ·exact hp.elim
end
def xi(m:Nat)(a C:Addr)(ps:List PV):ai:=some (.bd a C [])::jL (m-1) ps
def Bc(a C:Addr)(env:ai):M (List (Str×PV)):=match (env[0]?:Option (Option SV)) with
 | some (some (.bd b D fs))=>cC (b=a/\D=C) (M.ok fs)
 | _=>none
def outI(a C:Addr):Out->M (List (Str×PV))
 | .nx env=>Bc a C env
 | _=>none
def w5(m:Nat)(g:ai->M Out)(C a:Addr)(ps:List PV):M (List (Str×PV)):=(g (xi m a C ps)).bind (outI a C)
def GZ(s:Addr->M α):M α:=open Classical in if h:∃ r,∀ a,s a=r then h.choose else none
theorem AU{s:Addr->M α}{r:M α}(h:∀ a,s a=r):GZ s=r:=by
 have hx:∃ r,∀ a,s a=r:=⟨r,h⟩
 unfold GZ
 rw[dif_pos hx,← hx.choose_spec 0,h 0]
theorem aw.GZ{α:Type}{s:Addr->M α}{Q:α->Prop}{E:EX->Prop}(h:aw (L2.GZ s) Q E)(a:Addr):aw (s a) Q E:=by
 unfold L2.GZ at h
 split at h
 ·rename_i hx
  rw[hx.choose_spec a];exact h
 ·exact h.elim
def EE(n:Nat)(C:Addr)(sem:Addr->List PV->M (List (Str×PV))):Sp:=λvs H Q E=>vs.length=n/\∃ a dx us Hs H1 ps,vs=.ref a::us/\H1 a=none/\H1 dx=none/\dx≠a/\H=upd (upd H1 dx (.own a)) a (.ins C dx [])/\bf Hs H1/\aL Hs ps us ∧
 aw (sem a ps) (λfs=>∀ Pk ws Mi H',bJ Hs H1 Mi H'->H' a=some (.ins C Pk ws)->Mi a=none->h_ Mi fs ws->Q .cL H') (XW E Hs H1)
theorem SR.GH{dx:Addr}{ps:List PV}(s:bf Hs H₀)(hN:0<N.length)(ha:H₀ a=none)(r:aL Hs ps vs)(hH:H=upd H₀ a (.ins C dx [])):SR Hs H₀ Hs H (L2.start N (.ref a::vs)) (xi N.length a C ps):=by
 have hs:Hs a=none:=by
  cases q:Hs a with
  | none=>rfl
  | some o=>have:=s _ _ q;rw[ha] at this;cases this
 have ne:∀ c u,H₀ c=some u->c≠a:=λc u e z=>by rw[z,ha] at e;cases e
 have s0:=SR.start (N:=N.tail) s r
 have e1:L2.start N (.ref a::vs)=some (.ref a)::L2.start N.tail vs:=by
  unfold L2.start
  simp only[List.map_cons,List.cons_append,List.length_cons,List.length_tail]
  rw[Nat.sub_sub,Nat.add_comm]
 have e2:xi N.length a C ps=some (.bd a C [])::jL N.tail.length ps:=by unfold xi;rw[List.length_tail]
 have al:bf H₀ H:=λc u q=>by rw[hH,ao (ne c u q)];exact q
 rw[e1,e2]
 refine⟨⟨λ_ _ e=>e,al,λc u q=>al c u (s c u q),λc u q _=>q⟩,by simp[s0.len],λj q ej=>?_,λj zs ej=>?_,λj k y1 y2 b nj e1 e2 e3 e4=>?_,λj ba D OV ej=>?_,λj k a1 a2 C' D OV gs' e1 e2=>?_⟩
 ·cases j with
  | zero=>cases ej
  | succ j=>exact s0.sh j q (by simpa using ej)
 ·cases j with
  | zero=>cases ej
  | succ j=>exact absurd (s0.ow j zs (by simpa using ej)) (λ⟨b,ws,q1,q2,q3,q4,q5⟩=>by rw[q4] at q2;cases q2)
 ·cases j with
  | zero=>cases e1
  | succ j=>exact absurd (s0.ow j y1 (by simpa using e1)) (λ⟨b,ws,q1,q2,q3,q4,q5⟩=>by rw[q4] at q2;cases q2)
 ·cases j with
  | zero=>cases ej;exact⟨dx,[],rfl,by rw[hH];exact az,hs,ha,.nil⟩
  | succ j=>exact absurd (s0.bd j ba D OV (by simpa using ej)) (λ⟨b,ws,q1,q2,q3,q4,q5⟩=>by rw[q4] at q2;cases q2)
 ·cases j with
  | zero=>cases k with
   | zero=>rfl
   | succ k=>exact absurd (s0.bd k a2 D gs' (by simpa using e2)) (λ⟨b,ws,q1,q2,q3,q4,q5⟩=>by rw[q4] at q2;cases q2)
  | succ j=>exact absurd (s0.bd j a1 C' OV (by simpa using e1)) (λ⟨b,ws,q1,q2,q3,q4,q5⟩=>by rw[q4] at q2;cases q2)
theorem DV{K:PySem.W.Frag}{dV kV doc pm Mr ct oc:Value}{g:ai->M Out}(lk:K.lookup f=some ⟨oc,od,.func (PySem.W.fnOf name qual params body scope dV kV doc pm an Mr ct),Od⟩)(Nc:PySem.W.codeIn K Mr qual=true)(S:b_ N ps scope)(hN:0<N.length)
  (hb:∀ (A:Around) (outer:List Env) (s:Shared) (H:Hp) (E:XK),bP k (A.deeper (envOfC qual scope s.heap.objs.size f Mr))->kc ((kb (bY P w) P w K mg base N qual scope f Mr A outer s H E).out λ_=>E) body (tS E g)) :
  aW P w K mg base (bY P w) (k+1) f (PySem.W.fnOf name qual params body scope dV kV doc pm an Mr ct) ps (EE ps.length C (w5 N.length g C)):=by
 refine rT lk Nc S (λvs H Q E h=>h.1) λA outer s H vs Q E hr hs=>⟨_,hb A outer s H E hr,?_⟩
 obtain⟨_,a,dx,us,Hs,H1,Nn,rfl,ha,hdx,Ob,hH,sm,r,h⟩:=hs
 have ne:∀ c u,H1 c=some u->c≠dx:=λc u e z=>by rw[z,hdx] at e;cases e
 have s0:bf H1 (upd H1 dx (.own a)):=λc u q=>by rw[ao (ne c u q)];exact q
 have g0:bJ Hs H1 Hs (upd H1 dx (.own a)):=⟨λ_ _ e=>e,s0,λc u q=>s0 c u (sm c u q),λ_ _ e _=>e⟩
 refine⟨Hs,_,Hs,_,SR.GH (dx:=dx) g0.sub hN (by rw[ao (Ne.symm Ob)];exact ha) r hH,(aw.bind h).imp (λo ho=>?_) λe he=>he.grow g0⟩
 cases o with
 | rt p=>exact ho.elim
 | bk env=>exact ho.elim
 | ct env=>exact ho.elim
 | nx env =>
  intro σ Mi H' sr
  have NF:aw (Bc a C env) _ _:=ho
  unfold Bc at NF
  split at NF
  ·rename_i b D fs ex
   obtain⟨⟨rfl,rfl⟩,hp⟩:=aw.cC NF
   obtain⟨Pk,ws,h1,h2,h3,h4,h5⟩:=sr.bd 0 _ _ fs ex
   exact hp Pk ws Mi H' (g0.trans sr.gr) h2 h3 h5
  ·exact NF.elim
def jz(C:Addr)(sem:Addr->List PV->M (List (Str×PV)))(NA:List PV)(ps:List PV):M PV:=(GZ λa=>sem a (ps++NA)).bind λfs=>M.ok (.obj C fs)
section
variable{ns:List Str}{sem:Addr->List PV->M (List (Str×PV))}{p pos:Pos}{fs:ai->M (List PV)}
theorem Ca(Mk:Mk X.K C f)(F:aW X.prog X.w X.K X.mg X.base (bY X.prog X.w) k f fd ns (EE n C sem))(hr:bP (k+1) X.A)(hg:Gl X x)(hm:X.mg x=some (.ref C))(hb:Binds X.K fd ns ds)(hd:Vals MR ds)(hdp:∀ H,aL H NA MR)(O:dz X E)
  (hl:∀ a ps,sem a (ps++NA)≠none->ps.length+NA.length+1=n)
  (ha:PA X (e::es) (tL E fs)) (MP:autoParam ((x==("__debug__" : Str))=false) aD._auto_1) (he:autoParam (starEach (e::es) X.env=(false,eval e X.env)::starEach es X.env) aR._auto_1) (Mt:autoParam ((backTo pos (starEach es X.env)).any (·.1)=false) aR._auto_1) :
  PE X (.Call (.Name x p) (e::es) [] pos) (tE E (aj (jz C sem NA) fs)):=by
 refine(zR Mk F hr hg hm hb hd O ha MP he Mt).imp fun σ H Q q=>cM (K:=ir Q) ir.g q λB H₀ Hs H1 env Nn v sr rp hp=>?_
 intro a dx ha hdx Ob
 have r2:aL Hs (Nn++NA) (v++MR):=rp.append (hdp Hs)
 have N4:=(aw.bind hp).GZ a
 have hn:sem a (Nn++NA)≠none:=λz=>by
  rw[z] at N4;exact N4
 refine⟨?_,a,dx,v++MR,Hs,H1,Nn++NA,rfl,ha,hdx,Ob,rfl,sr.gr.sub,r2,N4.imp (λfl hfl Pk ws Mi H' g hw PN NC=>⟨rfl,?_⟩) λe he=>he⟩
 ·show (v++MR).length+1=n
  rw[← r2.length,List.length_append]
  exact hl a Nn hn
 ·have ne:∀ c u,Mi c=some u->c≠a:=λc u q z=>by rw[z,PN] at q;cases q
  have Mv:bf Mi (upd Mi a (.ins C Pk ws)):=λc u q=>by rw[ao (ne c u q)];exact q
  refine hfl (.ref a) (upd Mi a (.ins C Pk ws)) H' ⟨λc u q=>Mv c u (g.st c u q),g.al,λc u q=>?_,λc u q1 q2=>?_⟩ (.obj az (NC.mono Mv))
  ·by_cases z:c=a
   ·subst z;rw[az] at q;cases q;exact hw
   ·rw[ao z] at q;exact g.sub c u q
  ·have z:c≠a:=λz=>by rw[z,ha] at q2;cases q2
   rw[ao z];exact g.nw c u q1 q2
end
section
variable{a b:Expr}{pos:Pos}{f g h:ai->M PV}
theorem jF{m:Nat}(h:n.log2<m):n<2^m:=by
 by_cases z:n=0
 ·subst z;exact Nat.two_pow_pos m
 ·exact(Nat.log2_lt z).mp h
theorem aL.rep{H:Hp}{xs:List PV}{vs:List V}(r:aL H xs vs):∀ k:Nat,aL H (List.replicate k xs).flatten (List.replicate k vs).flatten
 | 0=>.nil
 | k+1=>by rw[List.replicate_succ,List.replicate_succ,List.flatten_cons,List.flatten_cons];exact r.append (r.rep k)
def bZ:PV->PV->M PV
 | .int i,.int j=>cC (i.natAbs.log2<67108864/\j.natAbs.log2<67108864) (M.ok (.int (i*j)))
 | .tup xs,.int k=>cC (xs.isEmpty=false/\-(2^63)<=k/\k<2^63/\xs.length*k.toNat<=sizeLine) (M.ok (.tup (List.replicate k.toNat xs).flatten))
 | .lst xs,.int k=>cC (-(2^63)<=k/\k<2^63/\xs.length*k.toNat<=sizeLine) (M.ok (.lst (List.replicate k.toNat xs).flatten))
 | _,_=>none
def Ey(K:PySem.W.Frag):R2:=λx y H Q=>(rI (λi j=>IntMulOk i j) λi j=>.int (i*j)) x y H Q\/Ez K x y H Q\/Ji x y H Q
theorem DT:gc X (binaryOp .Mult) (Ey X.K):=gc.or D5 (gc.or CN FJ)
theorem Hr{K:PySem.W.Frag}:k_ E (Ey K) bZ:=by
 intro σ Hs H p q v u Q s rp rq h
 cases rp with
 | int i=>cases rq with
  | int j =>
   obtain⟨hz,h⟩:=aw.cC h
   exact .inl ⟨i,j,rfl,rfl,Ar (jF hz.1) (jF hz.2) (Nat.le_refl _),dq.flat h s (.int _)⟩
  | _=>exact h.elim
 | @tup a xs vs ha hx=>cases rq with
  | int k =>
   obtain⟨⟨h0,h1,h2,h3⟩,h⟩:=aw.cC h
   have n1:vs≠[]:=λz=>by
    have:=hx.length
    rw[z] at this
    cases xs with
    | nil=>cases h0
    | cons _ _=>cases this
   refine .inr (.inl ⟨a,k,vs,rfl,rfl,gx.of (s _ _ ha),n1,h1,h2,by rw[← hx.length];exact h3,λz=>?_,λz=>dq.tup h s (hx.rep _)⟩)
   subst z
   rw[show (1:Int).toNat=1 from rfl,List.replicate_succ,List.replicate_zero,List.flatten_cons,List.flatten_nil,List.append_nil] at h
   exact dq.flat h s (.tup ha hx)
  | _=>exact h.elim
 | @lst a xs vs ha hx=>cases rq with
  | int k =>
   obtain⟨⟨h1,h2,h3⟩,h⟩:=aw.cC h
   exact .inr (.inr ⟨a,k,vs,rfl,rfl,s _ _ ha,h1,h2,by rw[← hx.length];exact h3,dq.lst h s (hx.rep _)⟩)
  | _=>exact h.elim
 | _=>exact h.elim
theorem DA:k_ E (rI zc λi j=>.int (i.fdiv j)) (vB (λ_ j=>decide (j≠0/\j.natAbs.log2<9000)) λi j=>i.fdiv j):=vH λi j z=>(of_decide_eq_true z:j≠0/\j.natAbs.log2<9000)
theorem Ff:k_ E (rI (λ_ j=>j≠0) λi j=>.int (i.fmod j)) (vB (λ_ j=>decide (j≠0)) λi j=>i.fmod j):=vH λi j z=>of_decide_eq_true z
theorem Fe:k_ E (rI GI λi j=>.int (i^j.toNat)) (vB (λi j=>decide (0<=j/\j<=1000000/\i.natAbs<2^64)) λi j=>i^j.toNat):=vH λi j z=>(of_decide_eq_true z:0<=j/\j<=1000000/\i.natAbs<2^64)
def HU:PV->M PV
 | .int i=>M.ok (.int (-i))
 | _=>none
def kG(f:ai->M PV):ai->M PV:=λenv=>(f env).bind HU
theorem Fv(ha:PE X a (tE E f)):PE X (.UnaryOp .USub a pos) (tE E (kG f)) :=
 (zP vq ha).imp fun σ H Q q=>Iy q λHs H1 p v s rp h=>by
  cases rp with
  | int i=>exact⟨i,rfl,dq.flat h s (.int _)⟩
  | _=>exact h.elim
def wo:PV->Bool
 | .cL=>true
 | _=>false
theorem BC{p:PV}(r:Rep H p v):decide (v=.cL)=wo p:=by
 cases r <;> rfl
def Bg:PV->PV->M PV
 | p,.cL=>M.ok (.bl (wo p))
 | _,_=>none
theorem zG:k_ E (λx y H Q=>y=.cL/\Q (.bl (decide (x=.cL))) H) Bg:=by
 intro σ Hs H p q v u Q s rp rq h
 cases rq with
 | cL =>
  have h':aw (M.ok (PV.bl (wo p))) (dq Hs H Q) (XW (E σ) Hs H):=by cases p <;> exact h
  exact⟨rfl,by rw[BC rp];exact dq.flat h' s (.bl _)⟩
 | _=>cases p <;> exact h.elim
def iW(o o':PV->PV->M PV)(f g h:ai->M PV):ai->M PV:=λenv=>(f env).bind λp=>(g env).bind λq=>(o p q).bind λz=>(vD z).bind λk=>if k=true then (h env).bind λr=>o' q r else M.ok (.bl false)
theorem sP{r r':R2}{o o':PV->PV->M PV}(hv:k_ E r o)(Pb:k_ E r' o'){Q:VK}(q:tE E (iW o o' f g h) σ H Q):u5 r r' (tE E f) (tE E g) (tE E h) σ H Q:=by
 refine bR (K:=ir Q) ir.g q λB H₀ Hs H1 env p v sr rp hp=>?_
 refine⟨B,H₀,Hs,env,sr,(aw.bind hp).imp (λq hq u Mq H2 g2 ru=>?_) λe he=>he⟩
 have MN:=sr.grow g2
 refine hv σ Mq H2 p q v u _ MN.gr.sub (rp.mono g2.st) ru ((aw.bind hq).imp (λz hz w ND H3 g3 NC=>?_) λe he=>he.grow g2)
 obtain⟨k,ek,hk⟩:=aw.IC (aw.bind hz)
 subst ek
 cases NC
 refine⟨k,rfl,?_⟩
 have NY:=MN.grow g3
 cases k with
 | false=>exact hk _ _ _ (g2.trans g3) (.bl _)
 | true =>
  have hk':aw ((h env).bind λr=>o' q r) (ir Q Hs H1) (XW (E σ) Hs H1):=hk
  refine⟨B,H₀,ND,env,NY,(aw.bind hk').imp (λr hr w Hs4 H4 g4 rw4=>?_) λe he=>he.grow (g2.trans g3)⟩
  exact Pb σ Hs4 H4 q r u w Q (NY.grow g4).gr.sub ((ru.mono g3.st).mono g4.st) rw4 (hr.imp (λz hz w' Po H5 g5 r5=>hz w' Po H5 ((g2.trans g3).trans (g4.trans g5)) r5) λe he=>he.grow ((g2.trans g3).trans g4))
theorem uj{NW:CmpOp}{r r':R2}{o o':PV->PV->M PV}(ho:gc X (compareOp op) r)(hv:k_ E r o)(NF:gc X (compareOp NW) r')(Pb:k_ E r' o')(ha:PE X a (tE E f))(hb:PE X b (tE E g))(hc:PE X c (tE E h))
  (hm:autoParam (lastMarks [op,NW] [b,c]=false) aU._auto_1):PE X (.Compare a [op,NW] [b,c] pos) (tE E (iW o o' f g h)) :=
 (yS ho NF ha hb hc hm).imp fun σ H Q q=>sP hv Pb q
theorem An{NW:CmpOp}{r r':R2}{o o':PV->PV->M PV}(ho:gc X (compareOp op) r)(hv:k_ E r o)(NF:gc X (compareOp NW) r')(Pb:k_ E r' o')(ha:PE X a (tE E f))(hb:PE X b (tE E g))(hc:PE X c (tE E h))
  (hm:autoParam (lastMarks [op,NW] [b,c]=false) aU._auto_1):PT X (.Compare a [op,NW] [b,c] pos) (tT E (eW (iW o o' f g h))) :=
 (yX ho NF ha hb hc hm).imp fun σ H Q q=>sP hv Pb (oB q)
def cz(u:ai->M Bool)(b:ai->M Out):Nat->ai->M Out
 | 0,_=>none
 | n+1,env=>(u env).bind λt=>if t=true then (b env).bind λo=>match o with
   | .nx Mh=>cz u b n Mh
   | .ct Mh=>cz u b n Mh
   | .bk Mh=>M.ok (.nx Mh)
   | .rt p=>M.ok (.rt p)
  else M.ok (.nx env)
theorem xm{E:XK}{u:ai->M Bool}{g:ai->M Out}(n:ai->Nat)(O:dz X λ_=>E)(hc:PT X c (tT (λ_=>E) u))(hb:kc X body (tS E g)):PS X (.While c body [] pos) (tS E λenv=>cz u g (n env) env):=by
 refine(um O.own hc hb).imp λD σ H q=>?_
 obtain⟨B,H₀,Hs,env,sr,q⟩:=q
 refine⟨λm σ H=>∃ Hs env,SR B H₀ Hs H σ env/\aw (cz u g m env) (KS D B H₀) (XW E B H₀),⟨n env,Hs,env,sr,q⟩,?_⟩
 rintro m σ1 H1 ⟨Mp,env1,Pe,q1⟩
 cases m with
 | zero=>exact q1.elim
 | succ m =>
  refine⟨B,H₀,Mp,env1,Pe,(aw.bind q1).imp (λt ht Mq H2 g2=>?_) λe he=>he.grow Pe.gr⟩
  have MN:=Pe.grow g2
  cases t with
  | false=>exact ht σ1 Mq H2 MN
  | true =>
   refine⟨fun σ' H'=>∃ Mi Mh,SR B H₀ Mi H' σ' Mh/\aw (cz u g m Mh) (KS D B H₀) (XW E B H₀),fun σ' H' z=>⟨m,Nat.lt_succ_self m,z⟩,B,H₀,Mq,env1,MN,(aw.bind ht).imp (λo ho=>?_) λe he=>he⟩
   cases o with
   | nx Mh=>exact fun σ' Mi H' NG=>⟨Mi,Mh,NG,ho⟩
   | ct Mh=>exact fun σ' Mi H' NG=>⟨Mi,Mh,NG,ho⟩
   | bk Mh=>exact ho
   | rt p=>exact ho
theorem jb{u:ai->M Bool}{g:ai->M Out}:∀ (n k:Nat) (env:ai),cz u g n env≠none->cz u g (n+k) env=cz u g n env
 | 0,_,_,h=>(h rfl).elim
 | n+1,k,env,h=>by
  rw[show n+1+k=(n+k)+1 by omega]
  unfold cz at h ⊢
  cases hu:u env with
  | none=>rfl
  | some z =>
   cases z with
   | error e=>rfl
   | ok t =>
    rw[hu] at h
    cases t with
    | false=>rfl
    | true =>
     show M.bind (g env) _=M.bind (g env) _
     have h':M.bind (g env) (λo=>match o with
      | .nx Mh=>cz u g n Mh
      | .ct Mh=>cz u g n Mh
      | .bk Mh=>M.ok (.nx Mh)
      | .rt p=>M.ok (.rt p))≠none:=h
     cases hg:g env with
     | none=>rfl
     | some z =>
      cases z with
      | error e=>rfl
      | ok o =>
       rw[hg] at h'
       cases o with
       | nx Mh=>exact jb n k Mh h'
       | ct Mh=>exact jb n k Mh h'
       | bk Mh=>rfl
       | rt p=>rfl
def kM(u:ai->M Bool)(b:ai->M Out)(env:ai):M Out:=open Classical in cz u b (if h:∃ n,cz u b n env≠none then h.choose else 0) env
theorem yy{u:ai->M Bool}{b:ai->M Out}{env:ai}(h:cz u b n env≠none):kM u b env=cz u b n env:=by
 have hx:∃ n,cz u b n env≠none:=⟨n,h⟩
 unfold kM
 rw[dif_pos hx]
 have h1:=hx.choose_spec
 rw[← jb _ n env h1,← jb n hx.choose env h,Nat.add_comm]
theorem tf{E:XK}{u:ai->M Bool}{g:ai->M Out}(O:dz X λ_=>E)(hc:PT X c (tT (λ_=>E) u))(hb:kc X body (tS E g)):PS X (.While c body [] pos) (tS E (kM u g)) :=
 xm (λenv=>open Classical in if h:∃ n,cz u g n env≠none then h.choose else 0) O hc hb
end
def Er:PV->Option String
 | .cL=>some "NoneType"
 | .bl _=>some "bool"
 | .int _=>some "int"
 | .str _=>some "str"
 | .lst _=>some "list"
 | .jh _=>some "list"
 | .tup _=>some "tuple"
 | .emp=>some "dict"
 | _=>none
def kd(a t:String):Bool:=a==t||(a == "bool" && t == "int")
theorem mS(K:PySem.W.Frag):PySem.W.kitOne K (.type "NoneType") (.type "int")=some false:=by with_unfolding_all kernel_rfl
theorem uG(K:PySem.W.Frag):PySem.W.kitOne K (.type "bool") (.type "int")=some true:=by with_unfolding_all kernel_rfl
def tys:List String:=["int", "bool", "str", "list", "tuple"]
theorem Jp(K:PySem.W.Frag){p:PV}{a t:String}(ha:Er p=some a)(ht:t∈tys):PySem.W.kitOne K (.type a) (.type t)=some (kd a t):=by
 have ht2:t = "int" \/ t = "bool" \/ t = "str" \/ t = "list" \/ t = "tuple" := by simpa [tys] using ht
 cases p <;> cases ha <;> rcases ht2 with rfl | rfl | rfl | rfl | rfl <;> first
  | exact mS K
  | exact kt_NoneType_bool K
  | exact kt_NoneType_str K
  | exact kt_NoneType_list K
  | exact kt_NoneType_tuple K
  | exact uG K
  | exact kt_bool_bool K
  | exact kt_bool_str K
  | exact kt_bool_list K
  | exact kt_bool_tuple K
  | exact kt_int_int K
  | exact kt_int_bool K
  | exact kt_int_str K
  | exact kt_int_list K
  | exact kt_int_tuple K
  | exact kt_str_int K
  | exact kt_str_bool K
  | exact kt_str_str K
  | exact kt_str_list K
  | exact kt_str_tuple K
  | exact kt_list_int K
  | exact kt_list_bool K
  | exact kt_list_str K
  | exact kt_list_list K
  | exact kt_list_tuple K
  | exact kt_tuple_int K
  | exact kt_tuple_bool K
  | exact kt_tuple_str K
  | exact kt_tuple_list K
  | exact kt_tuple_tuple K
  | exact kt_dict_int K
  | exact kt_dict_bool K
  | exact kt_dict_str K
  | exact kt_dict_list K
  | exact kt_dict_tuple K
theorem vz{K:PySem.W.Frag}{p:PV}{a:String}(s:bf Hs H)(r:Rep Hs p v)(ha:Er p=some a):jo K H v (.type a):=by
 cases r with
 | cL=>cases ha;exact .cL
 | bl b=>cases ha;exact .bl b
 | int i=>cases ha;exact .int i
 | str x=>cases ha;exact .str x
 | tup h _=>cases ha;exact .tup (s _ _ h)
 | lst h _=>cases ha;exact .lst (s _ _ h)
 | jh h _=>cases ha;exact .pT (s _ _ h)
 | emp h=>cases ha;exact .dK (s _ _ h)
 | _=>cases ha
theorem wQ(K:PySem.W.Frag){p:PV}{a:String}(ha:Er p=some a):∀ {Ts:List String},(∀ t∈Ts,t∈tys)->PySem.W.kitAny K (.type a) (Ts.map Value.type)=some (Ts.any λt=>kd a t)
 | [],_=>rfl
 | t::r,h=>by
  have h1:=Jp K ha (h t List.mem_cons_self)
  have h2:=wQ K ha (Ts:=r) λt q=>h t (List.mem_cons_of_mem _ q)
  simp only[List.map_cons,PySem.W.kitAny,h1,List.any_cons]
  cases kd a t with
  | true=>rfl
  | false=>exact h2
structure uW (K:PySem.W.Frag) (C:Addr):Prop where
 cls:lK K C
 ha:PySem.W.findIn K (.ref C) "__class__" = some (some (.builtin "object.__class__"))
 hn:PySem.W.specialIn K (.builtin "object.__class__") "__get__" = some (some (.builtin "getset_descriptor.__get__"))
 Hz:PySem.W.takesIn K (.builtin "object.__class__")=some true
 hm:PySem.W.mroIn K C (.type "object")=some true
def yJ(b:String->Bool)(ob oe:Addr->Option Bool):PV->M PV
 | .obj C _=>eD ((ob C).map .bl)
 | .exc C _=>eD ((oe C).map .bl)
 | p=>eD ((Er p).map λa=>.bl (b a))
section
variable{pos p px pt:Pos}{f:ai->M PV}{T:String}{ob oe:Addr->Option Bool}
theorem vP{fo:Option (List (Str×PV))}(s:bf Hs H)(r:Rep Hs (.exc C fo) v):∃ a O1,v=.ref a/\ExcAt H a C O1:=by
 cases r with
 | @vJ a _ h=>exact⟨a,none,rfl,s _ _ h⟩
 | @vK a _ d _ vs h h2 _=>exact⟨a,some vs,rfl,d,s _ _ h,s _ _ h2⟩
def sG(b:String->Bool)(ob oe:Addr->Option Bool)(f:ai->M PV):ai->M PV:=λenv=>(f env).bind (yJ b ob oe)
theorem oR{b:String->Bool}{p:PV}{Q:PV->Prop}{F:EX->Prop}(h:aw (yJ b ob oe p) Q F):(∃ a,Er p=some a/\Q (.bl (b a)))\/(∃ C fs k,p=.obj C fs/\ob C=some k/\Q (.bl k))\/∃ C fo k,p=.exc C fo/\oe C=some k/\Q (.bl k):=by
 cases p with
 | obj C fs =>
  obtain⟨z,e,q⟩:=aw.opt h
  obtain⟨k,e2,rfl⟩:=Option.map_eq_some_iff.mp e
  exact .inr (.inl ⟨C,fs,k,rfl,e2,q⟩)
 | exc C fo =>
  obtain⟨z,e,q⟩:=aw.opt h
  obtain⟨k,e2,rfl⟩:=Option.map_eq_some_iff.mp e
  exact .inr (.inr ⟨C,fo,k,rfl,e2,q⟩)
 | cL=>exact .inl ⟨_,rfl,h⟩
 | bl _=>exact .inl ⟨_,rfl,h⟩
 | int _=>exact .inl ⟨_,rfl,h⟩
 | str _=>exact .inl ⟨_,rfl,h⟩
 | tup _=>exact .inl ⟨_,rfl,h⟩
 | lst _=>exact .inl ⟨_,rfl,h⟩
 | jh _=>exact .inl ⟨_,rfl,h⟩
 | emp=>exact .inl ⟨_,rfl,h⟩
theorem vU{K:PySem.W.Frag}{fs:List (Str×PV)}(s:bf Hs H)(r:Rep Hs (.obj C fs) v)(c:uW K C):jo K H v (.ref C):=by
 cases r with
 | obj h _=>exact .ins (s _ _ h) c.cls c.ha c.hn c.Hz c.hm
theorem jg(hg:Gl X "isinstance")(hm:X.mg "isinstance" = none)(hT:PE X (.Name x pt) (tC (.ty T)))(ht:T∈tys)(OZ:∀ C b,ob C=some b->uW X.K C/\PySem.W.kitOne X.K (.ref C) (.type T)=some b)(Nb:∀ C b,oe C=some b->fq X.K C/\PySem.W.kitOne X.K (.ref C) (.type T)=some b)(he:PE X e (tE E f))
  (h1:autoParam (starEach [e,.Name x pt] X.env=(false,eval e X.env)::starEach [.Name x pt] X.env) aR._auto_1) (h2:autoParam (starEach [.Name x pt] X.env=(false,eval (.Name x pt) X.env)::starEach [] X.env) aR._auto_1) (Mt:autoParam ((backTo pos (starEach [.Name x pt] X.env)).any (·.1)=false) aR._auto_1) :
  PE X (.Call (.Name "isinstance" p) [e,.Name x pt] [] pos) (tE E (sG (λa=>kd a T) ob oe f)):=by
 refine(jB (cy.or tD oy) hg hm rK (bj he (bj hT dC h2) h1) (by decide) (by decide) h1 Mt).imp fun σ H Q q=>bR (K:=ir Q) ir.g q λB H₀ Hs H1 env p v sr rp hp=>?_
 rcases oR hp with ⟨a,ha,q⟩ | ⟨C,fs,k,rfl,e,q⟩ | ⟨C,fo,k,rfl,e,q⟩
 ·exact .inl ⟨v,T,_,_,rfl,vz sr.gr.sub rp ha,Jp X.K ha ht,dq.flat q sr.gr.sub (.bl _)⟩
 ·exact .inl ⟨v,T,_,_,rfl,vU sr.gr.sub rp (OZ C k e).1,(OZ C k e).2,dq.flat q sr.gr.sub (.bl _)⟩
 ·obtain⟨a,O1,rfl,hx⟩:=vP sr.gr.sub rp
  exact .inr ⟨a,C,O1,k,(Nb C k e).1,hx,.inl ⟨T,rfl,(Nb C k e).2⟩,dq.flat q sr.gr.sub (.bl _)⟩
theorem GC(hg:Gl X "isinstance")(hm:X.mg "isinstance" = none)(hT:PE X (.Name x pt) (tC (.ref D)))(hk:∀ p a,Er p=some a->PySem.W.kitOne X.K (.type a) (.ref D)=some false)(OZ:∀ C b,ob C=some b->uW X.K C/\PySem.W.kitOne X.K (.ref C) (.ref D)=some b)(Nb:∀ C b,oe C=some b->fq X.K C/\PySem.W.kitOne X.K (.ref C) (.ref D)=some b)(he:PE X e (tE E f))
  (h1:autoParam (starEach [e,.Name x pt] X.env=(false,eval e X.env)::starEach [.Name x pt] X.env) aR._auto_1) (h2:autoParam (starEach [.Name x pt] X.env=(false,eval (.Name x pt) X.env)::starEach [] X.env) aR._auto_1) (Mt:autoParam ((backTo pos (starEach [.Name x pt] X.env)).any (·.1)=false) aR._auto_1) :
  PE X (.Call (.Name "isinstance" p) [e,.Name x pt] [] pos) (tE E (sG (λ_=>false) ob oe f)):=by
 refine(jB (cy.or BJ oy) hg hm rK (bj he (bj hT dC h2) h1) (by decide) (by decide) h1 Mt).imp fun σ H Q q=>bR (K:=ir Q) ir.g q λB H₀ Hs H1 env p v sr rp hp=>?_
 rcases oR hp with ⟨a,ha,q⟩ | ⟨C,fs,k,rfl,e,q⟩ | ⟨C,fo,k,rfl,e,q⟩
 ·exact .inl ⟨v,D,_,_,rfl,vz sr.gr.sub rp ha,hk p a ha,dq.flat q sr.gr.sub (.bl _)⟩
 ·exact .inl ⟨v,D,_,_,rfl,vU sr.gr.sub rp (OZ C k e).1,(OZ C k e).2,dq.flat q sr.gr.sub (.bl _)⟩
 ·obtain⟨a,O1,rfl,hx⟩:=vP sr.gr.sub rp
  exact .inr ⟨a,C,O1,k,(Nb C k e).1,hx,.inr ⟨D,rfl,(Nb C k e).2⟩,dq.flat q sr.gr.sub (.bl _)⟩
theorem D6{e2:Expr}{t2:TE}{Ts:List String}(hg:Gl X "isinstance")(hm:X.mg "isinstance" = none)(hT:PE X e2 t2)(ht2:∀ σ H R,(∀ p,H p=none->R (.ref p) (upd H p (.tup (Ts.map V.ty))))->t2 σ H R)(ht:∀ t∈Ts,t∈tys)(OZ:∀ C b,ob C=some b->uW X.K C/\PySem.W.kitAny X.K (.ref C) (Ts.map Value.type)=some b)(he:PE X e (tE E f))
  (h1:autoParam (starEach [e,e2] X.env=(false,eval e X.env)::starEach [e2] X.env) aR._auto_1) (h2:autoParam (starEach [e2] X.env=(false,eval e2 X.env)::starEach [] X.env) aR._auto_1) (Mt:autoParam ((backTo pos (starEach [e2] X.env)).any (·.1)=false) aR._auto_1) :
  PE X (.Call (.Name "isinstance" p) [e,e2] [] pos) (tE E (sG (λa=>Ts.any λt=>kd a t) ob (λ_=>none) f)):=by
 refine(jB yp hg hm rK (bj he (bj hT dC h2) h1) (by decide) (by decide) h1 Mt).imp fun σ H Q q=>bR (K:=ir Q) ir.g q λB H₀ Hs H1 env p v sr rp hp=>?_
 refine ht2 σ H1 _ λtp hn=>?_
 have g:=bJ.new (o:=.tup (Ts.map V.ty)) sr.gr.sub hn
 rcases oR hp with ⟨a,ha,q⟩ | ⟨C,fs,k,rfl,e,q⟩ | ⟨C,fo,k,rfl,e,q⟩
 ·exact⟨v,tp,Ts,_,_,rfl,az,vz g.sub (rp.mono g.st) ha,wQ X.K ha ht,q _ _ _ g (.bl _)⟩
 ·exact⟨v,tp,Ts,_,_,rfl,az,vU g.sub (rp.mono g.st) (OZ C k e).1,(OZ C k e).2,q _ _ _ g (.bl _)⟩
 ·cases e
end
section
open PySem.SeqAt (shaped noMix noMixAll)
mutual
def dat:PV->Option PyData
 | .cL=>some .none
 | .bl b=>some (.bool b)
 | .int i=>some (.int i)
 | .str x=>some (.str x)
 | .tup xs=>(mU xs).map .tuple
 | .lst xs=>(mU xs).map .list
 | .jh xs=>(mU xs).map .list
 | .obj _ _=>none
 | .exc _ _=>none
 | .emp=>none
def mU:List PV->Option (List PyData)
 | []=>some []
 | p::r=>(dat p).bind λd=>(mU r).map (d::·)
end
mutual
theorem Rep.reads{Hs:Hp}(I:Inv X Me σ H s)(sm:bf Hs H):∀ {p:PV} {v:V} {u:Value} {d:PyData},Rep Hs p v->RelV v u->dat p=some d->∃ as,Reads s.heap u d as
 | _,_,u,d,.cL,r,e=>by
  cases e;cases (show u=Value.none from r);exact⟨_,.none⟩
 | _,_,u,d,.bl b,r,e=>by
  cases e;cases (show u=Value.bool b from r);exact⟨_,.bool b⟩
 | _,_,u,d,.int i,r,e=>by
  cases e;obtain⟨t,rfl⟩:=(show ∃ t,u=Value.int i t from r);exact⟨_,.int i t⟩
 | _,_,u,d,.str i,r,e=>by
  cases e;obtain⟨t,rfl⟩:=(show ∃ t,u=Value.str i t from r);exact⟨_,.str i t⟩
 | _,_,u,d,.tup (a:=a) ha hx,r,e=>by
  obtain⟨ds,e2,rfl⟩:=Option.map_eq_some_iff.mp (show (mU _).map PyData.tuple=some d from e)
  cases (show u=Value.ref a from r)
  obtain⟨Mg,r1,⟨o,ho,hc,n,hd⟩,_⟩:=I.tuple (gx.of (sm _ _ ha))
  obtain⟨as,ra⟩:=aL.reads I sm hx r1 e2
  exact⟨_,.tuple ho hc hd (by simpa using ra)⟩
 | _,_,u,d,.lst (a:=a) ha hx,r,e=>by
  obtain⟨ds,e2,rfl⟩:=Option.map_eq_some_iff.mp (show (mU _).map PyData.list=some d from e)
  cases (show u=Value.ref a from r)
  obtain⟨Mg,r1,⟨o,n,ho,hc,_,hd⟩,_⟩:=I.list (eI.of (sm _ _ ha))
  obtain⟨as,ra⟩:=aL.reads I sm hx r1 e2
  exact⟨_,.list ho hc hd (by simpa using ra)⟩
 | _,_,u,d,.jh (a:=a) (o:=ob) ha hx,r,e=>by
  obtain⟨ds,e2,rfl⟩:=Option.map_eq_some_iff.mp (show (mU _).map PyData.list=some d from e)
  cases (show u=Value.ref a from r)
  obtain⟨Mg,r1,⟨o,n,ho,hc,_,hd⟩,_⟩:=I.list (.inl (.inr ⟨ob,sm _ _ ha⟩))
  obtain⟨as,ra⟩:=aL.reads I sm hx r1 e2
  exact⟨_,.list ho hc hd (by simpa using ra)⟩
 | _,_,u,d,.obj _ _,r,e=>by cases e
 | _,_,u,d,.vJ _,r,e=>by cases e
 | _,_,u,d,.vK _ _ _,r,e=>by cases e
 | _,_,u,d,.emp _,r,e=>by cases e
theorem aL.reads{Hs:Hp}(I:Inv X Me σ H s)(sm:bf Hs H):∀ {p:List PV} {v:List V} {u:List Value} {d:List PyData},aL Hs p v->Vals v u->mU p=some d->∃ as,ReadsAll s.heap u d as
 | _,_,_,_,.nil,.nil,e=>by cases e;exact⟨_,.nil⟩
 | _,_,_,d,.cons (p:=p) (ps:=ps) h hr,.cons r rr,e=>by
  obtain⟨d1,e1,e2⟩:=Option.bind_eq_some_iff.mp (show (dat p).bind (λd=>(mU ps).map (d::·))=some d from e)
  obtain⟨ds,e3,rfl⟩:=Option.map_eq_some_iff.mp e2
  obtain⟨as,ra⟩:=Rep.reads I sm h r e1
  obtain⟨bs,rb⟩:=aL.reads I sm hr rr e3
  exact⟨_,.cons ra rb⟩
end
def EG(d e:PyData):M Bool:=cC (shaped d=true/\shaped e=true/\noMix d e=true) (M.ok (same d e))
def nR(o:Bool->PV)(p q:PV):M PV:=match dat p,dat q with
 | some d,some e=>(EG d e).bind λb=>M.ok (o b)
 | _,_=>none
def pd:PV->PV->M PV:=nR λb=>.bl b
def uT:PV->PV->M PV:=nR λb=>.bl (!b)
def zN(o:Bool->Bool):R2:=λx y H Q=>∃ Hs p q d e,bf Hs H/\Rep Hs p x/\Rep Hs q y/\dat p=some d/\dat q=some e/\shaped d=true/\shaped e=true/\noMix d e=true/\Q (.bl (o (same d e))) H
theorem Aa(hu:X.A.units+64<cLine):gc X (compareOp .Eq) (zN id):=by
 intro Me s σ H x y v u Q I rx ry h
 obtain⟨Hs,p,q,d,e,sm,rp,rq,hd,he,h1,h2,h3,hq⟩:=h
 obtain⟨as,ra⟩:=Rep.reads I sm rp rx hd
 obtain⟨bs,rb⟩:=Rep.reads I sm rq ry he
 exact eq_dataH_same ra rb h1 h2 hu h3 (vm I hq rfl)
theorem BA(hu:X.A.units+64<cLine):gc X (compareOp .NotEq) (zN not):=by
 intro Me s σ H x y v u Q I rx ry h
 obtain⟨Hs,p,q,d,e,sm,rp,rq,hd,he,h1,h2,h3,hq⟩:=h
 obtain⟨as,ra⟩:=Rep.reads I sm rp rx hd
 obtain⟨bs,rb⟩:=Rep.reads I sm rq ry he
 exact ne_dataH_same ra rb h1 h2 hu h3 (vm I hq rfl)
theorem BQ{o:Bool->Bool}:k_ E (zN o) (nR λb=>.bl (o b)):=by
 intro σ Hs H p q v u Q s rp rq h
 unfold nR at h
 split at h
 ·rename_i d e hd he
  have h':=aw.bind h
  obtain⟨⟨h1,h2,h3⟩,h⟩:=aw.cC h'
  exact⟨Hs,p,q,d,e,s,rp,rq,hd,he,h1,h2,h3,dq.flat h s (.bl _)⟩
 ·exact h.elim
theorem En:k_ E (zN id) pd:=BQ
theorem EN:k_ E (zN not) uT:=BQ
def pS(xs:List PV)(lo hi:Option Int):List PV:=(xs.drop (HT.dh xs.length 0 lo)).take (HT.dh xs.length xs.length hi-HT.dh xs.length 0 lo)
theorem aL.cut(r:aL H xs vs)(lo hi:Option Int):aL H (pS xs lo hi) (tU vs lo hi):=by
 unfold pS tU
 rw[r.length]
 exact(r.drop _).take _
abbrev HF(Q:Option Int->Hp->Prop):Hp->Hp->Option Int->Prop:=λHs H k=>∀ Mi H',bJ Hs H Mi H'->Q k H'
def K5(E:St->XK)(g:ai->M (Option Int)):TO:=fun σ H Q=>tG E g (HF Q) σ H
theorem PO.imp{e:Option Expr}{t t':TO}(h:PO X e t)(i:∀ σ H Q,t' σ H Q->t σ H Q):PO X e t':=λMe s σ H Q I q=>h Me s σ H Q I (i σ H Q q)
def Ij:PV->M (Option Int)
 | .int i=>M.ok (some i)
 | _=>none
def qP(f:ai->M PV):ai->M (Option Int):=λenv=>(f env).bind Ij
section
variable{lo hi:Option Expr}{pos p2:Pos}{f:ai->M PV}{gl gh:ai->M (Option Int)}
theorem HF.g{Q:Option Int->Hp->Prop}:KG (HF Q):=λHs H Mi H' b k g Mq H2 g2=>k Mq H2 (g.trans g2)
theorem v9(he:PE X e (tE E f)):PO X (some e) (K5 E (qP f)):=(Ck he).imp fun σ H Q q=>bR (K:=HF Q) HF.g q λB H₀ Hs H1 env p v sr rp hp=>by
 cases rp with
 | int i=>exact⟨i,rfl,hp Hs H1 (.refl sr.gr.sub)⟩
 | _=>exact hp.elim
end
def gH(xs:List PV):List PV:=xs.mapIdx λi x=>.tup [.int (i:Nat),x]
section
variable{K:PySem.W.Frag}{fs:ai->M (List PV)}
theorem p5(hq:∀ Mi H',bf Mp Mi->bf Mi H'->eI K H' a vs)(hr:aL Mp xs vs):jE (E1 K a) Mp (gH xs) where
 stop:=λi Hs H s1 s2 hi=>by
  unfold gH at hi
  rw[List.length_mapIdx,hr.length] at hi
  exact⟨vs,hq Hs H s1 s2,hi⟩
 go:=λi Hs H s1 s2 hi=>by
  unfold gH at hi
  rw[List.length_mapIdx] at hi
  obtain⟨v,e,_⟩:=hr.get (List.getElem?_eq_getElem hi)
  exact⟨vs,v,hq Hs H s1 s2,e⟩
 uu:=λi Hs H x H2 s1 s2 hi y=>by
  unfold gH at hi
  rw[List.length_mapIdx] at hi
  obtain⟨v,e,r⟩:=hr.get (List.getElem?_eq_getElem hi)
  obtain⟨pa,v',hn,rfl,rfl,y1⟩:=y
  have z1:=y1 vs (hq Hs H s1 s2)
  rw[e] at z1;cases z1
  have gr:=bJ.new (o:=.tup [.int (i:Nat),v]) s2 hn
  refine⟨.tup [.int (i:Nat),xs[i]],_,?_,gr,.tup az (.cons (.int _) (.cons ((r.mono s1).mono gr.st) .nil))⟩
  unfold gH
  rw[List.getElem?_mapIdx,List.getElem?_eq_getElem hi]
  rfl
end
end
def DI(lo st:Int)(n:Nat):It:=⟨λi _=>i<n,λi H x H'=>H'=H/\x=.int (lo+(i:Nat)*st),λi _=>n<=i⟩
theorem uI{K:PySem.W.Frag}(it:Addr)(lo st:Int)(n:Nat):Turn P w K tg (DI lo st n) [it] it (λi h=>IsRangeIter h it (lo+(i:Nat)*st) ((n:Int)-(i:Nat)) st) where
 mem:=by simp
 obj:=λi h st b hb=>by
  have e:b=it:=by simpa using hb
  subst e
  exact⟨_,st,λv z=>by
   have z':Data.fields _=Data.cell v:=z
   cases z'⟩
 keep:=λi h h' st k=>k it (by simp) _ st
 item:=by
  intro X hP hw hK hc i Me s σ H E I hf MY hg
  subst hP hw hK
  obtain⟨f0,f1,f2,f3,f4,f5⟩:=hf it (by simp)
  have W:=Walks.range (prog:=X.prog) (w:=X.w) (I.ok.hd hc) it lo st n
  refine W.item i s _ _ hg MY λv h' tk hv P4 kk=>?_
  obtain⟨t,rfl⟩:=hv
  have I1:Inv X Me σ H { s with heap:=h',toks:=tk }:=I.turned (λb o hb e=>kk b o (by simpa using hb) e) f0 f1 f3 f4 f5
  exact⟨_,rfl,wt (s:={ s with heap:=h',toks:=tk }) (n := "range_iterator") P4 rfl rfl (by decide) ⟨.int (lo+(i:Nat)*st),H,I1,⟨t,rfl⟩,⟨rfl,rfl⟩,P4,λb hb=>(hf b hb).1⟩⟩
 done:=by
  intro X hP hw hK hc i Me s σ H E I hf MY hg
  subst hP hw hK
  obtain⟨f0,f1,f2,f3,f4,f5⟩:=hf it (by simp)
  exact wpAny_pyNext_range_end (I.ok.hd hc) MY (by have:n<=i:=hg;omega) λh' eb=>⟨rfl,I.turned (t':=s.toks) (λb o hb e=>eb b o hb e) f0 f1 f3 f4 f5⟩
 self:=λ_ _ _ _ _ st h=>wpAny_pyIter_rangeiter st h
theorem rF(a b c:Int):0<=Builtin.Range.rangeSize a b c:=by
 unfold Builtin.Range.rangeSize
 split
 ·split
  ·have:=Int.ediv_nonneg (a:=b-a-1) (b:=c) (by omega) (by omega);omega
  ·omega
 ·split
  ·have:=Int.ediv_nonneg (a:=a-b-1) (b:=-c) (by omega) (by omega);omega
  ·omega
theorem xQ{R:It->Hp->Prop}{E:Value->Shared->Prop}{lo hi st:Int}{t u v:Tok}{tk:Nat}(I:Inv X Me σ H s)(hsm:Builtin.Range.small lo hi st=true)
  (q:R (DI lo st (Builtin.Range.rangeSize lo hi st).toNat) H):wpAny (model X.prog X.w) X.A (pyIter (.ref s.heap.objs.size)) (Kb X Me σ tg R) E { s with heap:=s.heap.push { cls:=.type "range", data:=.fields #[.int lo t,.int hi u,.int st v] },toks:=tk }:=by
 refine wpAny_pyIter_range (IsRange.new ..) hsm ?_
 have I1:Inv X Me σ H { s with heap:=s.heap.push { cls:=.type "range", data:=.fields #[.int lo t,.int hi u,.int st v] },toks:=tk }:=I.kept λb o e=>Heap.get?_push_of_some _ e
 refine⟨(s.heap.push { cls:=.type "range", data:=.fields #[.int lo t,.int hi u,.int st v] }).objs.size,[(s.heap.push { cls:=.type "range", data:=.fields #[.int lo t,.int hi u,.int st v] }).objs.size],_,_,H,rfl,
  I1.kept (t':=tk) λb o e=>Heap.get?_push_of_some _ e,uI _ lo st (Builtin.Range.rangeSize lo hi st).toNat,?_,λb hb=>?_,q⟩
 ·have e1:lo+((0:Nat):Int)*st=lo:=by simp
  have e2:(((Builtin.Range.rangeSize lo hi st).toNat:Nat):Int)-((0:Nat):Int)=Builtin.Range.rangeSize lo hi st:=by have:=rF lo hi st;omega
  show IsRangeIter _ _ (lo+((0:Nat):Int)*st) ((((Builtin.Range.rangeSize lo hi st).toNat:Nat):Int)-((0:Nat):Int)) st
  rw[e1,e2]
  exact Heap.get?_push_size _ rfl
 ·have e:b=(s.heap.push { cls:=.type "range", data:=.fields #[.int lo t,.int hi u,.int st v] }).objs.size:=by simpa using hb
  subst e
  exact I1.pQ (Nat.le_refl _) (I1.bu.fresh (Nat.le_refl _))
def C3(i j k:Int):Bool:=decide (k≠0)&&decide (k.natAbs<1073741824)&&Builtin.Range.small i j k
def Ei(ta:TA):TI:=fun σ H R=>ta σ H λvs H1=>∃ i j k:Int,vs=[.int i,.int j,.int k]/\C3 i j k=true/\R (DI i k (Builtin.Range.rangeSize i j k).toNat) H1
theorem xG{a b:Expr}{ta:TA}{p pos:Pos}(hg:Gl X "range")(hm:X.mg "range" = none)(ha:PA X [a,b,c] ta)(hs:autoParam (starEach [a,b,c] X.env=[(false,eval a X.env),(false,eval b X.env),(false,eval c X.env)]) aR._auto_1)(Nm:autoParam (starEach [b,c] X.env=[(false,eval b X.env),(false,eval c X.env)]) aR._auto_1) :
  PI X tg (.Call (.Name "range" p) [a,b,c] [] pos) (Ei ta):=by
 intro Me s σ H R I h
 refine Call_ (i4 I hg hm boot_range (PyProof.Rows.callWith_type1 (bT (ha pos Me s σ H _ I h) λus s1 ⟨vs,H1,I1,r1,q1⟩=>?_) (by rw[hs,Nm]) (by rw[Nm];rfl)))
 obtain⟨i,j,k,e,hc,q⟩:=q1
 subst e
 cases r1 with
 | cons r rr =>
  cases rr with
  | cons r' rr =>
   cases rr with
   | cons P2 rr =>
    cases rr
    obtain⟨t,rfl⟩:=r
    obtain⟨t',rfl⟩:=r'
    obtain⟨t'',rfl⟩:=P2
    unfold C3 at hc
    rw[Bool.and_eq_true,Bool.and_eq_true] at hc
    exact call_range_3 (of_decide_eq_true hc.1.1) (xQ I1 hc.2 q) (.inl (PyProof.noPylong_small (of_decide_eq_true hc.1.2)))
def Ba:List PV->M (List PV)
 | [.int i,.int j,.int k]=>cC (C3 i j k=true) (M.ok ((List.range (Builtin.Range.rangeSize i j k).toNat).map λ(n:Nat)=>.int (i+n*k)))
 | _=>none
section
variable{K:PySem.W.Frag}{fs:ai->M (List PV)}
theorem xE{lo st:Int}:jE (DI lo st n) Mp ((List.range n).map λ(i:Nat)=>PV.int (lo+(i:Int)*st)) where
 stop:=λi Hs H s1 s2 hi=>show n<=i by simpa using hi
 go:=λi Hs H s1 s2 hi=>show i<n by simpa using hi
 uu:=λi Hs H x H2 s1 s2 hi y=>by
  obtain⟨rfl,rfl⟩:=y
  have OY:i<n:=by simpa using hi
  exact⟨.int (lo+(i:Int)*st),Hs,by simp[OY],.refl s2,.int _⟩
theorem yh{ps:List PV}{Q:List PV->Prop}{F:EX->Prop}(h:aw (Ba ps) Q F):∃ i j k,ps=[.int i,.int j,.int k]/\C3 i j k=true/\Q ((List.range (Builtin.Range.rangeSize i j k).toNat).map λ(n:Nat)=>.int (i+n*k)):=by
 unfold Ba at h
 split at h
 ·obtain⟨hc,h⟩:=aw.cC h
  exact⟨_,_,_,rfl,hc,h⟩
 ·exact h.elim
theorem aL.three{p q r:PV}(h:aL H [p,q,r] vs):∃ v u w,vs=[v,u,w]/\Rep H p v/\Rep H q u/\Rep H r w:=by
 cases h with
 | cons h r=>obtain⟨u,w,rfl,h2,h3⟩:=r.two;exact⟨_,_,_,rfl,h,h2,h3⟩
theorem yZ:w9 E (Ei (tL E fs)) (kP Ba fs):=by
 intro σ H R q
 refine cM (K:=KI R) KI.g q λB H₀ Hs H1 env ps v sr rp hp=>?_
 obtain⟨i,j,k,rfl,hc,hp⟩:=yh hp
 obtain⟨w,u,z,rfl,NC,ru,rz⟩:=rp.three
 cases NC
 cases ru
 cases rz
 exact⟨i,j,k,rfl,hc,hp _ Hs H1 (.refl sr.gr.sub) xE⟩
end
def jm:List PV->List PV->List PV->List PV
 | x::xs,y::ys,z::zs=>.tup [x,y,z]::jm xs ys zs
 | _,_,_=>[]
theorem qq:∀ {xs ys zs:List PV} {i:Nat} (h1:i<xs.length) (h2:i<ys.length) (h3:i<zs.length),(jm xs ys zs)[i]?=some (.tup [xs[i],ys[i],zs[i]])
 | x::xs,y::ys,z::zs,0,_,_,_=>rfl
 | x::xs,y::ys,z::zs,i+1,h1,h2,h3=>by
  show (jm xs ys zs)[i]?=_
  exact qq (xs:=xs) (ys:=ys) (zs:=zs) (i:=i) (by simpa using h1) (by simpa using h2) (by simpa using h3)
 | [],_,_,_,h1,_,_=>by simp at h1
 | _::_,[],_,_,_,h2,_=>by simp at h2
 | _::_,_::_,[],_,_,_,h3=>by simp at h3
theorem jP:∀ {xs ys zs:List PV},(jm xs ys zs).length=min xs.length (min ys.length zs.length)
 | x::xs,y::ys,z::zs=>by
  show (jm xs ys zs).length+1=_
  rw[jP]
  simp only[List.length_cons]
  omega
 | [],_,_=>by simp[jm]
 | _::_,[],_=>by simp[jm]
 | _::_,_::_,[]=>by simp[jm]
def xf:List PV->M (List PV)
 | [p,q,r]=>match bX p,bX q,bX r with
  | some xs,some ys,some zs=>M.ok (jm xs ys zs)
  | _,_,_=>none
 | _=>none
section
variable{K:PySem.W.Frag}{fs:ai->M (List PV)}
theorem xO{b1 b2 b3:Bool}{a1 a2 a3:Addr}{ys zs:List PV}{us ws:List V}(MM:∀ Mi H',bf Mp Mi->bf Mi H'->j9 K H' b1 a1 vs)(Ow:aL Mp xs vs)(MG:∀ Mi H',bf Mp Mi->bf Mi H'->j9 K H' b2 a2 us)(Ox:aL Mp ys us)
  (NU:∀ Mi H',bf Mp Mi->bf Mi H'->j9 K H' b3 a3 ws) (PK:aL Mp zs ws):jE (JV K b1 b2 b3 a1 a2 a3) Mp (jm xs ys zs) where
 stop:=λi Hs H s1 s2 hi=>by
  rw[jP,Ow.length,Ox.length,PK.length] at hi
  exact⟨vs,us,ws,MM Hs H s1 s2,MG Hs H s1 s2,NU Hs H s1 s2,by omega⟩
 go:=λi Hs H s1 s2 hi=>by
  rw[jP] at hi
  obtain⟨v,e,_⟩:=Ow.get (List.getElem?_eq_getElem (show i<xs.length by omega))
  obtain⟨u,e',_⟩:=Ox.get (List.getElem?_eq_getElem (show i<ys.length by omega))
  obtain⟨w,e'',_⟩:=PK.get (List.getElem?_eq_getElem (show i<zs.length by omega))
  exact⟨vs,us,ws,v,u,w,MM Hs H s1 s2,MG Hs H s1 s2,NU Hs H s1 s2,e,e',e''⟩
 uu:=λi Hs H x H2 s1 s2 hi y=>by
  rw[jP] at hi
  have l1:i<xs.length:=by omega
  have l2:i<ys.length:=by omega
  have l3:i<zs.length:=by omega
  obtain⟨v,e,r⟩:=Ow.get (List.getElem?_eq_getElem l1)
  obtain⟨u,e',r'⟩:=Ox.get (List.getElem?_eq_getElem l2)
  obtain⟨w,e'',P2⟩:=PK.get (List.getElem?_eq_getElem l3)
  obtain⟨pa,v',u',w',hn,rfl,rfl,y1,y2,y3⟩:=y
  have z1:=y1 vs (MM Hs H s1 s2)
  have z2:=y2 us (MG Hs H s1 s2)
  have z3:=y3 ws (NU Hs H s1 s2)
  rw[e] at z1;cases z1
  rw[e'] at z2;cases z2
  rw[e''] at z3;cases z3
  have gr:=bJ.new (o:=.tup [v,u,w]) s2 hn
  exact⟨_,_,qq l1 l2 l3,gr,.tup az (.cons ((r.mono s1).mono gr.st) (.cons ((r'.mono s1).mono gr.st) (.cons ((P2.mono s1).mono gr.st) .nil)))⟩
theorem xx{ps:List PV}{Q:List PV->Prop}{F:EX->Prop}(h:aw (xf ps) Q F):∃ p q r xs ys zs,ps=[p,q,r]/\bX p=some xs/\bX q=some ys/\bX r=some zs/\Q (jm xs ys zs):=by
 unfold xf at h
 split at h
 ·split at h
  ·exact⟨_,_,_,_,_,_,rfl,by assumption,by assumption,by assumption,h⟩
  ·exact h.elim
 ·exact h.elim
theorem Bv:w9 E (EH K (tL E fs)) (kP xf fs):=by
 intro σ H R q
 refine cM (K:=KI R) KI.g q λB H₀ Hs H1 env ps v sr rp hp=>?_
 obtain⟨p,q,r,xs,ys,zs,rfl,e1,e2,e3,hp⟩:=xx hp
 obtain⟨w,u,z,rfl,NC,ru,rz⟩:=rp.three
 obtain⟨b1,a1,vs,rfl,MM,Ow⟩:=jS (K:=K) sr.gr.sub NC e1
 obtain⟨b2,a2,us,rfl,MG,Ox⟩:=jS (K:=K) sr.gr.sub ru e2
 obtain⟨b3,a3,ws,rfl,NU,PK⟩:=jS (K:=K) sr.gr.sub rz e3
 exact⟨b1,b2,b3,a1,a2,a3,rfl,⟨vs,MM Hs H1 (λ_ _ z=>z) sr.gr.sub⟩,⟨us,MG Hs H1 (λ_ _ z=>z) sr.gr.sub⟩,⟨ws,NU Hs H1 (λ_ _ z=>z) sr.gr.sub⟩,hp _ Hs H1 (.refl sr.gr.sub) (xO MM Ow MG Ox NU PK)⟩
end
def pY(i j k:Nat):PV->ai->M ai
 | .tup [p,q,r],env=>M.ok (((env.set i (some (.sh p))).set j (some (.sh q))).set k (some (.sh r)))
 | _,_=>none
theorem De{E:XK}{K:PySem.W.Frag}:BW E (jy K 3 (bM (aH i) (bM (aH j) (bM (aH k) jG)))) (pY i j k):=by
 intro B H₀ Hs H σ env p v Q Z sr r h
 cases r with
 | @tup a xs vs ha hx =>
  match xs,hx with
  | [p,q,r],hx =>
   obtain⟨v,u,w,rfl,rp,rq,rr⟩:=hx.three
   exact⟨a,[v,u,w],rfl,gx.of (sr.gr.sub _ _ ha),rfl,v,[u,w],rfl,u,[w],rfl,w,[],rfl,rfl,h _ (((sr.set rp).set rq).set rr)⟩
  | [],_=>exact h.elim
  | [_],_=>exact h.elim
  | [_,_],_=>exact h.elim
  | _::_::_::_::_,_=>exact h.elim
 | _=>exact h.elim
theorem vt:mz (pY i j k):=λp env e h n=>by
 unfold pY at h
 split at h
 ·cases h;exact j6 (j6 (j6 n))
 ·cases h
section
variable{E:XK}{pos px:Pos}{fs:ai->M (List PV)}{f h:ai->M PV}
def ownAt(i:Nat)(env:ai):M (List PV):=match env[i]? with
 | some (some (.ow xs))=>M.ok xs
 | _=>none
theorem aw.own{env:ai}{Q:List PV->Prop}{F:EX->Prop}(h:aw (ownAt i env) Q F):∃ xs,env[i]?=some (some (.ow xs))/\Q xs:=by
 unfold ownAt at h
 split at h
 ·exact⟨_,by assumption,h⟩
 ·exact h.elim
end
section
variable{sem:List PV->M (List PV)}{p pos:Pos}{fs:ai->M (List PV)}{g:ai->M PV}
end
mutual
def nO:PV->Bool
 | .cL=>true
 | .bl _=>true
 | .int _=>true
 | .str _=>true
 | .tup xs=>l8 xs
 | _=>false
def l8:List PV->Bool
 | []=>true
 | p::r=>nO p&&l8 r
end
mutual
theorem Rep.away{Hs:Hp}{a:Addr}{ws:List V}(ha:Hs a=some (.lst ws)):∀ {p:PV} {v:V},Rep Hs p v->nO p=true->Rep (rem Hs a) p v
 | _,_,.cL,_=>.cL
 | _,_,.bl b,_=>.bl b
 | _,_,.int b,_=>.int b
 | _,_,.str b,_=>.str b
 | _,_,.tup (a:=c) h r,n=>by
  have nc:c≠a:=λz=>by subst z;rw[ha] at h;cases h
  exact .tup (by unfold rem;rw[if_neg nc];exact h) (r.away ha n)
 | _,_,.lst _ _,n=>by cases n
 | _,_,.jh _ _,n=>by cases n
 | _,_,.obj _ _,n=>by cases n
 | _,_,.vJ _,n=>by cases n
 | _,_,.vK _ _ _,n=>by cases n
theorem aL.away{Hs:Hp}{a:Addr}{ws:List V}(ha:Hs a=some (.lst ws)):∀ {p:List PV} {v:List V},aL Hs p v->l8 p=true->aL (rem Hs a) p v
 | _,_,.nil,_=>.nil
 | _,_,.cons h r,n=>by
  have n':=Bool.and_eq_true_iff.mp (show (nO _&&l8 _)=true from n)
  exact .cons (h.away ha n'.1) (r.away ha n'.2)
end
def BL:M PV->M PV
 | some (.ok p)=>cC (nO p=true) (M.ok p)
 | _=>none
theorem aw.BL{r:M PV}{Q:PV->Prop}{E:EX->Prop}(h:aw (L2.BL r) Q E):aw r (λp=>nO p=true/\Q p) (λ_=>False):=by
 cases r with
 | none=>exact h
 | some r=>cases r with
  | error e=>exact h
  | ok p =>
   obtain⟨n,h⟩:=aw.cC h
   exact⟨n,h⟩
theorem bJ.back{Mi H':Hp}{ws:List V}(h1:Hs a=none)(hH:H a=some (.lst ws))(s:bf Hs H)(g:bJ (upd Hs a (.lst ws)) H Mi H'):bJ Hs H (rem Mi a) H'/\Mi a=some (.lst ws):=by
 have e:Mi a=some (.lst ws):=g.st _ _ az
 refine⟨⟨λc u q=>?_,g.al,λc u q=>?_,λc u q1 q2=>?_⟩,e⟩
 ·have nc:c≠a:=λz=>by subst z;rw[h1] at q;cases q
  unfold rem;rw[if_neg nc]
  exact g.st c u (by rw[ao nc];exact q)
 ·unfold rem at q
  split at q
  ·cases q
  ·exact g.sub c u q
 ·unfold rem
  by_cases nc:c=a
  ·rw[if_pos nc]
  ·rw[if_neg nc]
   exact g.nw c u (by rw[ao nc];exact q1) q2
theorem SR.lend{B:Hp}{env:ai}(r:SR B H₀ Hs H σ env)(e:env[i]?=some (some (.ow xs))):∃ a vs,Hs a=none/\H a=some (.lst vs)/\SR B H₀ (upd Hs a (.lst vs)) H σ (oQ i env):=by
 obtain⟨a,vs,h1,h2,h3,h4,h5⟩:=r.ow i xs e
 refine⟨a,vs,h3,h2,?_⟩
 have ne:∀ c u,Hs c=some u->c≠a:=λc u q z=>by rw[z,h3] at q;cases q
 have Mv:bf Hs (upd Hs a (.lst vs)):=λc u q=>by rw[ao (ne c u q)];exact q
 unfold oQ
 rw[e]
 refine⟨⟨λc u q=>Mv c u (r.gr.st c u q),r.gr.al,λc u q=>?_,λc u q1 q2=>?_⟩,by rw[List.length_set];exact r.len,λj q ej=>?_,λj ys ej=>?_,λj k ys zs b nj e1 e2 e3 e4=>?_,λj ba C fs ej=>?_,λj k _ _ C D fs gs e1 e2=>?_⟩
 ·by_cases z:c=a
  ·subst z;rw[az] at q;cases q;exact h2
  ·rw[ao z] at q;exact r.gr.sub c u q
 ·have z:c≠a:=λz=>by rw[z,h4] at q2;cases q2
  rw[ao z];exact r.gr.nw c u q1 q2
 ·rw[List.getElem?_set] at ej
  by_cases z:i=j
  ·subst z
   rw[if_pos rfl] at ej
   split at ej
   ·cases ej
    exact⟨.ref a,h1,.lst az (h5.mono Mv)⟩
   ·cases ej
  ·rw[if_neg z] at ej
   obtain⟨v,q1,q2⟩:=r.sh j q ej
   exact⟨v,q1,q2.mono Mv⟩
 ·rw[List.getElem?_set] at ej
  by_cases z:i=j
  ·subst z
   rw[if_pos rfl] at ej
   split at ej <;> cases ej
  ·rw[if_neg z] at ej
   obtain⟨b,us,q1,q2,q3,q4,q5⟩:=r.ow j ys ej
   have nb:b≠a:=λw=>by subst w;exact r.sep i j xs ys b z e ej h1 q1
   exact⟨b,us,q1,q2,by rw[ao nb];exact q3,q4,q5.mono Mv⟩
 ·rw[List.getElem?_set] at e1 e2
  by_cases z:i=j
  ·subst z
   rw[if_pos rfl] at e1
   split at e1 <;> cases e1
  ·by_cases z2:i=k
   ·subst z2
    rw[if_pos rfl] at e2
    split at e2 <;> cases e2
   ·rw[if_neg z] at e1
    rw[if_neg z2] at e2
    exact r.sep j k ys zs b nj e1 e2 e3 e4
 ·rw[List.getElem?_set] at ej
  by_cases z:i=j
  ·subst z
   rw[if_pos rfl] at ej
   split at ej <;> cases ej
  ·rw[if_neg z] at ej
   obtain⟨dx,us,q1,q2,q3,q4,q5⟩:=r.bd j ba C fs ej
   have nb:ba≠a:=λw=>by subst w;rw[h2] at q2;cases q2
   exact⟨dx,us,q1,q2,by rw[ao nb];exact q3,q4,q5.mono Mv⟩
 ·rw[List.getElem?_set] at e1 e2
  by_cases z:i=j
  ·subst z
   rw[if_pos rfl] at e1
   split at e1 <;> cases e1
  ·by_cases z2:i=k
   ·subst z2
    rw[if_pos rfl] at e2
    split at e2 <;> cases e2
   ·rw[if_neg z] at e1
    rw[if_neg z2] at e2
    exact r.one j k _ _ C D fs gs e1 e2
def lE(i:Nat)(f:ai->M PV):ai->M PV:=λenv=>(ownAt i env).bind λ_=>BL (f (oQ i env))
section
variable{f:ai->M PV}{u:ai->M Bool}
theorem m_(i:Nat)(he:PE X e (tE E f)):PE X e (tE E (lE i f)):=he.imp fun σ H Q q=>by
 obtain⟨B,H₀,Hs,env,sr,q⟩:=q
 obtain⟨xs,ex,q⟩:=aw.own (aw.bind q)
 obtain⟨a,vs,h3,h2,MN⟩:=sr.lend ex
 refine⟨B,H₀,_,_,MN,(aw.BL q).imp (λp hp v Mi H' g r=>?_) λ_ z=>z.elim⟩
 obtain⟨g2,ea⟩:=bJ.back h3 h2 sr.gr.sub g
 exact hp.2 v _ _ g2 (r.away ea hp.1)
end
def cS:PV->PV->M PV:=vB (λ_ j=>decide (j≠0/\j.natAbs.log2<9000)) λi j=>i.fdiv j
def c7:PV->PV->M PV:=vB (λ_ j=>decide (j≠0)) λi j=>i.fmod j
def pN:PV->PV->M PV:=vB (λi j=>decide (0<=j/\j<=1000000/\i.natAbs<2^64)) λi j=>i^j.toNat
def BS:PV->PV->M PV:=AK λi j=>decide (i<j)
def BU:PV->PV->M PV:=AK λi j=>decide (i<=j)
def Dv:PV->PV->M PV:=AK λi j=>decide (j<i)
def Hw:PV->PV->M PV:=AK λi j=>decide (j<=i)
theorem Am:k_ E (rI zc λi j=>.int (i.fdiv j)) cS:=DA
theorem Dx:k_ E (rI (λ_ j=>j≠0) λi j=>.int (i.fmod j)) c7:=Ff
theorem C2:k_ E (rI GI λi j=>.int (i^j.toNat)) pN:=Fe
theorem sE:k_ E (u4 λi j=>.bl (decide (i<j))) BS:=qQ
theorem lZ:k_ E (u4 λi j=>.bl (decide (i<=j))) BU:=qQ
theorem Bw:k_ E (u4 λi j=>.bl (decide (j<i))) Dv:=qQ
theorem Ad:k_ E (u4 λi j=>.bl (decide (j<=i))) Hw:=qQ
def bg(n:Nat)(s:List PV->M PV):List PV->M PV:=λps=>cC (ps.length=n) (s ps)
theorem lJ{s:List PV->M PV}{ps:List PV}(h:bg n s ps≠none):ps.length=n:=by
 unfold bg cC at h
 split at h
 ·assumption
 ·exact(h rfl).elim
theorem vY{s:List PV->M PV}{ps:List PV}(h:ps.length=n):bg n s ps=s ps:=by
 unfold bg cC
 rw[if_pos h]
variable{dv:Value}
section
variable{K:PySem.W.Frag}
theorem BO{s:List PV->M PV}(F:aW P w K mg base (bY P w) k f fd ps (dJ n s)):aW P w K mg base (bY P w) k f fd ps (dJ n (bg n s)) where
 len:=λvs H Q E h=>by
  obtain⟨h0,Hs,qs,sm,r,h⟩:=h
  exact F.len vs H Q E ⟨h0,Hs,qs,sm,r,(aw.cC h).2⟩
 run:=λA outer s H args us vs Q E hr e hb rv h=>by
  obtain⟨h0,Hs,qs,sm,r,h⟩:=h
  exact F.run A outer s H args us vs Q E hr e hb rv ⟨h0,Hs,qs,sm,r,(aw.cC h).2⟩
structure dm (P:Program) (w:World) (K:PySem.W.Frag) (mg:Str->Option Value) (base:Heap) (n:Nat) (x:Str) (m:Nat) (sem:List PV->M PV):Prop where
 ex:∃ (f:Addr) (fd:FuncData) (ps:List Str),mg x=some (.ref f)/\PySem.W.keepIn K (.ref f)=true/\ps.length=m/\Binds K fd ps []/\aW P w K mg base (bY P w) n f fd ps (dJ m (bg m sem))
theorem bo.LP{st:Stmt}{g:ai->M Out}(F:bo K x qual st dv f fd)(S:b_ N ps (aM st))
  (hb:∀ (Mr:Value) (A:Around) (outer:List Env) (s:Shared) (H:Hp) (E:XK),bP k (A.deeper (envOfC qual (aM st) s.heap.objs.size f Mr))->dz ((kb (bY P w) P w K mg base N qual (aM st) f Mr A outer s H E).out λ_=>E) (λ_=>E)->kc ((kb (bY P w) P w K mg base N qual (aM st) f Mr A outer s H E).out λ_=>E) (dw st) (tS E g)) :
  aW P w K mg base (bY P w) (k+1) f fd ps (dJ ps.length (bg ps.length (aB N.length g))):=by
 obtain⟨oc,od,kV,doc,pm,an,Mr,ct,Od,rfl,lk,Nc⟩:=F.ex
 exact BO (E3 lk Nc S λA outer s H E hr=>hb Mr A outer s H E hr (wO rfl rfl))
end
section
variable{m:Nat}{sem:List PV->M PV}{fs:ai->M (List PV)}{p pos:Pos}
theorem dm.call(F:dm X.prog X.w X.K X.mg X.base n x m sem)(hr:bP k X.A)(hn:n<=k)(hg:Gl X x)(O:dz X E)(ha:PA X (e::es) (tL E fs))(MP:autoParam ((x==("__debug__" : Str))=false) aD._auto_1)(he:autoParam (starEach (e::es) X.env=(false,eval e X.env)::starEach es X.env) aR._auto_1)(Mt:autoParam ((backTo pos (starEach es X.env)).any (·.1)=false) aR._auto_1) :
  PE X (.Call (.Name x p) (e::es) [] pos) (tE E (aj (bg m sem) fs)):=by
 obtain⟨f,fd,ps,h1,h2,h3,h4,h5⟩:=F.ex
 have:=C7 (p:=p) (NA:=[]) h5 (hr.mono hn) hg h1 h2 h4 .nil (λ_=>.nil) O (λNn hp=>by rw[List.append_nil] at hp;exact lJ hp) ha MP he Mt
 refine this.imp fun σ H Q q=>?_
 have e:(λps=>bg m sem (ps++[]))=bg m sem:=by funext ps;rw[List.append_nil]
 rw[e];exact q
structure rX (P:Program) (w:World) (K:PySem.W.Frag) (mg:Str->Option Value) (base:Heap) (C:Addr) (n:Nat) (x:Str) (m:Nat) (sem:List PV->M PV):Prop where
 ex:∃ (f:Addr) (fd:FuncData) (ps:List Str),lK K C/\Meth K C x f/\Binds K fd ps []/\aW P w K mg base (bY P w) n f fd ps (dJ m (bg m sem))
theorem rX.call{g:ai->M PV}(F:rX X.prog X.w X.K X.mg X.base C n x m sem)(hr:bP k X.A)(hn:n<=k)(O:dz X E)(ho:PE X o (tE E g))(ha:PA X (e::es) (tL E fs))
  (Mv:autoParam (starEach (e::es) X.env=(false,eval e X.env)::starEach es X.env) aR._auto_1) (Mt:autoParam ((backTo pos (starEach es X.env)).any (·.1)=false) aR._auto_1)
  (ht:autoParam (eval (.Call (.Attribute o x apos) (e::es) [] pos) X.env=(do
   let ov ← eval o X.env
   standAt apos.atName
   let (f,first) ← holding [ov] (getMethod ov x pl)
   callWith pos f first (backTo pos (starEach (e::es) X.env)) (backToKw pos (keywordEach [] X.env)))) aR._auto_1) :
  PE X (.Call (.Attribute o x apos) (e::es) [] pos) (tE E (cN C x (bg m sem) g fs)):=by
 obtain⟨f,fd,ps,h1,h2,h3,h4⟩:=F.ex
 exact BZ ho h1 h2 h4 (hr.mono hn) h3 O (λNn hp=>lJ hp) ha Mv Mt ht
theorem rX.HN{g:ai->M PV}(F:rX X.prog X.w X.K X.mg X.base C n x m sem)(hr:bP k X.A)(hn:n<=k)(O:dz X E)(ho:PE X o (tE E g))
  (ht:autoParam (eval (.Call (.Attribute o x apos) [] [] pos) X.env=(do
   let ov ← eval o X.env
   standAt apos.atName
   let (f,first) ← holding [ov] (getMethod ov x pl)
   callWith pos f first (backTo pos (starEach [] X.env)) (backToKw pos (keywordEach [] X.env)))) aR._auto_1) :
  PE X (.Call (.Attribute o x apos) [] [] pos) (tE E (cN C x (bg m sem) g aq)):=by
 obtain⟨f,fd,ps,h1,h2,h3,h4⟩:=F.ex
 exact Bt ho h1 h2 h4 (hr.mono hn) h3 O (λNn hp=>lJ hp) ht
end
structure GF (P:Program) (w:World) (K:PySem.W.Frag) (mg:Str->Option Value) (base:Heap) (C:Addr) (n:Nat) (x:Str) (m:Nat) (NA:List PV) (sem:Addr->List PV->M (List (Str×PV))):Prop where
 ex:∃ (f:Addr) (fd:FuncData) (ps:List Str) (ds:List Value) (MR:List V),mg x=some (.ref C)/\Mk K C f/\Binds K fd ps ds/\Vals MR ds/\(∀ H,aL H NA MR)/\aW P w K mg base (bY P w) n f fd ps (EE m C sem)
def qJ(m:Nat)(sem:Addr->List PV->M (List (Str×PV))):Addr->List PV->M (List (Str×PV)):=λa ps=>cC (ps.length+1=m) (sem a ps)
theorem xv{K:PySem.W.Frag}{s:Addr->List PV->M (List (Str×PV))}(F:aW P w K mg base (bY P w) k f fd ps (EE n C s)):aW P w K mg base (bY P w) k f fd ps (EE n C (qJ n s)) where
 len:=λvs H Q E h=>by
  obtain⟨h0,a,dx,us,Hs,H1,qs,e1,e2,e3,e4,e5,sm,r,h⟩:=h
  exact F.len vs H Q E ⟨h0,a,dx,us,Hs,H1,qs,e1,e2,e3,e4,e5,sm,r,(aw.cC h).2⟩
 run:=λA outer s H args us vs Q E hr e hb rv h=>by
  obtain⟨h0,a,dx,us',Hs,H1,qs,e1,e2,e3,e4,e5,sm,r,h⟩:=h
  exact F.run A outer s H args us vs Q E hr e hb rv ⟨h0,a,dx,us',Hs,H1,qs,e1,e2,e3,e4,e5,sm,r,(aw.cC h).2⟩
theorem bo.Lu{K:PySem.W.Frag}{st:Stmt}{g:ai->M Out}(F:bo K x qual st dv f fd)(S:b_ N ps (aM st))(hN:0<N.length)
  (hb:∀ (Mr:Value) (A:Around) (outer:List Env) (s:Shared) (H:Hp) (E:XK),bP k (A.deeper (envOfC qual (aM st) s.heap.objs.size f Mr))->dz ((kb (bY P w) P w K mg base N qual (aM st) f Mr A outer s H E).out λ_=>E) (λ_=>E)->kc ((kb (bY P w) P w K mg base N qual (aM st) f Mr A outer s H E).out λ_=>E) (dw st) (tS E g)) :
  aW P w K mg base (bY P w) (k+1) f fd ps (EE ps.length C (qJ ps.length (w5 N.length g C))):=by
 obtain⟨oc,od,kV,doc,pm,an,Mr,ct,Od,rfl,lk,Nc⟩:=F.ex
 exact xv <| DV lk Nc S hN λA outer s H E hr=>hb Mr A outer s H E hr (wO rfl rfl)
section
variable{m:Nat}{fs:ai->M (List PV)}{p pos:Pos}
theorem GF.make{sem:Addr->List PV->M (List (Str×PV))}(F:GF X.prog X.w X.K X.mg X.base C n x m NA (qJ m sem))(hr:bP k X.A)(hn:n+1<=k)(hg:Gl X x)(O:dz X E)(ha:PA X (e::es) (tL E fs))(MP:autoParam ((x==("__debug__" : Str))=false) aD._auto_1)(he:autoParam (starEach (e::es) X.env=(false,eval e X.env)::starEach es X.env) aR._auto_1)(Mt:autoParam ((backTo pos (starEach es X.env)).any (·.1)=false) aR._auto_1) :
  PE X (.Call (.Name x p) (e::es) [] pos) (tE E (aj (jz C (qJ m sem) NA) fs)):=by
 obtain⟨f,fd,ps,ds,MR,h1,h2,h4,h5,h6,h7⟩:=F.ex
 refine Ca (p:=p) h2 h7 (hr.mono hn) hg h1 h4 h5 h6 O (λa Nn hp=>?_) ha MP he Mt
 unfold qJ cC at hp
 split at hp
 ·rename_i h;rwa [List.length_append] at h
 ·exact(hp rfl).elim
end
def kT:Addr->Option Bool:=λ_=>none
theorem je{P:Addr->Bool->Prop}:∀ C b,kT C=some b->P C b:=λ_ _ h=>by cases h
theorem vr{pos:Pos}(i:Nat)(hN:autoParam (X.N[i]?=some x) aR._auto_1)(hv:CC X.env.scope x:=by first | exact .inl rfl | exact .inr (.inl rfl) | exact .inr (.inr rfl))(hd:autoParam ((x==("__debug__" : Str))=false) aD._auto_1)(Nc:autoParam ((x==("__classdict__" : Str))=false) aD._auto_1):PE X (.Name x pos) (tE E (af i)):=F5 hN hv hd Nc
theorem Es{env:Env}(h:(match e with | .Starred ..=>true | _=>false)=false):starEach (e::es) env=(false,eval e env)::starEach es env:=by
 cases e <;> first | rfl | cases h
def j3:List Expr->Option (List Int)
 | []=>some []
 | .Constant (.int i) _ _::r=>(j3 r).map (i::·)
 | _=>none
section
variable{pos:Pos}
theorem wB:∀ {es:List Expr} {ns:List Int},j3 es=some ns->PA X es (tL E λ_=>M.ok (ns.map PV.int))
 | [],_,h=>by cases h;exact AY
 | .Constant (.int i) j p::r,ns,h=>by
  obtain⟨ms,h1,rfl⟩:=Option.map_eq_some_iff.mp (show (j3 r).map (i::·)=some ns from h)
  exact wG zp (wB h1) (Es rfl)
theorem wx(ns:List Int)(h:autoParam (j3 es=some ns) aR._auto_1)(hz:autoParam (ns.length<=1000) aD._auto_1):PE X (.List es pos) (tE E λ_=>M.ok (.lst (ns.map PV.int))):=by
 refine(A6 (E:=E) (wB h)).imp fun σ H Q q=>?_
 have e:(mJ λ_=>M.ok (ns.map PV.int))=λ_=>M.ok (.lst (ns.map PV.int)):=by
  funext env
  show cC _ _=_
  unfold cC
  rw[if_pos (by rw[List.length_map];exact Nat.le_trans hz (by decide))]
 rw[e];exact q
end
section
variable{a b:Expr}{pos:Pos}{f g:ai->M PV}
end
structure xr (K:PySem.W.Frag) (mg:Str->Option Value) (C:Addr) (x:Str):Prop where
 hc:PySem.W.excIn K C eQ "ValueError.__new__" = true
 c:fq K C
 ht:PySem.W.typeIn K (.ref C)=some (.type "type")
 kp:PySem.W.keepIn K (.ref C)=true
 m:mg x=some (.ref C)
structure qH (P:Program) (w:World) (K:PySem.W.Frag) (mg:Str->Option Value) (base:Heap) (C:Addr) (x fl:Str):Prop where
 ex:∃ (f:Addr) (fd:FuncData) (ps:List Str),om K C "ValueError.__new__" f=true/\PySem.W.isFn K (.ref f)=true/\aW P w K mg base (bY P w) 1 f fd ps (xU K C fl)/\Binds K fd ps []
 c:fq K C
 ht:PySem.W.typeIn K (.ref C)=some (.type "type")
 kp:PySem.W.keepIn K (.ref C)=true
 m:mg x=some (.ref C)
section
variable{E:XK}{pos p:Pos}{fl:Str}{fs:ai->M (List PV)}
theorem xr.raise(F:xr X.K X.mg C x)(O:dz X λ_=>E)(Mn:X.calm=true)(hg:Gl X x)(ha:PA X (e::es) (tL (λ_=>E) fs))
  (MP:autoParam ((x==("__debug__" : Str))=false) aD._auto_1) (he:autoParam (starEach (e::es) X.env=(false,eval e X.env)::starEach es X.env) aR._auto_1) (Mt:autoParam ((backTo Mw (starEach es X.env)).any (·.1)=false) aR._auto_1) :
  PS X (.Raise (some (.Call (.Name x p) (e::es) [] Mw)) none pos) (tS E (jw C fs)):=xK O Mn F.hc F.c F.ht F.kp hg F.m ha MP he Mt
theorem qH.raise(F:qH X.prog X.w X.K X.mg X.base C x fl)(hr:bP k X.A)(hn:2<=k)(O:dz X λ_=>E)(Mn:X.calm=true)(hg:Gl X x)(ha:PA X [e] (tL (λ_=>E) fs))
  (MP:autoParam ((x==("__debug__" : Str))=false) aD._auto_1) (he:autoParam (starEach [e] X.env=(false,eval e X.env)::starEach [] X.env) aR._auto_1) (Mt:autoParam ((backTo Mw (starEach [] X.env)).any (·.1)=false) aR._auto_1) :
  PS X (.Raise (some (.Call (.Name x p) [e] [] Mw)) none pos) (tS E (ju C fl fs)):=by
 obtain⟨f,fd,ps,h1,h2,h3,h4⟩:=F.ex
 exact yw O Mn h1 h2 F.c F.ht F.kp h3 (hr.mono hn) h4 hg F.m ha MP he Mt
end
section
variable{pos:Pos}
end
section
variable{cl:List (Str×Addr)}{pos:Pos}{wi:TI}{it:ai->M (List PV)}{g:TG}{set:PV->ai->M ai}{f:ai->M PV}{fs:List Str}
variable{E:XK}{py NX:Pos}
theorem rg(Mn:X.calm=true)
  (My:closureFor scope X.env=pure cl) (hk:scope.kind=.function) (nc:fI scope.names=true) (lo:gR scope.names=true) (fh:gK cl scope.names=true) (ag:eo X cl) (fr:iy X scope cl fs js)
  (hi:PI X tg iter wi) (hv:w9 (λ_=>E) wi it) (hg:∀ C s₀ H₀ ex Me,PG (pf X scope cl (ts++fs) C s₀ H₀ ex Me) tg g) (OG:∀ E,BW E g set) (so:mz set) (he:∀ C s₀ H₀ ex Me,PE (pf X scope cl (ts++fs) C s₀ H₀ ex Me) elt (tE EF f))
  (hN:X.N.Nodup) (hiy:X.N[i]?=some y) (hy:Loc X.env.scope y)
  (hs:autoParam (∀ x,foldedSetIterable iter X.env x=pure x) aI._auto_1) (PN:autoParam (swapsWith (.ListComp elt [⟨tg,iter,[],0⟩] scope pos) (some (.Name y py)) NX.line X.env=pure true) aR._auto_1)
  (hf:autoParam (X.fn y=true\/X.env.scope.names.lookup y=some .local) aF._auto_1) :
  PS X (.Assign [.Name y py] (.ListComp elt [⟨tg,iter,[],0⟩] scope pos) NX) (tS E (bw i (dE (cY it set none f ts.length js)))):=by
 refine(CH hN hiy hy Mn My hk nc lo fh ag fr hi hg he hs PN hf).imp λD σ H q=>?_
 refine tH hv OG so ?_
 obtain⟨B,H₀,Hs,env,sr,q⟩:=q
 refine⟨B,H₀,Hs,env,sr,(aw.bind (aw.bind q)).imp (λps hp vs p Mi H' g r n=>?_) λe he=>he.grow sr.gr⟩
 have gn:=bJ.new (o:=.lst vs) g.sub n
 exact hp _ _ _ ((sr.grow (g.trans gn)).set (.lst az (r.mono gn.st)))
end
section
variable{a:Expr}{ta:TA}{p pos:Pos}
end
section
variable{fs:ai->M (List PV)}{a:Expr}{p p2 pos pos2:Pos}
end
section
open AutoSeq1 (wpAny_loadPart')
theorem yk(l:Addr)(items:Array Value)(n:Nat)(dct:Option Addr)(sl:Array (Option Value)) :
  Meets (Builtin.«enumerate.__new__» ⟨[.type "enumerate", .ref l],[]⟩) (λ_ R s=>s.heap.get? l=some { cls:=.type "tuple", dict:=dct,data:=.seq items n,slots:=sl } ∧
   R (.ok (.ret (.ref (s.heap.push { cls:=.type "tuple_iterator", data:=.fields #[.ref l,.int 0 0] }).objs.size)))
    { s with heap:=(s.heap.push { cls:=.type "tuple_iterator", data:=.fields #[.ref l,.int 0 0] }).push { cls:=.type "enumerate", data:=.fields #[.none,.bool false,.ref s.heap.objs.size,rawInt 0,.none,.none] } }) :=
 .of_wp λprog w A R s h=>by
  obtain⟨hp,g,d,tk,os⟩:=s;obtain⟨hl,h⟩:=h
  have PM:=sub_enumerate
  have hL:Heap.IsTuple (Shared.heap ⟨hp,g,d,tk,os⟩) l items:=⟨_,hl,rfl,n,rfl⟩
  wp_walk using wpAny_loadPart' hl
  refine wpAny_stack_any λst=>wpAny_pure ?_
  split
  ·rename_i c _ _ _ _ _
   cases (c==Value.type "enumerate")
   ·wp_walk using wpAny_loadPart' hl,wpAny_pyIter_tuple hL
    exact⟨_,rfl,h⟩
   ·wp_walk using wpAny_loadPart' hl,wpAny_pyIter_tuple hL
    exact⟨_,rfl,h⟩
  ·wp_walk using wpAny_loadPart' hl,wpAny_pyIter_tuple hL
   exact⟨_,rfl,h⟩
section
variable{E:Value->Shared->Prop}
theorem vO(hL:s.heap.IsTuple l items)
  (h:∀ h',IsEnum h' (s.heap.objs.size+1) s.heap.objs.size 0 .none->h'.IsTupleIter s.heap.objs.size l 0->h'.objs.size=s.heap.objs.size+2 ->
   (∀ b o,s.heap.get? b=some o->h'.get? b=some o)->Q (.ref (s.heap.objs.size+1)) { s with heap:=h' }) :
  wpAny (model prog w) A (call (.type "enumerate") [.ref l]) Q E s:=by
 obtain⟨⟨c,dct,dt,sl⟩,hl,hc,n,hd⟩:=hL
 replace hc:c=.type "tuple" := hc
 replace hd:dt=.seq items n:=hd
 subst hc hd
 refine callType_new F.called_enumerate (by decide) (F.typeCall_enumerate_1 _) (F.newCall_enumerate_1 _) (λobj=>F.args_object_init_2 obj _) F.entry_enumerate_new
  (yk l items n dct sl) ⟨hl,?_⟩
 have hz:(s.heap.push { cls:=.type "tuple_iterator", data:=.fields #[.ref l,.int 0 0] }).objs.size=s.heap.objs.size+1:=Heap.size_push ..
 show _/\_
 rw[hz]
 have he:IsEnum ((s.heap.push { cls:=.type "tuple_iterator", data:=.fields #[.ref l,.int 0 0] }).push
   { cls:=.type "enumerate", data:=.fields #[.none,.bool false,.ref s.heap.objs.size,rawInt 0,.none,.none] }) (s.heap.objs.size+1) s.heap.objs.size 0 .none:=by
  have:=Heap.get?_push_size (s.heap.push { cls:=.type "tuple_iterator", data:=.fields #[.ref l,.int 0 0] })
   (o:={ cls:=.type "enumerate", data:=.fields #[.none,.bool false,.ref s.heap.objs.size,rawInt 0,.none,.none] }) rfl
  rw[hz] at this;exact this
 refine⟨⟨_,he,rfl⟩,h _ he ⟨_,Heap.get?_push_of_some _ (Heap.get?_push_size _ rfl),rfl,rfl⟩ (by rw[Heap.size_push,hz]) λb o x=>Heap.get?_push_of_some _ (Heap.get?_push_of_some _ x)⟩
end
theorem Hi(hh:A.handled=none)(it t:Addr)(items:Array Value) :
  Draws prog w A it [it,t] items.size (λi v=>items[i]?=some v) (λi h=>h.IsTupleIter it t i/\h.IsTuple t items) where
 live:=λ_ _ st=>let ⟨⟨o,ho,_⟩,_⟩:=st;⟨o,ho⟩
 frame:=λ_ _ _ st hk=>by
  obtain⟨⟨o,ho,r⟩,⟨o2,Oa,r2⟩⟩:=st
  exact⟨⟨o,hk it (by simp) o ho,r⟩,⟨o2,hk t (by simp) o2 Oa,r2⟩⟩
 item:=λi s Q E hi st hQ=>by
  obtain⟨st,tt⟩:=st
  refine gF st tt (x:=items[i]) (by simp[hi]) λh' O5 O_=>?_
  refine hQ _ h' s.toks (by simp[hi]) ⟨O5,?_⟩ O_
  obtain⟨o,ho,c1,_⟩:=st
  obtain⟨o2,Oa,c2,r2⟩:=tt
  refine⟨o2,(O_.2 t λz=>?_).trans Oa,c2,r2⟩
  rw[z,ho] at Oa;cases Oa
  rw[c1] at c2;exact absurd c2 (by decide)
 done:=λs Q E st hE=>eR hh st.1 st.2 (by simp) hE
def GU (K : PySem.W.Frag) (a : Addr) : It :=
  ⟨λi H => ∃ xs x, gx K H a xs /\ xs[i]? = some x,
   λi H y H' => ∃ p x, H p = none /\ y = .ref p /\ H' = upd H p (.tup [.int i, x]) /\ ∀ xs, gx K H a xs -> xs[i]? = some x,
   λi H => ∃ xs, gx K H a xs /\ xs.length <= i⟩
theorem vv{K:PySem.W.Frag}{tp:Pos}(a e it:Addr)(Ob:e≠it):Turn P w K (.Tuple elts x1 tp) (GU K a) [e,it] e (λi h=>(∃ old,IsEnum h e it i old)/\h.IsTupleIter it a i) where
 mem:=by simp
 obj:=λi h st b hb=>by
  obtain⟨⟨old,he⟩,⟨o,e1,c,d⟩⟩:=st
  rcases List.mem_cons.mp hb with z | z
  ·subst z
   exact⟨_,he,λv z=>by cases z⟩
  ·have z':b=it:=by simpa using z
   subst z'
   exact⟨o,e1,λv z=>by rw[d] at z;cases z⟩
 keep:=λi h h' st k=>by
  obtain⟨⟨old,he⟩,⟨o,ho,r⟩⟩:=st
  exact⟨⟨old,k e (by simp) _ he⟩,⟨o,k it (by simp) o ho,r⟩⟩
 item:=by
  intro X hP hw hK hc i Me s σ H E I hf st hg
  subst hP hw hK
  obtain⟨xs,x,hq,hx⟩:=hg
  obtain⟨Mg,rv,p,hz⟩:=I.tuple hq
  obtain⟨u,hu,ru⟩:=rv.get hx
  obtain⟨⟨old,he⟩,hit⟩:=st
  have Oo:e<s.heap.objs.size:=Heap.lt_size he
  have O4:it<s.heap.objs.size:=by obtain⟨_,z,_⟩:=hit;exact Heap.lt_size z
  have hea:e ∉ [it,a]:=λz=>by
   rcases List.mem_cons.mp z with z | z
   ·exact Ob z
   ·obtain⟨o,ho,c,_⟩:=p
    rw[← List.mem_singleton.mp z,he] at ho
    cases ho;exact absurd (show Value.type "enumerate" = Value.type "tuple" from c) (by decide)
  have OY:i<Mg.toArray.size:=by
   have:=(List.getElem?_eq_some_iff.mp hu).1
   simpa using this
  refine wpAny_pyNext_enum_itemD (Hi (A:=X.A.in1) (I.ok.hd hc) it a Mg.toArray) he ⟨hit,p⟩ OY Ob hea λu' h' tk hu' ho Mv hT hsz hk=>⟨_,rfl,?_⟩
  have eu:u'=u:=by
   rw[List.getElem?_toArray,hu] at hu';exact(Option.some.inj hu').symm
  subst eu
  refine wpAny_letOwnedTupleGo_enum (s:={ s with heap:=h',toks:=tk+1 }) ho λh2 he2 Nm=>?_
  have OA:∀ b o,b ∉ [e,it]->s.heap.get? b=some o->h2.get? b=some o:=λb o hb q=>by
   have n1:b≠e:=λz=>hb (by simp[z])
   have n2:b≠it:=λz=>hb (by simp[z])
   exact(Nm.2 b n1).trans (hk b o n1 n2 q)
  have OI:h2.get? s.heap.objs.size=some { cls:=.type "tuple", data:=.seq #[.int i tk,u'] }:=(Nm.2 _ (Nat.ne_of_gt Oo)).trans hT
  have I2:Inv X Me σ (upd H s.heap.objs.size (.tup [.int i,x])) { s with heap:=h2,toks:=tk+1 } :=
   I.j5 (ch:=[e,it]) OA hf (Nat.le_refl _) (λb hb=>by
    rcases List.mem_cons.mp hb with z | z
    ·subst z;exact⟨_,he⟩
    ·have z':b=it:=by simpa using z
     subst z'
     obtain⟨o,z,_⟩:=hit
     exact⟨o,z⟩)
    ⟨by show 2<=sizeLine;decide,[.int i tk,u'],.cons ⟨_,rfl⟩ (.cons ru .nil),⟨_,OI,rfl,_,rfl⟩⟩
  have Nl:H s.heap.objs.size=none:=I.bu.fresh (Nat.le_refl _)
  obtain⟨oi,hoi,ri⟩:=Mv.1
  refine⟨.ref s.heap.objs.size,_,I2,rfl,⟨_,x,Nl,rfl,rfl,λys hy=>by rw[I.lU hy hq];exact hx⟩,⟨⟨u',by simpa using he2⟩,⟨oi,(Nm.2 it (Ne.symm Ob)).trans hoi,ri⟩⟩,λb hb=>?_⟩
  have nb:b≠s.heap.objs.size:=by
   rcases List.mem_cons.mp hb with z | z
   ·rw[z];exact Nat.ne_of_lt Oo
   ·have z':b=it:=by simpa using z
    rw[z'];exact Nat.ne_of_lt O4
  rw[ao nb]
  exact(hf b hb).1
 done:=by
  intro X hP hw hK hc i Me s σ H E I hf st hg
  subst hP hw hK
  obtain⟨xs,hq,hx⟩:=hg
  obtain⟨Mg,rv,p,hz⟩:=I.tuple hq
  have hl:=rv.length
  obtain⟨⟨old,he⟩,hit⟩:=st
  obtain⟨f0,f1,f2,f3,f4,f5⟩:=hf it (by simp)
  have hT:s.TypeIs (.ref e) "enumerate" := ⟨_,he,rfl⟩
  unfold pyNext
  refine wpAny_bind (wpAny_attempt (wpAny_callSpecial?_slot (name:=Str.ofString "__next__") hT F.slot_enumerate_next
   (wpAny_call_entry F.slot_enumerate_next hT F.entry_enumerate_next ?_ (F.args_enumerate_next_1 _))))
  show wpAny _ _ (field (.ref e) 2 >>= _) _ _ _
  refine wpAny_bind (wpAny_field he rfl (x:=.ref it) rfl ?_)
  refine wpAny_bind (eR (I.ok.hd hc) hit p (by simp;omega) λh' x he' hx'=>?_)
  obtain⟨o,ho,OK⟩:=hx'
  refine wpAny_bind (wpAny_isInstance (T := "StopIteration") (b:=true) ⟨o,ho,OK⟩ isSubtype_stop ?_)
  exact wpAny_pure ⟨rfl,I.turned (t':=s.toks) (λb o hb e=>he' b o hb e) f0 f1 f3 f4 f5⟩
 self:=λ_ _ _ _ _ st h=>by
  obtain⟨⟨old,he⟩,_⟩:=st
  exact wpAny_pyIter_enum he h
def Je(K:PySem.W.Frag)(tl:TA):TI:=fun σ H R=>tl σ H λvs H1=>∃ a,vs=[.ref a]/\(((∃ xs,eI K H1 a xs)/\R (E1 K a) H1)\/((∃ xs,gx K H1 a xs)/\R (GU K a) H1))
theorem o7{tp:Pos}{l:Expr}{p pos:Pos}(hg:Gl X "enumerate")(hm:X.mg "enumerate" = none)(hl:PA X [l] tl)(hs:autoParam (starEach [l] X.env=[(false,eval l X.env)]) aR._auto_1) :
  PI X (.Tuple elts x1 tp) (.Call (.Name "enumerate" p) [l] [] pos) (Je X.K tl):=by
 intro Me s σ H R I h
 refine Call_ (i4 I hg hm PyProof.Rows.boot_enumerate (PyProof.Rows.callWith_type1 (bT (hl pos Me s σ H _ I h) λus s1 ⟨vs,H1,I1,r1,q1⟩=>?_) hs rfl))
 obtain⟨a,e,q⟩:=q1
 subst e
 cases r1 with
 | cons r rr =>
  cases rr
  cases (show _=Value.ref a from r)
  have fp:∀ b∈[s1.heap.objs.size+1,s1.heap.objs.size],k6 X Me H1 b:=λb hb=>by
   rcases List.mem_cons.mp hb with z | z
   ·subst z
    exact I1.pQ (Nat.le_succ _) (I1.bu.fresh (Nat.le_succ _))
   ·have z':b=s1.heap.objs.size:=by simpa using z
    subst z'
    exact I1.pQ (Nat.le_refl _) (I1.bu.fresh (Nat.le_refl _))
  rcases q with ⟨⟨xs,hq⟩,q⟩ | ⟨⟨xs,hq⟩,q⟩
  ·obtain⟨Mg,rv,pl,hz⟩:=I1.list hq
   refine call_enumerate_list pl.isList λh' he hit hsz hk=>?_
   refine wpAny_pyIter_enum (s:={ s1 with heap:=h' }) he ?_
   exact⟨s1.heap.objs.size+1,[s1.heap.objs.size+1,s1.heap.objs.size],_,_,H1,rfl,I1.kept (t':=s1.toks) hk,xV a _ _ (Nat.succ_ne_self _),⟨⟨_,he⟩,hit⟩,fp,q⟩
  ·obtain⟨Mg,rv,pl,hz⟩:=I1.tuple hq
   refine vO pl λh' he hit hsz hk=>?_
   refine wpAny_pyIter_enum (s:={ s1 with heap:=h' }) he ?_
   exact⟨s1.heap.objs.size+1,[s1.heap.objs.size+1,s1.heap.objs.size],_,_,H1,rfl,I1.kept (t':=s1.toks) hk,vv a _ _ (Nat.succ_ne_self _),⟨⟨_,he⟩,hit⟩,fp,q⟩
def K9(p:PV):M (List PV):=match bX p with
 | some xs=>M.ok (gH xs)
 | none=>none
def Cu:List PV->M (List PV)
 | [p]=>K9 p
 | _=>none
section
variable{K:PySem.W.Frag}{fs:ai->M (List PV)}
theorem AH(hq:∀ Mi H',bf Mp Mi->bf Mi H'->gx K H' a vs)(hr:aL Mp xs vs):jE (GU K a) Mp (gH xs) where
 stop:=λi Hs H s1 s2 hi=>by
  unfold gH at hi
  rw[List.length_mapIdx,hr.length] at hi
  exact⟨vs,hq Hs H s1 s2,hi⟩
 go:=λi Hs H s1 s2 hi=>by
  unfold gH at hi
  rw[List.length_mapIdx] at hi
  obtain⟨v,e,_⟩:=hr.get (List.getElem?_eq_getElem hi)
  exact⟨vs,v,hq Hs H s1 s2,e⟩
 uu:=λi Hs H x H2 s1 s2 hi y=>by
  unfold gH at hi
  rw[List.length_mapIdx] at hi
  obtain⟨v,e,r⟩:=hr.get (List.getElem?_eq_getElem hi)
  obtain⟨pa,v',hn,rfl,rfl,y1⟩:=y
  have z1:=y1 vs (hq Hs H s1 s2)
  rw[e] at z1;cases z1
  have gr:=bJ.new (o:=.tup [.int (i:Nat),v]) s2 hn
  refine⟨.tup [.int (i:Nat),xs[i]],_,?_,gr,.tup az (.cons (.int _) (.cons ((r.mono s1).mono gr.st) .nil))⟩
  unfold gH
  rw[List.getElem?_mapIdx,List.getElem?_eq_getElem hi]
  rfl
theorem lG:w9 E (Je K (tL E fs)) (kP Cu fs):=by
 intro σ H R q
 refine cM (K:=KI R) KI.g q λB H₀ Hs H1 env ps v sr rp hp=>?_
 match ps,rp,hp with
 | [],_,hp=>exact hp.elim
 | _::_::_,_,hp=>exact hp.elim
 | [p],rp,hp =>
  obtain⟨w,rfl,NC⟩:=rp.one
  cases NC with
  | lst ha hx=>exact⟨_,rfl,.inl ⟨⟨_,eI.of (sr.gr.sub _ _ ha)⟩,hp _ Hs H1 (.refl sr.gr.sub) (p5 (λMi H' s1 s2=>eI.of (s2 _ _ (s1 _ _ ha))) hx)⟩⟩
  | jh ha hx=>exact⟨_,rfl,.inl ⟨⟨_,.inl (.inr ⟨_,sr.gr.sub _ _ ha⟩)⟩,hp _ Hs H1 (.refl sr.gr.sub) (p5 (λMi H' s1 s2=>.inl (.inr ⟨_,s2 _ _ (s1 _ _ ha)⟩)) hx)⟩⟩
  | tup ha hx=>exact⟨_,rfl,.inr ⟨⟨_,gx.of (sr.gr.sub _ _ ha)⟩,hp _ Hs H1 (.refl sr.gr.sub) (AH (λMi H' s1 s2=>gx.of (s2 _ _ (s1 _ _ ha))) hx)⟩⟩
  | _=>exact hp.elim
end
end
def K3(E:St->XK)(f:ai->M Out):TS:=λD σ H=>∃ B H₀ Hs env,SR B H₀ Hs H σ env/\aw (f env) (KS D B H₀) (XW (E σ) Hs H)
theorem xw{f:ai->M PV}{g:ai->PV->M Out}{D:Ends}{R:VK}(h:K3 E (λenv=>(f env).bind (g env)) D σ H)
  (k:∀ B H₀ Hs H1 env p v,SR B H₀ Hs H1 σ env->Rep Hs p v->aw (g env p) (KS D B H₀) (λ_=>True)->R v H1):tE E f σ H R:=by
 obtain⟨B,H₀,Hs,env,sr,h⟩:=h
 refine⟨B,H₀,Hs,env,sr,(aw.bind h).imp (λp hp v Mi H' g r=>?_) λe he=>he⟩
 exact k B H₀ Mi H' env p v (sr.grow g) r (hp.imp (λ_ z=>z) λ_ _=>trivial)
section
variable{pos:Pos}{f:ai->M PV}
theorem Dl(he:PE X e (tE E f))(hs:autoParam (swapsWith e none pos.line X.env=pure false) aR._auto_1):kc X [.Expr e pos] (K3 E (kj f)):=by
 intro Me s σ H D I q
 exact bH (m9 he hs) iQ Me s σ H D I (xw q λB H₀ Hs H1 env p v sr rp hp=>hp σ Hs H1 sr)
end
theorem SR.unset{B:Hp}{env:ai}(r:SR B H₀ Hs H σ env):SR B H₀ Hs H (σ.set i none) (env.set i none):=by
 have key:∀ (j:Nat) (q:SV),(env.set i none)[j]?=some (some q)->env[j]?=some (some q)/\i≠j:=λj q e=>by
  rw[List.getElem?_set] at e
  by_cases z:i=j
  ·rw[if_pos z] at e
   split at e <;> cases e
  ·rw[if_neg z] at e;exact⟨e,z⟩
 have old:∀ j,i≠j->(σ.set i none)[j]?=σ[j]?:=λj z=>by rw[List.getElem?_set,if_neg z]
 refine⟨r.gr,by rw[List.length_set,List.length_set];exact r.len,λj q e=>?_,λj xs e=>?_,λj k xs ys a n e1 e2 e3=>?_,λj a C fs e=>?_,λj k a b C D fs gs e1 e2=>?_⟩
 ·obtain⟨e,z⟩:=key j _ e
  rw[old j z];exact r.sh j q e
 ·obtain⟨e,z⟩:=key j _ e
  rw[old j z];exact r.ow j xs e
 ·obtain⟨e1,z1⟩:=key j _ e1
  obtain⟨e2,z2⟩:=key k _ e2
  rw[old j z1] at e3
  rw[old k z2];exact r.sep j k xs ys a n e1 e2 e3
 ·obtain⟨e,z⟩:=key j _ e
  rw[old j z];exact r.bd j a C fs e
 ·exact r.one j k a b C D fs gs (key j _ e1).1 (key k _ e2).1
section
variable{pos:Pos}{f:ai->M PV}
end
abbrev Cx.oP(X:Cx)(pn:List (Addr×Obj)):Cx:={ X with pn:=pn }
abbrev Cx.hand(X:Cx)(ea:Addr):Cx:={ X with A:=X.A.mark (some (.ref ea)),calm:=false,xe:=λ_ _=>False }
section
variable{NO:List (Addr×Obj)}{ea:Addr}
theorem Cx.Ok.oP(ok:X.Ok)(pn:List (Addr×Obj)):(X.oP pn).Ok:=⟨ok.mod,ok.kind,ok.glob,ok.blt,ok.above,ok.inj,ok.has,ok.EK,ok.hd,ok.frames,ok.GG,ok.Hu,ok.bs,ok.yL,ok.qG,ok.tV,ok.kL,ok.BV⟩
theorem Cx.Ok.nG{pn:List (Addr×Obj)}(ok:(X.oP pn).Ok):X.Ok:=⟨ok.mod,ok.kind,ok.glob,ok.blt,ok.above,ok.inj,ok.has,ok.EK,ok.hd,ok.frames,ok.GG,ok.Hu,ok.bs,ok.yL,ok.qG,ok.tV,ok.kL,ok.BV⟩
theorem Cx.Ok.hand(ok:X.Ok)(ea:Addr):(X.hand ea).Ok:=⟨ok.mod,ok.kind,ok.glob,ok.blt,ok.above,ok.inj,ok.has,ok.EK,(λz=>nomatch z),ok.frames,ok.GG,ok.Hu,ok.bs,ok.yL,ok.qG,ok.tV,ok.kL,ok.BV⟩
theorem Inv.oP(I:Inv X Me σ H s):Inv (X.oP (X.pn++Me)) [] σ H s:=⟨I.ok.oP _,I.os,I.bare,I.base,I.loc,I.cell,I.free,I.fK,(λp hp=>I.pin p (by rw[List.append_nil] at hp;exact hp)),I.bu,I.len⟩
theorem Inv.nG(I:Inv (X.oP (X.pn++Me)) NO σ H s):Inv X Me σ H s:=⟨I.ok.nG,I.os,I.bare,I.base,I.loc,I.cell,I.free,I.fK,(λp hp=>I.pin p (List.mem_append_left _ hp)),I.bu,I.len⟩
theorem Inv.hand(I:Inv X Me σ H s)(ea:Addr):Inv (X.hand ea) Me σ H s:=⟨I.ok.hand ea,I.os,I.bare,I.base,I.loc,I.cell,I.free,I.fK,I.pin,I.bu,I.len⟩
theorem Inv.g9(I:Inv (X.hand ea) Me σ H s)(ok:X.Ok):Inv X Me σ H s:=⟨ok,I.os,I.bare,I.base,I.loc,I.cell,I.free,I.fK,I.pin,I.bu,I.len⟩
theorem Inv.A9(I:Inv X Me σ (lQ Hc ea T C dd fl) s)(h1:Hc ea=some (gC C dd ea))(h2:Hc T=none)(h3:T≠ea):Inv X Me σ Hc s:=by
 have no:∀ b,lQ Hc ea T C dd fl b=none->Hc b=none:=λb e=>by
  by_cases z:b=ea
  ·rw[z,oa] at e;cases e
  ·by_cases z2:b=T
   ·rw[z2];exact h2
   ·rw[iR z z2] at e;exact e
 have so:∀ b o,lQ Hc ea T C dd fl b=some o->(∀ φ,o≠.ext φ)->Hc b=some o:=λb o e n=>by
  by_cases z:b=ea
  ·rw[z,oa] at e;cases e;exact absurd rfl (n _)
  ·by_cases z2:b=T
   ·rw[z2,o3 h3] at e;cases e;exact absurd rfl (n _)
   ·rw[iR z z2] at e;exact e
 refine⟨I.ok,I.os,I.bare,⟨I.base.keep,I.base.slot,λb o e n hx=>no b (I.base.free b o e n hx),I.base.there,λb xs e=>so b _ (I.base.oY b xs e) (λ_ z=>nomatch z),λb o u e=>so b _ (I.base.kx b o u e) (λ_ z=>nomatch z),λb ps e=>?_⟩,I.loc,I.cell,no _ I.free,λx c e=>no _ (I.fK x c e),λp hp=>?_,λb o e=>?_,I.len⟩
 ·obtain⟨more,q⟩:=I.base.nM b ps e
  exact⟨more,so b _ q λ_ z=>nomatch z⟩
 ·obtain⟨e,n,r⟩:=I.pin p hp
  exact⟨e,no _ n,r⟩
 ·by_cases z:b=ea
  ·subst z
   rw[h1] at e;cases e
   obtain⟨vs,_,_,hx,_⟩:=I.xW h3
   exact C8 hx
  ·by_cases z2:b=T
   ·rw[z2,h2] at e;cases e
   ·refine(I.bu b o (by rw[iR z z2];exact e)).lj (λ_ _ _ q=>q) (λc q=>so c _ q λ_ z=>nomatch z) λc xs q=>so c _ q λ_ z=>nomatch z
theorem Inv.gone{E:Value->Shared->Prop}{n:Str}{pos:Pos}{Q:Unit->Shared->Prop}(I:Inv X Me σ H s)(hN:X.N.Nodup)(hi:X.N[i]?=some n)(hx:X.env.scope.names.lookup n=some .local)
  (h:∀ s',Inv X Me (σ.set i none) H s'->Q () s'):wpAny (model X.prog X.w) A (do bindName X.env n .none;unbindBehindTheSuite X.env n pos) Q E s:=by
 obtain⟨m,hn,hl⟩:=id I.loc
 have Br:=I.Br
 refine wpAny_nameGoes_keeps hx hn (by rw[I.ok.kind];rfl) λh' v PH hs=>?_
 obtain⟨oL,_,_,hoL,_⟩:=id hn
 have tracked:ke X.prog X.w H h':=λb ob e=>by
  refine(I.bu b ob e).lj (λc w' hc q=>(hs.2 c ?_).trans q) (λ_ q=>q) λ_ _ q=>q
  rintro rfl
  rcases hc with z | hc
  ·rw[← z,I.free] at e;cases e
  ·rw[I.free] at hc;cases hc
 refine h _ ⟨I.ok,I.os,I.bare,⟨λb o e n hb hx=>?_,λb o e n hb hx=>?_,I.base.free,λb o e hx=>?_,I.base.oY,I.base.kx,I.base.nM⟩,⟨_,PH,λj y v' e1 e2 e3=>?_⟩,λy c e=>?_,I.free,I.fK,λp hp=>?_,tracked,by simpa using I.len⟩
 ·exact(hs.2 b (Nat.ne_of_lt (Nat.lt_of_lt_of_le (Heap.lt_size e) I.ok.above))).trans (I.base.keep b o e n hb hx)
 ·obtain⟨sl,e1⟩:=I.base.slot b o e n hb hx
  exact⟨sl,(hs.2 b (Nat.ne_of_lt (Nat.lt_of_lt_of_le (Heap.lt_size e) I.ok.above))).trans e1⟩
 ·obtain⟨o',e1⟩:=I.base.there b o e hx
  exact⟨o',(hs.2 b (Nat.ne_of_lt (Nat.lt_of_lt_of_le (Heap.lt_size e) I.ok.above))).trans e1⟩
 ·have hj:i≠j:=λz=>by
   subst z
   rw[List.getElem?_set,if_pos rfl] at e2
   split at e2 <;> cases e2
  rw[List.getElem?_set_ne hj] at e2
  obtain⟨u',r',q⟩:=hl j y v' e1 e2 e3
  refine⟨u',r',?_⟩
  rcases q with ⟨k,e⟩ | ⟨k,c,e,z⟩
  ·refine .inl ⟨k,?_⟩
   have:y≠n:=λe=>hj (oU hN hi (e▸e1))
   simp[this,e]
  ·exact .inr ⟨k,c,e,z.sameBut hs (Br y c e)⟩
 ·obtain⟨w',z⟩:=I.cell y c e
  exact⟨w',z.sameBut hs (Br y c e)⟩
 ·obtain⟨e,n,ne,nf,d⟩:=I.pin p hp
  exact⟨(hs.2 p.1 ne).trans e,n,ne,nf,d⟩
end
abbrev Hd:=(Addr->Option Bool)×Option Nat×(ai->M Out)
def qR(i:Nat):Out->Out
 | .nx e=>.nx (e.set i none)
 | .bk e=>.bk (e.set i none)
 | .ct e=>.ct (e.set i none)
 | .rt p=>.rt p
def o6(o:Option Nat)(h:ai->M Out)(x:EX)(env:ai):M Out:=match o with
 | none=>zH (h env)
 | some i=>(zH (h (env.set i (some (.sh (.exc x.1 x.2)))))).bind λout=>M.ok (qR i out)
def qK(b:Option Bool)(x y:M Out):M Out:=match b with
 | some true=>x
 | some false=>y
 | none=>none
def h9:List Hd->EX->ai->M Out
 | [],_,_=>none
 | (t,o,h)::r,x,env=>qK (t x.1) (o6 o h x env) (h9 r x env)
def vi(r:M Out)(k:EX->M Out):M Out:=match r with
 | some (.error x)=>k x
 | r=>r
def Ci(f:ai->M Out)(hs:List Hd):ai->M Out:=λenv=>vi (f env) λx=>h9 hs x env
inductive EZ (X:Cx) (E:XK):List ExceptHandler->List Hd->Prop where
 | nil:EZ X E [] []
 | Iq {x:Str} {np pos:Pos} {b₀:Stmt} {Ny:List Stmt} {rest:List ExceptHandler} {t:Addr->Option Bool} {h:ai->M Out} {hs:List Hd} {D:Addr} (hg:Gl X x) (hm:X.mg x=some (.ref D)) (hd:(x==("__debug__" : Str))=false)
   (ht:∀ C b,t C=some b->PySem.W.exmOne X.K (.ref C) (.ref D)=some b) (hb:∀ ea,kc (X.hand ea) (b₀::Ny) (tS E h)) (r:EZ X E rest hs):EZ X E (.ExceptHandler (some (.Name x np)) none (b₀::Ny) pos::rest) ((t,none,h)::hs)
 | ER {x n:Str} {i:Nat} {np pos:Pos} {b₀:Stmt} {Ny:List Stmt} {rest:List ExceptHandler} {t:Addr->Option Bool} {h:ai->M Out} {hs:List Hd} {D:Addr} (hg:Gl X x) (hm:X.mg x=some (.ref D)) (hd:(x==("__debug__" : Str))=false)
   (hN:X.N.Nodup) (hi:X.N[i]?=some n) (hx:X.env.scope.names.lookup n=some .local)
   (ht:∀ C b,t C=some b->PySem.W.exmOne X.K (.ref C) (.ref D)=some b) (hb:∀ ea,kc (X.hand ea) (b₀::Ny) (tS E h)) (r:EZ X E rest hs):EZ X E (.ExceptHandler (some (.Name x np)) (some n) (b₀::Ny) pos::rest) ((t,some i,h)::hs)
variable{hd:List Hd}{hls:List ExceptHandler}
section
variable{B:Hp}{ea:Addr}{E:XK}{env:ai}{fo:Option (List (Str×PV))}{D:Ends}{F:Value->Shared->Prop}
theorem SP.g9{D:Ends}{f:Flow}{s':Shared}(h:SP (X.hand ea) Me D f s')(ok:X.Ok):SP X Me D f s':=by
 cases f with
 | next=>obtain⟨σ',H',I,q⟩:=h;exact⟨σ',H',I.g9 ok,q⟩
 | brk=>obtain⟨σ',H',I,q⟩:=h;exact⟨σ',H',I.g9 ok,q⟩
 | cont=>obtain⟨σ',H',I,q⟩:=h;exact⟨σ',H',I.g9 ok,q⟩
 | ret u=>obtain⟨v,σ',H',I,r,q⟩:=h;exact⟨v,σ',H',I.g9 ok,r,q⟩
theorem aw.err{r:M α}{Q:α->Prop}(h:aw r Q (λ_=>False)):aw r Q E':=h.imp (λ_ z=>z) λ_ z=>z.elim
def Ends.gone(D:Ends)(i:Nat):Ends:=⟨fun σ H=>D.nx (σ.set i none) H,D.rt,fun σ H=>D.bk (σ.set i none) H,fun σ H=>D.ct (σ.set i none) H⟩
theorem KS.gone{i:Nat}{o:Out}(h:KS D B H₀ (qR i o)):KS (D.gone i) B H₀ o:=by
 cases o with
 | nx e=>exact fun σ Hs H sr=>h _ Hs H sr.unset
 | bk e=>exact fun σ Hs H sr=>h _ Hs H sr.unset
 | ct e=>exact fun σ Hs H sr=>h _ Hs H sr.unset
 | rt p=>exact h
theorem zw{M:Model}{o:Obj}(hx:s.heap.get? ea=some o):PySem.W.Looks M s.heap (typeOf (.ref ea)) o.cls:=by
 intro A Q E s' k q
 exact BB (k _ _ hx) q
theorem EZ.run(hh:EZ X E hls hd):∀ {s:Shared},Inv X Me σ (lQ Hc ea T C dd .none) s->Hc ea=some (gC C dd ea)->Hc T=none->T≠ea->SR B H₀ Hs Hc σ env->Rep Hs (.exc C fo) (.ref ea) ->
  aw (h9 hd (C,fo) env) (KS D B H₀) Z->wpAny (model X.prog X.w) X.A (handleBy (.ref ea) X.env hls) (SP X Me D) F s:=by
 induction hh with
 | nil=>intro s I h1 h2 h3 sr rp q;exact q.elim
 | @Iq x np pos b₀ Ny rest t h hs Dc hg hm hd ht hb r ih =>
  intro s I h1 h2 h3 sr rp q
  obtain⟨vs,oT,ts,hx,_⟩:=I.xW h3
  refine wpAny_handleBy_cons (codeAny_handlers_test (iY (I.hand ea) hg hm ?_ hd)) (λq=>nomatch q)
  have LT:=zw (M:=model X.prog X.w) hx
  cases e:t C with
  | none=>simp only[h9,e,qK] at q;exact q.elim
  | some b =>
   refine(PySem.W.exm_one I.jt LT (ht C b e)).here ?_
   cases b with
   | false =>
    simp only[h9,e,qK] at q
    exact ih I h1 h2 h3 sr rp q
   | true =>
    simp only[h9,e,qK,o6] at q
    refine codeAny_handlers_suite ((I.hand ea).nA (fr:=none) h3 λh' I2=>?_)
    refine wpAny_mono (hb ea Me _ σ Hc D (I2.A9 h1 h2 h3) ⟨B,H₀,Hs,env,sr,(aw.zH q).err⟩) (λf s' z=>z.g9 I.ok) λ_ _ z=>z.elim
 | @ER x n i np pos b₀ Ny rest t h hs Dc hg hm hd hN hi hxn ht hb r ih =>
  intro s I h1 h2 h3 sr rp q
  obtain⟨vs,oT,ts,hx,_⟩:=I.xW h3
  refine wpAny_handleBy_cons (codeAny_handlers_test (iY (I.hand ea) hg hm ?_ hd)) (λq=>nomatch q)
  have LT:=zw (M:=model X.prog X.w) hx
  cases e:t C with
  | none=>simp only[h9,e,qK] at q;exact q.elim
  | some b =>
   refine(PySem.W.exm_one I.jt LT (ht C b e)).here ?_
   cases b with
   | false =>
    simp only[h9,e,qK] at q
    exact ih I h1 h2 h3 sr rp q
   | true =>
    simp only[h9,e,qK,o6] at q
    refine codeAny_handlers_suite_as ((I.hand ea).nA (fr:=none) h3 λh' I2=>?_)
    refine oX (X:=X.hand ea) (v:=.ref ea) (i:=i) (I2.A9 h1 h2 h3) hN hi (.inl hxn) rfl (λs3 I3=>?_) (.inr hxn)
    refine wpAny_mono (hb ea Me _ _ Hc (D.gone i) I3 ⟨B,H₀,Hs,_,sr.set rp,(aw.zH (E:=Z) ?_).err⟩) (λf s' z=>?_) λ_ _ z=>z.elim
    ·exact(aw.bind q).imp (λo z=>KS.gone z) λ_ z=>z
    ·cases f with
     | next=>obtain⟨σ',H',I4,d⟩:=z;exact(I4.g9 I.ok).gone hN hi hxn λs5 I5=>⟨_,H',I5,d⟩
     | brk=>obtain⟨σ',H',I4,d⟩:=z;exact(I4.g9 I.ok).gone hN hi hxn λs5 I5=>⟨_,H',I5,d⟩
     | cont=>obtain⟨σ',H',I4,d⟩:=z;exact(I4.g9 I.ok).gone hN hi hxn λs5 I5=>⟨_,H',I5,d⟩
     | ret u=>obtain⟨v,σ',H',I4,rv,d⟩:=z;exact(I4.g9 I.ok).gone hN hi hxn λs5 I5=>⟨v,_,H',I5,rv,d⟩
theorem Gu{h₀:ExceptHandler}{pos:Pos}{f:ai->M Out}(Mv:X.stack=X.env::X.outer)(hf:X.env.frame=some X.env.locals)
  (hb:∀ (pn:List (Addr×Obj)) (E2:St->XK),dz ((X.oP pn).out E2) E2->kc ((X.oP pn).out E2) body (K3 E2 f)) (hh:EZ X E (h₀::hls) hd):PS X (.Try body (h₀::hls) [] [] pos) (tS E (Ci f hd)):=by
 intro Me s σ H D I q
 obtain⟨B,H₀,Hs,env,sr,q⟩:=q
 refine wpAny_Try_except ?_
 let E2:St->XK:=fun σ v _ Hc=>∃ Hs C fo ea,v=.ref ea/\SR B H₀ Hs Hc σ env/\Rep Hs (.exc C fo) (.ref ea)/\aw (h9 hd (C,fo) env) (KS D B H₀) (XW E B H₀)
 have q1:aw (f env) (KS D B H₀) (XW (E2 σ) Hs H):=by
  unfold Ci at q
  cases e:f env with
  | none=>rw[e] at q;exact q
  | some r =>
   rw[e] at q
   cases r with
   | ok o=>exact q
   | error x=>exact λea Mi H' g rp=>⟨Mi,x.1,x.2,ea,rfl,sr.grow g,rp,q⟩
 refine wpAny_mono (hb (X.pn++Me) E2 (wO Mv hf) [] s σ H D (I.oP.nY _) ⟨B,H₀,Hs,env,sr,q1⟩) (λfl s1 hq=>?_) (λe s1 z=>?_)
 ·cases fl with
  | next=>obtain⟨σ',H',I',d⟩:=hq;exact wpAny_execs_nil ⟨σ',H',I'.ef.nG,d⟩
  | brk=>obtain⟨σ',H',I',d⟩:=hq;exact⟨σ',H',I'.ef.nG,d⟩
  | cont=>obtain⟨σ',H',I',d⟩:=hq;exact⟨σ',H',I'.ef.nG,d⟩
  | ret u=>obtain⟨v,σ',H',I',r,d⟩:=hq;exact⟨v,σ',H',I'.ef.nG,r,d⟩
 ·refine Zx.note (X:=X.oP (X.pn++Me)) z Mv hf λs' ea C dd NO σ' Hc T he I2 h1 h2 h3 h4=>?_
  subst he
  refine I2.nA (fr:=none) h3 λh' I3=>?_
  obtain⟨Mi,C',fo,ea',ee,NG,rp,hp⟩:=h4
  cases ee
  have I4:=I3.A9 h1 h2 h3
  have eC:C'=C:=by
   obtain⟨vs,hx⟩:=I4.oM h1
   cases rp with
   | vJ hr =>
    obtain⟨vs2,Nr⟩:=I4.oM (NG.gr.sub _ _ hr)
    rw[hx] at Nr;injection Nr with Nr;injection Nr with Nr;injection Nr with Nr;exact Nr.symm
   | vK hr _ _ =>
    obtain⟨vs2,Nr⟩:=I4.oM (NG.gr.sub _ _ hr)
    rw[hx] at Nr;injection Nr with Nr;injection Nr with Nr;injection Nr with Nr;exact Nr.symm
  subst eC
  exact hh.run I3.nG h1 h2 h3 NG rp hp
end
def uL(ys ns:List Addr)(C:Addr):Option Bool:=if ys.contains C=true then some true else if ns.contains C=true then some false else none
variable{ns:List Addr}
theorem ou{ys:List Addr}(h:uL ys ns C=some b):(b=true/\C∈ys)\/(b=false/\C∈ns):=by
 unfold uL at h
 by_cases h1:ys.contains C=true
 ·rw[if_pos h1] at h;cases h;exact .inl ⟨rfl,by simpa using h1⟩
 ·rw[if_neg h1] at h
  by_cases h2:ns.contains C=true
  ·rw[if_pos h2] at h;cases h;exact .inr ⟨rfl,by simpa using h2⟩
  ·rw[if_neg h2] at h;cases h
def EO(f:Addr->Option Bool)(ys ns:List Addr):Bool:=ys.all (λC=>f C==some true)&&ns.all λC=>f C==some false
theorem uO{f:Addr->Option Bool}{ys:List Addr}(h:EO f ys ns=true)(e:uL ys ns C=some b):f C=some b:=by
 unfold EO at h
 rw[Bool.and_eq_true,List.all_eq_true,List.all_eq_true] at h
 rcases ou e with ⟨rfl,m⟩ | ⟨rfl,m⟩
 ·exact eq_of_beq (h.1 C m)
 ·exact eq_of_beq (h.2 C m)
structure K4 (K:PySem.W.Frag) (mg:Str->Option Value) (x:Str) (D:Addr) (ys ns:List Addr):Prop where
 mg:mg x=some (.ref D)
 ok:∀ C b,uL ys ns C=some b->PySem.W.exmOne K (.ref C) (.ref D)=some b
theorem K4.of{K:PySem.W.Frag}{ys:List Addr}(h1:mg x=some (.ref D))(h2:EO (λC=>PySem.W.exmOne K (.ref C) (.ref D)) ys ns=true):K4 K mg x D ys ns:=⟨h1,λ_ _ e=>uO h2 e⟩
theorem pX:bootBuiltins "ValueError" = some (.type "ValueError"):=by decide +kernel
theorem Ah{p:α->Prop}:∀ x∈([]:List α),p x:=λ_ h=>nomatch h
theorem yH{p:α->Prop}{a:α}{l:List α}(h:p a)(r:∀ x∈l,p x):∀ x∈a::l,p x:=λx m=>by
 rcases List.mem_cons.mp m with rfl | m
 ·exact h
 ·exact r x m
def G2:List String:=["NoneType", "bool", "int", "str", "tuple", "list", "dict"]
theorem DK{p:PV}{a:String}(h:Er p=some a):a∈G2:=by
 cases p <;> first | (cases h;decide) | cases h
structure HX (K:PySem.W.Frag) (mg:Str->Option Value) (x:Str) (D:Addr) (ys ns yo no:List Addr):Prop where
 mg:mg x=some (.ref D)
 ty:∀ p a,Er p=some a->PySem.W.kitOne K (.type a) (.ref D)=some false
 ob:∀ C b,uL yo no C=some b->uW K C/\PySem.W.kitOne K (.ref C) (.ref D)=some b
 oe:∀ C b,uL ys ns C=some b->fq K C/\PySem.W.kitOne K (.ref C) (.ref D)=some b
theorem HX.of{K:PySem.W.Frag}{ys yo no:List Addr}(h1:mg x=some (.ref D))(h2:(G2.all λa=>PySem.W.kitOne K (.type a) (.ref D)==some false)=true)
  (h3:EO (λC=>PySem.W.kitOne K (.ref C) (.ref D)) yo no=true) (h4:EO (λC=>PySem.W.kitOne K (.ref C) (.ref D)) ys ns=true) (o1:∀ C∈yo,uW K C) (o2:∀ C∈no,uW K C) (e1:∀ C∈ys,fq K C) (e2:∀ C∈ns,fq K C):HX K mg x D ys ns yo no where
 mg:=h1
 ty:=λp a h=>by
  rw[List.all_eq_true] at h2
  exact eq_of_beq (h2 a (DK h))
 ob:=λC b h=>⟨by rcases ou h with ⟨_,m⟩ | ⟨_,m⟩ <;> first | exact o1 C m | exact o2 C m,uO h3 h⟩
 oe:=λC b h=>⟨by rcases ou h with ⟨_,m⟩ | ⟨_,m⟩ <;> first | exact e1 C m | exact e2 C m,uO h4 h⟩
section
variable{pos p px pt:Pos}{f:ai->M PV}{ys yo no:List Addr}
theorem HX.is(c:HX X.K X.mg x D ys ns yo no)(hg:Gl X "isinstance")(hm:X.mg "isinstance" = none)(hx:Gl X x)(he:PE X e (tE E f))(hd:autoParam ((x==("__debug__" : Str))=false) aD._auto_1)
  (h1:autoParam (starEach [e,.Name x pt] X.env=(false,eval e X.env)::starEach [.Name x pt] X.env) aR._auto_1) (h2:autoParam (starEach [.Name x pt] X.env=(false,eval (.Name x pt) X.env)::starEach [] X.env) aR._auto_1) (Mt:autoParam ((backTo pos (starEach [.Name x pt] X.env)).any (·.1)=false) aR._auto_1) :
  PE X (.Call (.Name "isinstance" p) [e,.Name x pt] [] pos) (tE E (sG (λ_=>false) (uL yo no) (uL ys ns) f)) :=
 GC hg hm (wV hx c.mg rfl hd) c.ty c.ob c.oe he h1 h2 Mt
def IU(ys:List Addr):PV->M PV
 | .exc C _=>cC (ys.contains C=true) (M.ok (.bl true))
 | _=>none
def Hb(ys:List Addr)(f:ai->M PV):ai->M PV:=λenv=>(f env).bind (IU ys)
theorem DJ(hg:Gl X "isinstance")(hm:X.mg "isinstance" = none)(hT:PE X (.Name x pt) (tC (.ty "ValueError")))(Nb:∀ C∈ys,fq X.K C/\PySem.W.kitOne X.K (.ref C) (.type "ValueError")=some true)(he:PE X e (tE E f))
  (h1:autoParam (starEach [e,.Name x pt] X.env=(false,eval e X.env)::starEach [.Name x pt] X.env) aR._auto_1) (h2:autoParam (starEach [.Name x pt] X.env=(false,eval (.Name x pt) X.env)::starEach [] X.env) aR._auto_1) (Mt:autoParam ((backTo pos (starEach [.Name x pt] X.env)).any (·.1)=false) aR._auto_1) :
  PE X (.Call (.Name "isinstance" p) [e,.Name x pt] [] pos) (tE E (Hb ys f)):=by
 refine(jB (cy.or tD oy) hg hm rK (bj he (bj hT dC h2) h1) (by decide) (by decide) h1 Mt).imp fun σ H Q q=>bR (K:=ir Q) ir.g q λB H₀ Hs H1 env p v sr rp hp=>?_
 cases p with
 | exc C fo =>
  obtain⟨m,q⟩:=aw.cC hp
  obtain⟨a,O1,rfl,hx⟩:=vP sr.gr.sub rp
  have m':C∈ys:=by simpa using m
  exact .inr ⟨a,C,O1,true,(Nb C m').1,hx,.inl ⟨"ValueError", rfl,(Nb C m').2⟩,dq.flat q sr.gr.sub (.bl _)⟩
 | _=>exact hp.elim
end
section
variable{pos:Pos}{f g:ai->M PV}
end
section
open PySem PySem.Spec PyProof.Rows _root_.HT
section
variable{E:Value->Shared->Prop}
theorem kQ{t sl:Addr}{vl vu:Value}{lo hi:Option Int}(ht:IsTup s.heap t items)(hs:s.heap.IsSliceOf sl vl vu .none)(pl:IsPart vl lo)(pu:IsPart vu hi)
  (hw:dh items.size 0 lo=0/\dh items.size items.size hi=items.size) (h:Q (.ref t) s):wpAny (model prog w) A (getItem (.ref t) (.ref sl)) Q E s:=by
 obtain⟨os,O8,hcs,Py⟩:=id hs
 have hTs:s.TypeIs (.ref sl) "slice" := ⟨os,O8,hcs⟩
 unfold getItem
 try with_reducible refine wpAny_holding ?_
 first | refine wpAny_bind (wpAny_pure ?_) | skip
 refine wpAny_bind (wpAny_sequenceKey ht.typeIs (by decide) ?_)
 refine wpAny_bind (wpAny_callSpecial?_slot (name:=Str.ofString "__getitem__") ht.typeIs PyProof.Rows.slot_tuple_getitem
  (wpAny_call_entry PyProof.Rows.slot_tuple_getitem ht.typeIs entry_tuple_getitem ?_ (args_tuple_getitem _ _)))
 show wpAny _ _ (Builtin.Tuple.tupleItemsOf (.ref t) >>= _) _ _ s
 refine wpAny_bind (tupleItemsOf_ ht ?_)
 refine wpAny_bind (wpAny_typeOf hTs ?_)
 rw[if_pos (by decide)]
 refine wpAny_bind (ie hs pl pu ?_)
 have hyes:(((dh items.size 0 lo:Nat):Int)==0&&(1:Int)==1&&(dh items.size items.size hi-dh items.size 0 lo)==items.size)=true:=by
  rw[hw.1,hw.2];simp
 show wpAny _ _ (if (((dh items.size 0 lo:Nat):Int)==0&&(1:Int)==1&&(dh items.size items.size hi-dh items.size 0 lo)==items.size)=true then _ else _) _ _ s
 rw[if_pos hyes]
 unfold Builtin.Tuple.tupleIsExact
 refine wpAny_bind (wpAny_bind (wpAny_typeOf ht.typeIs (wpAny_pure ?_)))
 rw[if_pos (show ((Value.type "tuple" == Value.type "tuple")=true) from beq_self_eq_true _)]
 refine wpAny_bind (wpAny_rule ?_)
 first
  | exact wpAny_bind (wpAny_pure (wpAny_pure ⟨_,rfl,wpAny_pure h⟩))
  | exact wpAny_bind (wpAny_pure ⟨_,rfl,wpAny_pure h⟩)
  | exact wpAny_pure ⟨_,rfl,wpAny_pure h⟩
end
section
variable{lo hi:Option Expr}{pos p2:Pos}{f:ai->M PV}{gl gh:ai->M (Option Int)}
def K7(K:PySem.W.Frag):V->Option Int->Option Int->Hp->VK->Prop:=λx lo hi H Q=>∃ a xs,x=.ref a/\gx K H a xs/\(dh xs.length 0 lo=0/\dh xs.length xs.length hi=xs.length)/\Q (.ref a) H
theorem B9:BX X (K7 X.K):=by
 intro Me s σ H x v vl vu lo hi sl Q I rx hs pl pu h
 obtain⟨a,xs,rfl,hx,hw,q⟩:=h
 cases rx
 obtain⟨Mg,r,ht,hz⟩:=I.tuple hx
 have hlen:Mg.toArray.size=xs.length:=by rw[List.size_toArray];exact r.length.symm
 refine⟨"tuple", _,PyProof.Rows.slot_tuple_getitem.lookup,ht.typeIs,?_⟩
 exact kQ ht hs pl pu (by rw[hlen];exact hw) ⟨.ref a,H,I,rfl,q⟩
def JA(p:PV)(lo hi:Option Int):M PV:=match p with
 | .tup xs=>M.ok (.tup (pS xs lo hi))
 | .lst xs=>M.ok (.lst (pS xs lo hi))
 | .jh xs=>M.ok (.lst (pS xs lo hi))
 | _=>none
def vC(f:ai->M PV)(lo hi:ai->M (Option Int)):ai->M PV:=λenv=>(f env).bind λp=>(lo env).bind λl=>(hi env).bind λh=>JA p l h
theorem w6(he:PE X e (tE E f))(hl:PO X lo (K5 E gl))(hh:PO X hi (K5 E gh)):PE X (.Subscript e (.Slice lo hi none p2) pos) (tE E (vC f gl gh)):=by
 refine(zx (BX.or Fq (BX.or B9 Dk)) he hl hh).imp fun σ H Q q=>bR (K:=ir Q) ir.g q λB H₀ Hs H1 env p v sr rp hp=>?_
 refine⟨B,H₀,Hs,env,sr,(aw.bind hp).imp (λl hl Mq H2 g2=>?_) λe he=>he⟩
 have MN:=sr.grow g2
 refine⟨B,H₀,Mq,env,MN,(aw.bind hl).imp (λh hh ND H3 g3=>?_) λe he=>he.grow g2⟩
 have NY:=MN.grow g3
 have hz:aw (JA p l h) (dq ND H3 Q) (λ_=>True):=hh.imp (λz hz w Hs4 H4 g4 r=>hz w Hs4 H4 ((g2.trans g3).trans g4) r) λ_ _=>trivial
 have rp3:=(rp.mono g2.st).mono g3.st
 cases rp3 with
 | @tup a xs vs ha hx =>
  by_cases hn:dh xs.length 0 l=0/\dh xs.length xs.length h=xs.length
  ·refine .inr (.inl ⟨_,_,rfl,gx.of (NY.gr.sub _ _ ha),by rw[← hx.length];exact hn,?_⟩)
   have e:pS xs l h=xs:=by
    unfold pS;rw[hn.1,hn.2,List.drop_zero,Nat.sub_zero,List.take_length]
   have Oc:dq ND H3 Q (.tup xs):=by
    have z:dq ND H3 Q (.tup (pS xs l h)):=hz
    rw[e] at z;exact z
   exact dq.flat Oc NY.gr.sub (.tup ha hx)
  ·exact .inl ⟨_,_,rfl,gx.of (NY.gr.sub _ _ ha),by rw[← hx.length];exact hn,dq.tup hz NY.gr.sub (hx.cut l h)⟩
 | lst ha hx=>exact .inr (.inr ⟨_,_,rfl,eI.of (NY.gr.sub _ _ ha),dq.lst hz NY.gr.sub (hx.cut l h)⟩)
 | jh ha hx=>exact .inr (.inr ⟨_,_,rfl,.inl (.inr ⟨_,NY.gr.sub _ _ ha⟩),dq.lst hz NY.gr.sub (hx.cut l h)⟩)
 | _=>exact hz.elim
end
end
section
variable{pos:Pos}{g:ai->M PV}{fs:ai->M (List PV)}{L:List (Addr×(List PV->M PV))}{K:PySem.W.Frag}
end
section
open PySem.SeqAt (shaped EqAt RcAt RcNeAt)
section
variable{b:Addr}
end
end
end L2
namespace HT
open PySem PyProof.Rows
variable{E:Value->Shared->Prop}{A:Around}{w:World}{prog:Program}
section
variable{a b v:Value}{k:Bool}{I S ax:Addr}{t:Shared}{n:Nat}{R:Result->Shared->Prop}
end
section
open PySem.SeqAt
open PySem.AutoSeq1 (wpAny_loadPart')
open PySem.MeetsSeq PySem.MeetsSeq2 PySem.MeetsSeq3
end
section
variable{s:Shared}
end
end HT
namespace L2
open PySem PySem.Spec PyProof.Rows
variable{E:St->XK}{X:Cx}
variable{js:List Nat}{f:ai->M PV}{it:ai->M (List PV)}{wi:TI}{scope:Scope}
variable{y:Str}{i:Nat}
section
variable{tg elt iter c:Expr}{cl:List (Str×Addr)}{pos:Pos}{g:TG}{set:PV->ai->M ai}{ts fs:List Str}
variable{E:XK}{py NX:Pos}
end
variable{u:ai->M Bool}
section
variable{tg elt iter c:Expr}{cl:List (Str×Addr)}{pos:Pos}{g:TG}{set:PV->ai->M ai}{ts fs:List Str}
variable{E:XK}{py NX:Pos}
end
variable{xs:List PV}{σ:St}{H:Hp}{a:Addr}
section
variable{iL iS ic:Nat}{b0 b1:Addr}{B H₀ Hs:Hp}{env:ai}{ys:List PV}{vs ws:List V}
end
section
variable{E:XK}{st1 OR:Stmt}{rest:List Stmt}{iL iS ic:Nat}{fi fv:ai->M PV}{g:ai->M Out}
end
variable{A:Around}{w:World}
variable{Q:Option Value->Shared->Prop}
section
variable{prog:Program}{E:Value->Shared->Prop}{s:Shared}{d it:Addr}{es:Array DictEntry}{ep:Nat}
def lR(h:Heap)(d:Addr)(es:Array DictEntry)(ep:Nat):Prop:=∃ o,h.get? d=some o/\o.ExactDict/\o.data=.dict es ep
theorem lR.ty(x:lR s.heap d es ep):s.TypeIs (.ref d) "dict" := by
 obtain⟨o,a,b,_⟩:=x
 exact⟨o,a,b.1⟩
theorem lR.keep{h h':Heap}(x:lR h d es ep)(k:∀ o,h.get? d=some o->h'.get? d=some o):lR h' d es ep:=by
 obtain⟨o,a,b⟩:=x
 exact⟨o,k o a,b⟩
theorem CL{Q:Value->Shared->Prop}(nd:(d==sysModules)=false)(x:lR s.heap d es ep)
  (q:Q (.ref s.heap.objs.size) { s with heap:=s.heap.push { cls:=.type "dict_keyiterator", data:=.fields #[.ref d,.int 0 0,.int es.size 0,.int ep 0] } }):wpAny (model prog w) A (pyIter (.ref d)) Q E s:=by
 have ty:=x.ty
 obtain⟨o,x1,x2,x3⟩:=x
 refine wpAny_pyIter_slot ty F.slot_dict_iter (wpAny_call_entry F.slot_dict_iter ty F.entry_dict_iter ?_ (F.args_dict_iter_1 _))
 unfold Builtin.«dict.__iter__»;refine wpAny_bind ?_;unfold Builtin.Dict.dictSlotNone
 refine wpAny_bind (wpAny_notOrdered_dict ty ?_);show wpAny _ _ (pure (Value.ref d)) _ _ s;refine wpAny_pure ?_
 show wpAny _ _ (Builtin.Dict.showsAll d >>= _) _ _ s;unfold Builtin.Dict.showsAll
 rw[if_neg (by rw[nd];exact Bool.false_ne_true)];refine wpAny_bind (wpAny_pure ?_)
 refine wpAny_bind (wpAny_dictEntries x1 x3 (wpAny_bind (wpAny_dictEpoch x1 x3 ?_)))
 refine wpAny_bind (wpAny_newObj_type (wpAny_pure ⟨_,rfl, "dict_keyiterator", _,⟨_,Heap.get?_push_size _ rfl,rfl⟩,F.slot_dict_keyiterator_next.lookup,?_⟩));simpa [rawInt] using q
theorem Cy(y:s.heap.IsKeyIter it d i es.size ep)(x:lR s.heap d es ep)(lt:i<es.size)
  (q:∀ h',h'.IsKeyIter it d (i+1) es.size ep->Heap.SameBut it s.heap h'->Q (some es[i].key) { s with heap:=h' }):wpAny (model prog w) A (pyNext (.ref it)) Q E s:=by
 have yt:=y.typeIs
 obtain⟨o,y1,y2,y3⟩:=y
 obtain⟨p,x1,x2,x3⟩:=x
 unfold pyNext
 refine wpAny_bind (wpAny_attempt (wpAny_callSpecial?_slot (name:=Str.ofString "__next__") yt F.slot_dict_keyiterator_next (wpAny_call_entry F.slot_dict_keyiterator_next yt F.entry_dict_keyiterator_next ?_ (F.args_dict_keyiterator_next_1 _))))
 refine wpAny_bind (wpAny_pure (wpAny_bind (wpAny_bind ?_)))
 first | refine wpAny_bind (wpAny_typeNameOfWhole_keyiter yt (wpAny_pure ?_)) | refine wpAny_bind (wpAny_typeNameOf_keyiter yt (wpAny_pure ?_))
 refine wpAny_bind (wpAny_fieldsOf y1 y3 ?_)
 simp only[show Builtin.Dict_items.ownsTuple "dict_keyiterator" = false by decide,Bool.false_eq_true,if_false]
 show wpAny _ _ (if (Value.ref d==Value.none)=true then _ else _) _ _ s;rw[if_neg (show ¬ ((Value.ref d==Value.none)=true) from Bool.false_ne_true)]
 refine wpAny_bind (wpAny_pure (wpAny_bind (wpAny_dictEntries x1 x3 ?_)));rw[if_neg (by simp)]
 refine wpAny_bind (wpAny_pure (wpAny_bind (wpAny_dictEpoch x1 x3 ?_)));rw[if_neg (by simp)];refine wpAny_pure ?_
 simp only[show ¬ ((i:Int)<0) from by omega,if_false,Int.toNat_natCast,Array.getElem?_eq_getElem lt];refine wpAny_bind ?_
 first | refine wpAny_bind (wpAny_typeNameOfWhole_keyiter yt (wpAny_pure ?_)) | refine wpAny_bind (wpAny_typeNameOf_keyiter yt (wpAny_pure ?_))
 refine wpAny_bind (wpAny_isOneOf_keyiter yt ?_);show wpAny _ _ (setField (.ref it) 1 (rawInt ((i:Int)+1)) >>= _) _ _ s
 refine wpAny_bind (wpAny_setField y1 y3 (by simp) ?_)
 have y':(s.heap.update it (Obj.mapFields (·.setIfInBounds 1 (rawInt ((i:Int)+1))))).IsKeyIter it d (i+1) es.size ep:=⟨_,Heap.get?_update_self _ y1 (Obj.isFreed_of_fields (Obj.data_mapFields y3 _)),(Obj.cls_mapFields ..).trans y2,by rw[Obj.data_mapFields y3];simp[rawInt]⟩
 refine wpAny_bind (wpAny_holding (wpAny_bind (wpAny_isOneOf_keyiter (s:={ s with heap:=s.heap.update it (Obj.mapFields (·.setIfInBounds 1 (rawInt ((i:Int)+1)))) }) y'.typeIs ?_)))
 show wpAny _ _ (pure es[i].key) _ _ _;exact wpAny_pure (wpAny_pure ⟨_,rfl,wpAny_pure (q _ y' (Heap.SameBut.update ..))⟩)
theorem FP(hh:A.handled=none)(y:s.heap.IsKeyIter it d i es.size ep)(x:lR s.heap d es ep)(ge:es.size<=i)
  (q:∀ h',Heap.ExtBut it s.heap h'->Q none { s with heap:=h' }):wpAny (model prog w) A (pyNext (.ref it)) Q E s:=by
 have yt:=y.typeIs
 obtain⟨o,y1,y2,y3⟩:=y
 obtain⟨p,x1,x2,x3⟩:=x
 unfold pyNext
 refine wpAny_bind (wpAny_attempt (wpAny_callSpecial?_slot (name:=Str.ofString "__next__") yt F.slot_dict_keyiterator_next (wpAny_call_entry F.slot_dict_keyiterator_next yt F.entry_dict_keyiterator_next ?_ (F.args_dict_keyiterator_next_1 _))))
 refine wpAny_bind (wpAny_pure (wpAny_bind (wpAny_bind ?_)))
 first | refine wpAny_bind (wpAny_typeNameOfWhole_keyiter yt (wpAny_pure ?_)) | refine wpAny_bind (wpAny_typeNameOf_keyiter yt (wpAny_pure ?_))
 refine wpAny_bind (wpAny_fieldsOf y1 y3 ?_)
 simp only[show Builtin.Dict_items.ownsTuple "dict_keyiterator" = false by decide,Bool.false_eq_true,if_false]
 show wpAny _ _ (if (Value.ref d==Value.none)=true then _ else _) _ _ s;rw[if_neg (show ¬ ((Value.ref d==Value.none)=true) from Bool.false_ne_true)]
 refine wpAny_bind (wpAny_pure (wpAny_bind (wpAny_dictEntries x1 x3 ?_)));rw[if_neg (by simp)]
 refine wpAny_bind (wpAny_pure (wpAny_bind (wpAny_dictEpoch x1 x3 ?_)));rw[if_neg (by simp)];refine wpAny_pure ?_
 simp only[show ¬ ((i:Int)<0) from by omega,if_false,Int.toNat_natCast,Array.getElem?_eq_none ge];refine wpAny_bind ?_
 first | refine wpAny_bind (wpAny_typeNameOfWhole_keyiter yt (wpAny_pure ?_)) | refine wpAny_bind (wpAny_typeNameOf_keyiter yt (wpAny_pure ?_))
 show wpAny _ _ (setField (.ref it) 0 .none >>= _) _ _ s;refine wpAny_bind (wpAny_setField y1 y3 (by simp) ?_)
 show wpAny _ _ (newExc (.type "StopIteration") [] >>= _) _ _ _;refine wpAny_bind ?_;simp only[newExc,newTuple]
 refine wpAny_bind (wpAny_newObj_type (wpAny_bind (m:=firstArgMember _ _) (wpAny_of_eq (a:=Value.none) (by first | rfl | (simp only[firstArgMember];rfl)) (wpAny_newObj_type ?_ (by size_fits)))) (by size_fits))
 simp only[raiseNew];refine wpAny_bind (wpAny_handled ?_);rw[show A.in1.handled=none from hh]
 refine wpAny_bind (wpAny_pure (wpAny_throw ?_))
 refine wpAny_bind (wpAny_isInstance (T := "StopIteration") (b:=true) ⟨_,Heap.get?_push_size _ rfl,rfl⟩ isSubtype_stop ?_)
 exact wpAny_pure (q _ (((Heap.SameBut.update ..).extBut.push _).push _))
theorem zT(hh:A.handled=none)(I d:Addr)(ne:d≠I)(es:Array DictEntry)(ep:Nat):Walks prog w A I [I,d] [I] es.size (λi v=>∃ h:i<es.size,v=es[i].key) (λi h=>h.IsKeyIter I d i es.size ep/\lR h d es ep) where
 sub:=λb hb=>by simp at hb;simp[hb]
 frame:=λ_ _ _ st hk=>⟨st.1.at λo e=>hk I (by simp) o e,st.2.keep λo e=>hk d (by simp) o e⟩
 item:=λi s Q E hi st q=>Cy st.1 st.2 hi λh' y' sb=>q _ h' s.toks ⟨hi,rfl⟩ ⟨y',st.2.keep λo e=>sb.extBut _ _ ne e⟩ λb o hb e=>sb.extBut b o (λz=>hb (by simp[z])) e
 done:=λs Q E st q=>FP hh st.1 st.2 (Nat.le_refl _) λh' sb=>q h' s.toks λb o hb e=>sb b o (λz=>hb (by simp[z])) e
 self:=λ_ _ _ _ st q=>wpAny_pyIter_keyiter st.1 q
theorem tj:typeLookup (.type "dict") "__len__" = pure (some (.builtin "dict.__len__")):=by rw[typeLookup_type,builtinLookup_eq_fast];kernel_rfl
theorem wZ{R:Result->Shared->Prop}(hh:A.handled=none)(nd:(d==sysModules)=false)(x:lR s.heap d es ep)(S:Addr)(res:Value)(c:Nat)(hS:s.heap.get? S=some { cls:=.type "list", data:=.seq #[] c })(ne:S≠d)
  (q:∀ h' tk NJ c',(∀ b o,b≠S->s.heap.get? b=some o->h'.get? b=some o)->h'.get? S=some { cls:=.type "list", dict:=none,data:=.seq NJ c',slots:=#[] }->ItemsOf (λi v=>∃ h:i<es.size,v=es[i].key) NJ es.size->R (.ok (.ret res)) { s with heap:=h',toks:=tk }) (hn:es.size<=sizeLine) :
  wpAny (model prog w) A.in1 (Builtin.List.listExtendWith (.ref S) (.ref d) res) (λfin s'=>match fin with | .done f=>R (.ok f) s' | .again c'=>c'.quiet=true/\codeAny (model prog w) A c' R s') (λe s'=>R (.error e) s') s:=by
 have lS:=Heap.lt_size hS
 have ld:d<s.heap.objs.size:=by obtain⟨o,a,_⟩:=x;exact Heap.lt_size a
 unfold Builtin.List.listExtendWith;refine wpAny_bind (wpAny_typeOf x.ty ?_)
 simp only[show Builtin.List.listSameRef (.ref S) (.ref d)=false by simp[Builtin.List.listSameRef,ne],show (Value.type "dict" == Value.type "list")=false by decide,show (Value.type "dict" == Value.type "tuple")=false by decide,Bool.or_false,Bool.false_eq_true,if_false]
 refine wpAny_bind (CL nd x ?_)
 have x':lR (s.heap.push { cls:=.type "dict_keyiterator", data:=.fields #[.ref d,.int 0 0,.int es.size 0,.int ep 0] }) d es ep:=x.keep λo e=>Heap.get?_push_of_some _ e
 have y':(s.heap.push { cls:=.type "dict_keyiterator", data:=.fields #[.ref d,.int 0 0,.int es.size 0,.int ep 0] }).IsKeyIter s.heap.objs.size d 0 es.size ep:=⟨_,Heap.get?_push_size _ rfl,rfl,rfl⟩
 have t':=lR.ty (s:={ s with heap:=s.heap.push { cls:=.type "dict_keyiterator", data:=.fields #[.ref d,.int 0 0,.int es.size 0,.int ep 0] } }) x'
 refine wpAny_bind (wpAny_holding ?_);unfold Builtin.List.listLengthHint
 refine wpAny_bind (wpAny_specialOf t' tj ?_)
 wp_delta
 refine wpAny_bind (wpAny_isInstance (T := "dict") (b:=true) t' (by rw[isSubtype_type];kernel_rfl) ?_)
 show wpAny _ _ (typeOf (Value.ref d) >>= _) _ _ _
 refine wpAny_bind (wpAny_typeOf t' (wpAny_pure ?_))
 rw[if_pos (by decide)]
 refine wpAny_bind (wpAny_rule (wpAny_bind ?_))
 show wpAny _ A.in1 (updateSeq S (·.push .none) >>= λ_=>updateSeq S (·.pop)) _ _ _
 have e1:(s.heap.push { cls:=.type "dict_keyiterator", data:=.fields #[.ref d,.int 0 0,.int es.size 0,.int ep 0] }).get? S=some { cls:=.type "list", data:=.seq #[] c }:=Heap.get?_push_of_some _ hS
 refine wpAny_bind (wpAny_updateSeq e1 rfl ?_)
 have e2:=Heap.get?_update_self (Obj.mapSeq (·.push Value.none)) e1 rfl
 refine wpAny_updateSeq (hz:=by seq_fits) e2 rfl ?_
 have e3:=Heap.get?_update_self (Obj.mapSeq (·.pop)) e2 rfl
 have kp:∀ b o,b≠S->(s.heap.push { cls:=.type "dict_keyiterator", data:=.fields #[.ref d,.int 0 0,.int es.size 0,.int ep 0] }).get? b=some o->(((s.heap.push { cls:=.type "dict_keyiterator", data:=.fields #[.ref d,.int 0 0,.int es.size 0,.int ep 0] }).update S (Obj.mapSeq (·.push Value.none))).update S (Obj.mapSeq (·.pop))).get? b=some o:=λb o hb e=>(Heap.get?_update_other _ _ hb.symm).trans ((Heap.get?_update_other _ _ hb.symm).trans e)
 have sf:S ∉ [s.heap.objs.size,d]:=λm=>by
  rcases List.mem_cons.mp m with z | z
  ·exact Nat.ne_of_lt lS z
  ·exact ne (List.mem_singleton.mp z)
 have W:=zT (prog:=prog) (w:=w) (A:=A.in1) hh s.heap.objs.size d (Nat.ne_of_lt ld) es ep
 refine wpAny_pure ⟨plainId_quiet F.plain_extend_loop _,codeAny_extend_loopS W.toS hn _ sf _ es.size 0 _ _ _ rfl (Nat.zero_le _) ?_ e3 (ItemsOf.nil _) λs' NJ c' hm hS' Og=>?_⟩
 ·exact⟨y'.at λo e=>kp _ o (Nat.ne_of_gt lS) e,x'.keep λo e=>kp _ o ne.symm e⟩
 ·rw[Moved.eq_with hm]
  refine q s'.heap s'.toks NJ c' (λb ob hb e=>hm.heap b ob (λmem=>?_) (kp b ob hb (Heap.get?_push_of_some _ e))) hS' Og
  rcases List.mem_cons.mp mem with z | z
  ·exact hb z
  ·have:=Heap.lt_size e
   rw[List.mem_singleton.mp z] at this
   exact Nat.lt_irrefl _ this
theorem D8{Q:Value->Shared->Prop}(hh:A.handled=none)(nd:(d==sysModules)=false)(x:lR s.heap d es ep)
  (q:∀ h' tk NJ c',(∀ b o,s.heap.get? b=some o->h'.get? b=some o)->h'.get? s.heap.objs.size=some { cls:=.type "list", dict:=none,data:=.seq NJ c',slots:=#[] }->ItemsOf (λi v=>∃ h:i<es.size,v=es[i].key) NJ es.size->Q (.ref s.heap.objs.size) { s with heap:=h',toks:=tk }) (hn:es.size<=sizeLine) :
  wpAny (model prog w) A (call (.type "list") [.ref d]) Q E s:=by
 have ld:d<s.heap.objs.size:=by obtain⟨o,a,_⟩:=x;exact Heap.lt_size a
 refine callType_codes (Q₁:=λob s₁=>ob=.ref s.heap.objs.size/\s₁={ s with heap:=s.heap.push { cls:=.type "list", data:=.seq #[] } }) F.called_list (F.typeCall_list_1 _) F.entry_list_init (code_list_new _ ⟨rfl,rfl⟩) λob s₁ e=>?_
 obtain⟨rfl,rfl⟩:=e
 have e0:(s.heap.push { cls:=.type "list", data:=.seq #[] }).get? s.heap.objs.size=some { cls:=.type "list", data:=.seq #[] }:=Heap.get?_push_size _ rfl
 refine⟨⟨_,e0,rfl⟩,F.args_list_init_2 _ _,?_⟩
 show wpAny _ _ (do let old ← Builtin.List.listItems (.ref s.heap.objs.size);Builtin.List.listUpdate (.ref s.heap.objs.size) (λ_=>#[]);letGo old.toList.reverse;Builtin.List.listExtendWith (.ref s.heap.objs.size) (.ref d) .none) _ _ _
 refine wpAny_bind ?_;unfold Builtin.List.listItems;refine wpAny_bind (wpAny_seqItems e0 rfl (wpAny_pure ?_))
 show wpAny _ _ (updateSeq s.heap.objs.size (λ_=>#[]) >>= λ_=>letGo (#[]:Array Value).toList.reverse >>= λ_=>Builtin.List.listExtendWith (.ref s.heap.objs.size) (.ref d) .none) _ _ _
 refine wpAny_bind (wpAny_updateSeq e0 rfl (wpAny_bind (wpAny_letGo ?_)))
 have e1:=Heap.get?_update_self (Obj.mapSeq (λ_=>(#[]:Array Value))) e0 rfl
 have kp:∀ b o,b≠s.heap.objs.size->(s.heap.push { cls:=.type "list", data:=.seq #[] }).get? b=some o->((s.heap.push { cls:=.type "list", data:=.seq #[] }).update s.heap.objs.size (Obj.mapSeq (λ_=>(#[]:Array Value)))).get? b=some o:=λb o hb e=>(Heap.get?_update_other _ _ hb.symm).trans e
 refine wZ (A:=A.in1) (s:={ s with heap:=(s.heap.push { cls:=.type "list", data:=.seq #[] }).update s.heap.objs.size (Obj.mapSeq (λ_=>(#[]:Array Value))) }) hh nd (x.keep λo e=>kp _ o (Nat.ne_of_lt ld) (Heap.get?_push_of_some _ e)) _ _ _ e1 (Nat.ne_of_gt ld) (λh' tk NJ c' hk hS' Og=>?_) hn
 exact⟨rfl,q h' tk NJ c' (λb o e=>hk b o (Nat.ne_of_lt (Heap.lt_size e)) (kp b o (Nat.ne_of_lt (Heap.lt_size e)) (Heap.get?_push_of_some _ e))) hS' Og⟩
end
theorem KT.at{H:Hp}:∀ {Mf:List (List Key×V)} {xs:List (List Key×Addr×Value)},KT H Mf xs->∀ i (h:i<Mf.length) (h':i<xs.length),H xs[i].2.1=some (.tup (Mf[i].1.map kV))
 | _,_,.nil,i,h,_=>absurd h (Nat.not_lt_zero i)
 | _,_,.cons a t,0,_,_=>a.2.1
 | _,_,.cons a t,i+1,h,h'=>KT.at t i (Nat.lt_of_succ_lt_succ h) (Nat.lt_of_succ_lt_succ h')
theorem rn(hc:X.calm=true):cy X (.type "list") (λxs H Q=>∃ d Mf,xs=[.ref d]/\H d=some (.dT Mf)/\∀ (l:Addr) (as:List Addr),H l=none->as.length=Mf.length->(∀ i (h:i<as.length) (h':i<Mf.length),H as[i]=some (.tup (Mf[i].1.map kV)))->Q (.ref l) (upd H l (.lst (as.map V.ref)))):=by
 intro Me s σ H xs us Q I r h
 obtain⟨d,Mf,rfl,hd,q⟩:=h
 obtain⟨u,rfl,rx⟩:=vals1 r
 cases rx
 obtain⟨z,y,ks,rel,o,es,ep,h1,h2,h3,h4,h5⟩:=(show bx X.prog X.w H s.heap d (.dT Mf) from I.bu d _ hd)
 have hl:ks.length=Mf.length:=(Paired.length rel).symm
 have he:es.size=Mf.length:=by rw[← hl,← Array.length_toList,h4,List.length_map]
 refine D8 (I.ok.hd hc) y ⟨o,h1,h2,h3⟩ (λh' tk acc c kp e it=>?_) (by rw[he];exact z)
 have ac:acc.toList=(ks.map λx=>Value.ref x.2.1):=by
  refine List.ext_getElem? λi=>?_
  rw[Array.getElem?_toList,List.getElem?_map]
  rcases Nat.lt_or_ge i ks.length with lt | ge
  ·have la:i<acc.size:=by rw[it.1,he];omega
   obtain⟨hi,ev⟩:=it.2 i acc[i] (Array.getElem?_eq_getElem la)
   rw[Array.getElem?_eq_getElem la,ev,List.getElem?_eq_getElem lt]
   have:es[i]=entryOfKey (tupleKind (cv X.prog X.w)) ks[i]:=by
    have e2:es.toList[i]'(by rw[Array.length_toList];exact hi)=_:=List.getElem_of_eq h4 _
    rw[Array.getElem_toList,List.getElem_map] at e2
    exact e2
   rw[this];rfl
  ·rw[Array.getElem?_eq_none (by rw[it.1,he];omega),List.getElem?_eq_none ge];rfl
 refine⟨.ref s.heap.objs.size,_,I.laid (t':=tk) kp (Nat.le_refl _) (show bx X.prog X.w _ h' _ (.lst ((ks.map (·.2.1)).map V.ref)) from ⟨by simp;omega,acc.toList,c,?_,e⟩),rfl,q _ (ks.map (·.2.1)) (I.bu.fresh (Nat.le_refl _)) (by simp[hl]) λi h h'=>?_⟩
 ·rw[ac,List.map_map]
  have:∀ l:List (List Key×Addr×Value),Vals (l.map (V.ref∘λx=>x.2.1)) (l.map λx=>Value.ref x.2.1):=λl=>by
   induction l with
   | nil=>exact .nil
   | cons a r ih=>exact .cons rfl ih
  exact this ks
 ·rw[List.getElem_map]
  exact KT.at rel i h' (by omega)
def BD(tk tv:TE):TE:=fun σ H Q=>∀ p,H p=none->vd [(tk,tv)] σ (upd H p (.dT [])) λps H2=>∃ v b k,ps=[(.ref b,v)]/\H2 b=some (.tup (k.map kV))/\H2 p=some (.dT [])/\Q (.ref p) (upd H2 p (.dT [(k,v)]))
theorem Bo{k v:Expr}{tk tv:TE}{pos:Pos}(hu:X.A.units<cLine)(hk:PE X k tk)(hv:PE X v tv):PE X (.Dict [some k] [v] pos) (BD tk tv):=by
 intro Me s σ H Q I q
 have hn:=I.bu.fresh (Nat.le_refl s.heap.objs.size)
 have I1:=I.laid (a:=s.heap.objs.size) (o:=.dT []) (h':=s.heap.push { cls:=.type "dict", data:=.dict #[] }) (t':=s.toks) (λ_ _ q=>Heap.get?_push_of_some _ q) (Nat.le_refl _) (zv s.heap I.big)
 refine wpAny_Dict_any rfl rfl (λz=>nomatch z) (show 1<=15 by decide) (bT ((yV hk hv DW) Me _ σ _ _ I1 (q _ hn)) λws s2 h=>?_)
 obtain⟨_,H2,I2,rel,x,b,ks,rfl,hb,hp,q2⟩:=h
 obtain⟨u1,u2⟩:∃ w1 w2,ws=[(w1,w2)]/\RelV (.ref b) w1/\RelV x w2:=by
  cases rel with
  | cons a t=>cases t;exact⟨_,_,rfl,a.1,a.2⟩
 obtain⟨w2,rfl,r1,r2⟩:=u2
 cases (show u1=Value.ref b from r1)
 obtain⟨z,nd,xs,rl,dd⟩:=Ew I2.bu hp
 cases rl
 unfold storeAll
 rw[List.forIn_cons]
 refine wpAny_bind (wpAny_bind (wpAny_dictSet_heap (hsz:=Nat.zero_le _) (knd:=tupleKind (cv X.prog X.w)) hu (sk I2.bu hb) dd λh' Pj hs=>wpAny_pure ?_))
 show wpAny _ _ (forIn [] PUnit.unit _) _ _ _
 rw[List.forIn_nil]
 refine wpAny_pure ⟨.ref s.heap.objs.size,_,?_,rfl,q2⟩
 obtain⟨o,es,ep,hq,h2,h3,h4,_,h5⟩:=Pj
 have:=rL (t':=s2.toks+(tupleKind (cv X.prog X.w)).draws ks) (ob:=.dT [(ks,x)]) I2 (by rw[hp];exact True.intro) hs ⟨o,hq⟩ ⟨by show 1<=sizeLine;decide,nd,_,?_,o,es,ep,hq,h2,h3,h4,h5⟩
 ·exact this
 ·exact .cons ⟨rfl,by rw[ao (EM hb hp (λz=>nomatch z))];exact hb,r2⟩ .nil
abbrev ky(A:List Int):List Key:=A.map Sum.inl
theorem wM(A:List Int):(ky A).map kV=A.map V.int:=by rw[List.map_map];rfl
theorem vh{A B:List Int}(h:ky A=ky B):A=B:=(List.map_inj_right λa b h=>Sum.inl.inj h).mp h
section
variable{κ:Type}[DecidableEq κ]
theorem zO{Mf:List (κ×V)}{k:κ}{v:V}:(putK Mf k v).length<=Mf.length+1:=by
 unfold putK
 split <;> simp
theorem t7{Mf:List (κ×V)}{k:κ}:(kA Mf k).isSome=true ↔ k∈Mf.map (·.1):=by
 rw[← lD,List.any_eq_true]
 constructor
 ·rintro⟨x,h,e⟩;exact List.mem_map.mpr ⟨x,h,of_decide_eq_true e⟩
 ·intro h;obtain⟨x,h,e⟩:=List.mem_map.mp h;exact⟨x,h,decide_eq_true e⟩
theorem zW{Mf:List (κ×V)}{k x:κ}{v:V}:x∈(putK Mf k v).map (·.1) ↔ x∈Mf.map (·.1)\/x=k:=by
 unfold putK
 split
 ·rename_i h
  rw[lD,t7] at h
  have:(Mf.map λkv=>if kv.1=k then (kv.1,v) else kv).map (·.1)=Mf.map (·.1):=by
   rw[List.map_map]
   refine List.map_congr_left λa _=>?_
   show (if a.1=k then (a.1,v) else a).1=a.1
   split <;> rfl
  rw[this]
  exact⟨.inl,λz=>z.elim id λe=>e▸h⟩
 ·rw[List.map_append,List.mem_append]
  simp
end
def Kd(Mf:List (List Key×V))(S:List Int->Prop):Prop:=∀ k,k∈Mf.map (·.1) ↔ ∃ A,S A/\k=ky A
variable{Mf:List (List Key×V)}
theorem Kd.at{S:List Int->Prop}(h:Kd Mf S)(A:List Int):(kA Mf (ky A)).isSome=true ↔ S A:=by
 rw[t7,h]
 exact⟨λ⟨B,s,e⟩=>vh e▸s,λs=>⟨A,s,rfl⟩⟩
theorem Kd.put{S:List Int->Prop}(h:Kd Mf S)(A:List Int)(v:V):Kd (putK Mf (ky A) v) λB=>S B\/B=A:=λk=>by
 rw[zW,h]
 constructor
 ·rintro(⟨B,s,e⟩ | e)
  ·exact⟨B,.inl s,e⟩
  ·exact⟨A,.inr rfl,e⟩
 ·rintro⟨B,s | s,e⟩
  ·exact .inl ⟨B,s,e⟩
  ·exact .inr (s▸e)
variable{T:List Int->Prop}
theorem Kd.to{S:List Int->Prop}(h:Kd Mf S)(e:∀ A,S A ↔ T A):Kd Mf T:=λk=>by
 rw[h]
 exact⟨λ⟨A,s,z⟩=>⟨A,(e A).mp s,z⟩,λ⟨A,s,z⟩=>⟨A,(e A).mpr s,z⟩⟩
theorem Kd.ints{S:List Int->Prop}:∀ {Mf:List (List Key×V)},Kd Mf S->∃ Os:List (List Int),Mf.map (·.1)=Os.map ky/\∀ A,S A ↔ A∈Os:=by
 have all:∀ ks:List (List Key),(∀ k∈ks,∃ A,k=ky A)->∃ Os:List (List Int),ks=Os.map ky:=λks=>by
  induction ks with
  | nil=>exact λ_=>⟨[],rfl⟩
  | cons k r ih =>
   intro h
   obtain⟨A,e⟩:=h k (by simp)
   obtain⟨Os,e2⟩:=ih λk hk=>h k (by simp[hk])
   exact⟨A::Os,by rw[e,e2];rfl⟩
 intro Mf h
 obtain⟨Os,e⟩:=all (Mf.map (·.1)) λk hk=>let ⟨A,_,z⟩:=(h k).mp hk;⟨A,z⟩
 refine⟨Os,e,λA=>?_⟩
 have:=h (ky A)
 rw[e] at this
 constructor
 ·intro s
  obtain⟨B,hB,z⟩:=List.mem_map.mp (this.mpr ⟨A,s,rfl⟩)
  exact vh z▸hB
 ·intro m
  obtain⟨B,s,z⟩:=this.mp (List.mem_map.mpr ⟨A,m,rfl⟩)
  exact vh z▸s
section
variable(sm:List Int->List Int->List Int)(z r:List Int)
def uF:Nat->List Int
 | 0=>r
 | j+1=>sm (uF j) r
def EI:Nat->List Int
 | 0=>z
 | j+1=>sm (EI j) r
def Nx(m:Nat)(S:List Int->Prop):List Int->Prop:=λB=>S B\/∃ A j,S A/\j<m/\B=sm A (EI sm z r (j+1))
end
def Runs(sm:List Int->List Int->List Int)(z:List Int):(List Int->Prop)->Nat->List (List Int)->List Int->Prop
 | _,_,[],ns=>ns=[]
 | S,L,r::rs,ns=>∃ (m:Nat) (N7:List Int),ns=((m:Int)+1)::N7/\(∀ j,j<m->¬ S (uF sm r j))/\S (uF sm r m)/\m<sizeLine/\L*(m+1)<=sizeLine/\Runs sm z (Nx sm z r m S) (L*(m+1)) rs N7
theorem Runs.uniq{sm:List Int->List Int->List Int}{z:List Int}:∀ {R:List (List Int)} {S:List Int->Prop} {L L':Nat} {ns N7:List Int},Runs sm z S L R ns->Runs sm z S L' R N7->ns=N7
 | [],_,_,_,_,_,h,h'=>h.trans h'.symm
 | r::rs,S,L,L',ns,N7,⟨m,n1,e,a,b,_,_,t⟩,⟨m',n2,e',a',b',_,_,t'⟩=>by
  have:m=m':=by
   rcases Nat.lt_trichotomy m m' with l | l | l
   ·exact(a' m l b).elim
   ·exact l
   ·exact(a m' l b').elim
  subst this
  rw[e,e',Runs.uniq t t']
def Fr(d p:Addr)(H H':Hp):Prop:=∀ a o,a≠d->a≠p->H a=some o->H' a=some o
theorem Fr.trans{d p:Addr}{H1 H2:Hp}(a:Fr d p H H1)(b:Fr d p H1 H2):Fr d p H H2:=λc o n1 n2 e=>b c o n1 n2 (a c o n1 n2 e)
theorem Fr.of{d p:Addr}{H1:Hp}(a:bf H H1):Fr d p H H1:=λc o _ _ e=>a c o e
theorem Fr.d{d p:Addr}{H:Hp}{o:HO}:Fr d p H (upd H d o):=λc u n1 _ e=>by rw[ao n1];exact e
theorem Fr.p{d p:Addr}{H:Hp}{o:HO}:Fr d p H (upd H p o):=λc u _ n2 e=>by rw[ao n2];exact e
theorem Fr.refl{d p:Addr}:Fr d p H H:=λ_ _ _ _ e=>e
structure Gp (d p:Addr) (H:Hp) (Mf:List (List Key×V)) (vs:List Int):Prop where
 ne:d≠p
 hd:H d=some (.dT Mf)
 hp:H p=some (.lst (vs.map V.int))
variable{vs:List Int}
section
variable{d p:Addr}{H':Hp}{Mo:List (List Key×V)}{vs':List Int}
theorem Gp.grow(g:Gp d p H Mf vs)(s:bf H H'):Gp d p H' Mf vs:=⟨g.ne,s _ _ g.hd,s _ _ g.hp⟩
theorem Gp.JP(g:Gp d p H Mf vs):Gp d p (upd H d (.dT Mo)) Mo vs:=⟨g.ne,az,by rw[ao g.ne.symm];exact g.hp⟩
theorem Gp.IT(g:Gp d p H Mf vs):Gp d p (upd H p (.lst (vs'.map V.int))) Mf vs':=⟨g.ne,by rw[ao g.ne];exact g.hd,az⟩
theorem Gp.tup(g:Gp d p H Mf vs){a:Addr}{u:List V}(h:H a=some (.tup u)):a≠d/\a≠p :=
 ⟨λz=>by rw[z,g.hd] at h;(injection h with h;nomatch h),λz=>by rw[z,g.hp] at h;(injection h with h;nomatch h)⟩
theorem Gp.keep(g:Gp d p H Mf vs)(f:Fr d p H H'){u:List V}(h:H a=some (.tup u)):H' a=some (.tup u):=f _ _ (g.tup h).1 (g.tup h).2 h
end
abbrev gS(a b e d p:V)(x5 x6 x7 x8 x9 NL:Option V):St:=[some a,some b,some e,some d,some p,x5,x6,x7,x8,x9,NL]
variable{sem:List PV->M PV}
variable{c:Addr}{j:Nat}
variable{Os:List (List Int)}{D:Ends}
variable{n:Int}
variable{m:Nat}{z r:List Int}
variable{ns:List Int}{rv:List V}
section
variable{K:PySem.W.Frag}{sm:List Int->List Int->List Int}{S:List Int}
def zX(sem:List PV->M PV)(E:St->XK)(i j:Nat):TE:=u9 (dJ 3 (bg 3 sem)) [] E (lH (ik i) (lH (ik j) (lH (ik 1) uz)))
theorem sd(hs:∀ A B:List Int,sem [.tup (A.map .int),.tup (B.map .int),.lst (S.map .int)]=M.ok (.tup ((sm A B).map .int))){Q:VK}{b:Addr}{A B:List Int}
  (hi:σ[i]?=some (some (.ref a))) (hj:σ[j]?=some (some (.ref b))) (h1:σ[1]?=some (some (.ref c))) (ha:H a=some (.tup (A.map V.int))) (hb:H b=some (.tup (B.map V.int))) (hc:H c=some (.lst (S.map V.int)))
  (q:∀ a' H',bf H H'->H' a'=some (.tup ((sm A B).map V.int))->Q (.ref a') H'):zX sem E i j σ H Q:=by
 have rl:∀ l:List Int,aL H (l.map PV.int) (l.map V.int):=λl=>by
  induction l with
  | nil=>exact .nil
  | cons x r ih=>exact .cons (.int x) ih
 refine⟨_,hi,_,hj,_,h1,rfl,H,_,λ_ _ e=>e,.cons (.tup ha (rl A)) (.cons (.tup hb (rl B)) (.cons (.lst hc (rl S)) .nil)),?_⟩
 rw[show bg 3 sem [.tup (A.map .int),.tup (B.map .int),.lst (S.map .int)]=_ from vY rfl,hs]
 intro v Mi H' g rp
 cases rp with
 | tup h r =>
  rw[r.ints] at h
  exact q _ _ g.al (g.sub _ _ h)
theorem AX(hs:∀ A B:List Int,sem [.tup (A.map .int),.tup (B.map .int),.lst (S.map .int)]=M.ok (.tup ((sm A B).map .int))){a e:V}{d p al OU:Addr}{x5 x6 x9 NL:Option V}{as:List Addr}{B:List Int}
  (g:Gp d p H Mf vs) (hc:H c=some (.lst (S.map V.int))) (NV:c≠p) (NM:H al=some (.lst (as.map V.ref))) (np:al≠p) (hl:as.length=Os.length) (ha:∀ i (h:i<as.length) (h':i<Os.length),H as[i]=some (.tup (Os[i].map V.int))) (PL:H OU=some (.tup (B.map V.int))) (hk:Kd Mf T) (hz:Mf.length+Os.length<=sizeLine)
  (q:∀ H' Mo Nz,Gp d p H' Mo vs->Fr d p H H'->Kd Mo (λC=>T C\/∃ A∈Os,C=sm A B)->Mo.length<=Mf.length+Os.length->D.nx (gS a (.ref c) e (.ref d) (.ref p) x5 x6 (some (.ref al)) (some (.ref OU)) x9 Nz) H') :
  Af (wg K (ik 7)) (aH 10) (jr (BM (ik 3) (zX sem E 10 8) (tC (.bl true))) oz) D (gS a (.ref c) e (.ref d) (.ref p) x5 x6 (some (.ref al)) (some (.ref OU)) x9 NL) H:=by
 have nd:al≠d:=λz=>by rw[z,g.hd] at NM;(injection NM with h;nomatch h)
 have OC:c≠d:=λz=>by rw[z,g.hd] at hc;(injection hc with h;nomatch h)
 refine⟨.ref al,rfl,al,rfl,⟨_,eI.of NM⟩,?_⟩
 let J:Nat->St->Hp->Prop:=λi σ H'=>∃ Mo Nz,σ=gS a (.ref c) e (.ref d) (.ref p) x5 x6 (some (.ref al)) (some (.ref OU)) x9 Nz/\Gp d p H' Mo vs/\Fr d p H H'/\Kd Mo (λC=>T C\/∃ A∈Os.take i,C=sm A B)/\Mo.length<=Mf.length+i
 refine⟨λi m σ H'=>m=Os.length-i/\i<=Os.length/\J i σ H',⟨_,rfl,Nat.zero_le _,Mf,NL,rfl,g,Fr.refl,hk.to λA=>by simp,Nat.le_refl _⟩,?_⟩
 rintro i m σ H' ⟨rfl,hi,Mo,x,rfl,g',f',k',l'⟩
 have NQ:H' al=some (.lst (as.map V.ref)):=f' _ _ nd np NM
 by_cases lt:i<Os.length
 ·have lt':i<as.length:=by omega
  refine .inr ⟨⟨_,.ref as[i],eI.of NQ,by rw[List.getElem?_map,List.getElem?_eq_getElem lt'];rfl⟩,J (i+1),fun σ2 H2 j=>⟨_,by omega,rfl,lt,j⟩,λy H2 yl=>?_⟩
  obtain⟨rfl,yl⟩:=yl
  have ey:=yl _ (eI.of NQ)
  rw[List.getElem?_map,List.getElem?_eq_getElem lt'] at ey
  cases ey
  refine⟨.ref d,rfl,?_⟩
  refine sd hs (A:=Os[i]) (B:=B) rfl rfl rfl (g.keep f' (ha i lt' lt)) (g.keep f' PL) (f' _ _ OC NV hc) λa' H3 s3 e3=>?_
  have g3:=g'.grow s3
  refine⟨d,_,rfl,A_.t (k:=ky (sm Os[i] B)) g3.hd (by rw[wM];exact e3) (by omega),_,_,rfl,g3.JP,(f'.trans (.of s3)).trans .d,?_,Nat.le_trans zO (by omega)⟩
  refine(k'.put _ _).to λC=>?_
  rw[List.take_succ,List.getElem?_eq_getElem lt]
  constructor
  ·rintro((h | ⟨A,hA,h⟩) | h)
   ·exact .inl h
   ·exact .inr ⟨A,List.mem_append_left _ hA,h⟩
   ·exact .inr ⟨_,List.mem_append_right _ (by simp),h⟩
  ·rintro(h | ⟨A,hA,h⟩)
   ·exact .inl (.inl h)
   ·rcases List.mem_append.mp hA with z | z
    ·exact .inl (.inr ⟨A,z,h⟩)
    ·simp at z;exact .inr (z▸h)
 ·refine .inl ⟨⟨_,eI.of NQ,by rw[List.length_map];omega⟩,q H' Mo x g' f' (k'.to λC=>?_) (by omega)⟩
  rw[List.take_of_length_le (by omega)]
theorem wH:nv ((vs++[n]).map V.int) (-1)=some (.int n):=by
 have e:xa ((vs++[n]).map V.int).length (-1)=some vs.length:=by
  unfold xa
  rw[if_neg (by decide),if_pos (by simp;omega)]
  congr 1
  simp
  omega
 unfold nv
 rw[e]
 simp
theorem Ds:xa ((vs++[n]).map V.int).length (-1)=some vs.length:=by
 unfold xa
 rw[if_neg (by decide),if_pos (by simp;omega)]
 congr 1
 simp
 omega
abbrev LI:TE:=Kx (rU λi=>.int (-i)) (tC (.int 1))
def IG(K:PySem.W.Frag)(sem:List PV->M PV)(E:St->XK):TS:=Af (wg K (ik 7)) (aH 10) (jr (BM (ik 3) (zX sem E 10 8) (tC (.bl true))) oz)
def AV(K:PySem.W.Frag)(sem:List PV->M PV)(E:St->XK):TS:=Af (AF (lH (Gj (u4 λi j=>.int (i-j)) (Gj (Kj K) (ik 4) LI) (tC (.int 1))) uz)) (aH 9) (jr (pG (zX sem E 8 5) (aH 8)) (jr (IG K sem E) oz))
theorem xj(hs:∀ A B:List Int,sem [.tup (A.map .int),.tup (B.map .int),.lst (S.map .int)]=M.ok (.tup ((sm A B).map .int))){a e:V}{d p al OU ar:Addr}{x6 x9 NL:Option V}{as:List Addr}
  (g:Gp d p H Mf (vs++[(m:Int)+1])) (hc:H c=some (.lst (S.map V.int))) (NV:c≠p) (NM:H al=some (.lst (as.map V.ref))) (np:al≠p) (hl:as.length=Os.length) (ha:∀ i (h:i<as.length) (h':i<Os.length),H as[i]=some (.tup (Os[i].map V.int))) (PL:H OU=some (.tup (z.map V.int))) (hr:H ar=some (.tup (r.map V.int))) (hk:Kd Mf T) (hO:∀ A,T A ↔ A∈Os) (hn:Mf.length=Os.length) (hm:m<sizeLine) (hz:Os.length*(m+1)<=sizeLine)
  (q:∀ H' Mo x8' Pg Nz,Gp d p H' Mo (vs++[(m:Int)+1])->Fr d p H H'->Kd Mo (Nx sm z r m T)->Mo.length<=Os.length*(m+1)->D.nx (gS a (.ref c) e (.ref d) (.ref p) (some (.ref ar)) x6 (some (.ref al)) x8' Pg Nz) H') :
  AV K sem E D (gS a (.ref c) e (.ref d) (.ref p) (some (.ref ar)) x6 (some (.ref al)) (some (.ref OU)) x9 NL) H:=by
 have nd:al≠d:=λz=>by rw[z,g.hd] at NM;(injection NM with h;nomatch h)
 have OC:c≠d:=λz=>by rw[z,g.hd] at hc;(injection hc with h;nomatch h)
 have b24:sizeLine=2^24:=rfl
 refine⟨.ref p,rfl,1,rfl,.inl ⟨p,_,-1,.int ((m:Int)+1),rfl,rfl,eI.of g.hp,wH,(m:Int)+1,1,rfl,rfl,(m:Int)+1-1,rfl,by omega,by omega,?_⟩⟩
 rw[show ((m:Int)+1-1).toNat=m by omega]
 let J:Nat->St->Hp->Prop:=λi σ H'=>∃ Mo as' Pg Nz,σ=gS a (.ref c) e (.ref d) (.ref p) (some (.ref ar)) x6 (some (.ref al)) (some (.ref as')) Pg Nz/\Gp d p H' Mo (vs++[(m:Int)+1])/\Fr d p H H'/\H' as'=some (.tup ((EI sm z r i).map V.int))/\Kd Mo (Nx sm z r i T)/\Mo.length<=Os.length*(i+1)
 refine⟨λi k σ H'=>k=m-i/\i<=m/\J i σ H',⟨_,rfl,Nat.zero_le _,Mf,OU,x9,NL,rfl,g,Fr.refl,PL,hk.to λA=>⟨.inl,λh=>h.elim id λ⟨_,j,_,l,_⟩=>(Nat.not_lt_zero j l).elim⟩,by omega⟩,?_⟩
 rintro i k σ H' ⟨rfl,hi,Mo,as',Pg,Nz,rfl,g',f',h',k',l'⟩
 by_cases lt:i<m
 ·refine .inr ⟨lt,J (i+1),fun σ2 H2 j=>⟨_,by omega,rfl,lt,j⟩,λy H2 yl=>?_⟩
  obtain⟨rfl,rfl⟩:=yl
  refine sd hs (A:=EI sm z r i) (B:=r) rfl rfl rfl h' (g.keep f' hr) (f' _ _ OC NV hc) λa' H3 s3 e3=>?_
  have g3:=g'.grow s3
  have f3:=f'.trans (Fr.of (d:=d) (p:=p) s3)
  have Oc:Os.length*(i+1)+Os.length<=sizeLine:=by
   have:Os.length*(i+1)+Os.length=Os.length*(i+2):=by rw[← Nat.mul_succ]
   rw[this]
   exact Nat.le_trans (Nat.mul_le_mul_left _ (by omega)) hz
  refine AX hs (T:=Nx sm z r i T) g3 (f3 _ _ OC NV hc) NV (f3 _ _ nd np NM) np hl (λi h h'=>g.keep f3 (ha i h h')) e3 k' (by omega) λH4 Pd y4 g4 f4 k4 l4=>?_
  refine⟨Pd,a',_,y4,rfl,g4,f3.trans f4,g3.keep f4 e3,k4.to λC=>?_,Nat.le_trans l4 (by rw[Nat.mul_succ Os.length (i+1)];omega)⟩
  constructor
  ·rintro((h | ⟨A,j,h1,h2,h3⟩) | ⟨A,hA,h⟩)
   ·exact .inl h
   ·exact .inr ⟨A,j,h1,by omega,h3⟩
   ·exact .inr ⟨A,i,(hO A).mpr hA,by omega,h⟩
  ·rintro(h | ⟨A,j,h1,h2,h3⟩)
   ·exact .inl (.inl h)
   ·by_cases w:j<i
    ·exact .inl (.inr ⟨A,j,h1,w,h3⟩)
    ·obtain rfl:j=i:=by omega
     exact .inr ⟨A,(hO A).mp h1,h3⟩
 ·obtain rfl:i=m:=by omega
  exact .inl ⟨Nat.le_refl _,q H' Mo _ Pg Nz g' f' k' l'⟩
def Ed:V->V->Hp->VK->Prop:=λo i H Q=>∃ p xs v,o=.ref p/\i=.int (-1)/\H p=some (.lst xs)/\nv xs (-1)=some v/\Q v H
def Et(sem:List PV->M PV)(E:St->XK):TS:=Ac (tB (wK (ik 6) (ik 3))) (jr (pG (zX sem E 6 5) (aH 6)) (jr (EW (ik 4) LI (tC (.int 1)) Ed (Lr λi j=>i+j) Ec) oz))
theorem zm(hs:∀ A B:List Int,sem [.tup (A.map .int),.tup (B.map .int),.lst (S.map .int)]=M.ok (.tup ((sm A B).map .int))){a e:V}{d p ar:Addr}{x7 x8 x9 NL:Option V}
  (g:Gp d p H Mf (vs++[1])) (hc:H c=some (.lst (S.map V.int))) (NV:c≠p) (hr:H ar=some (.tup (r.map V.int))) (hk:Kd Mf T) (h0:∀ j,j<m->¬ T (uF sm r j)) (h1:T (uF sm r m))
  (q:∀ H' x6',Gp d p H' Mf (vs++[(m:Int)+1])->Fr d p H H'->D.nx (gS a (.ref c) e (.ref d) (.ref p) (some (.ref ar)) x6' x7 x8 x9 NL) H') :
  Et sem E D (gS a (.ref c) e (.ref d) (.ref p) (some (.ref ar)) (some (.ref ar)) x7 x8 x9 NL) H:=by
 have OC:c≠d:=λz=>by rw[z,g.hd] at hc;(injection hc with h;nomatch h)
 let J:Nat->St->Hp->Prop:=λj σ H'=>∃ ah,σ=gS a (.ref c) e (.ref d) (.ref p) (some (.ref ar)) (some (.ref ah)) x7 x8 x9 NL/\Gp d p H' Mf (vs++[(j:Int)+1])/\Fr d p H H'/\H' ah=some (.tup ((uF sm r j).map V.int))
 refine⟨λk σ H'=>∃ j,k=m-j/\j<=m/\J j σ H',⟨_,0,rfl,Nat.zero_le _,ar,rfl,g,Fr.refl,hr⟩,?_⟩
 rintro k σ H' ⟨j,rfl,hj,ah,rfl,g',f',h'⟩
 refine⟨.ref ah,rfl,.ref d,rfl,d,_,rfl,z0.t (k:=ky (uF sm r j)) g'.hd (by rw[wM];exact h'),_,rfl,?_⟩
 by_cases lt:j<m
 ·have:(kA Mf (ky (uF sm r j))).isSome=false:=by
   cases w:(kA Mf (ky (uF sm r j))).isSome with
   | false=>rfl
   | true=>exact(h0 j lt ((hk.at _).mp w)).elim
  rw[this]
  show ite (true=true) _ _
  rw[if_pos rfl]
  refine⟨J (j+1),fun σ2 H2 x=>⟨_,by omega,j+1,rfl,lt,x⟩,?_⟩
  refine sd hs (A:=uF sm r j) (B:=r) rfl rfl rfl h' (g.keep f' hr) (f' _ _ OC NV hc) λa' H3 s3 e3=>?_
  have g3:=g'.grow s3
  have f3:=f'.trans (Fr.of (d:=d) (p:=p) s3)
  refine⟨.ref p,rfl,1,rfl,p,_,_,rfl,rfl,g3.hp,wH,(j:Int)+1,1,rfl,rfl,p,_,-1,_,rfl,rfl,g3.hp,Ds,?_⟩
  have e4:((vs++[(j:Int)+1]).map V.int).set vs.length (.int ((j:Int)+1+1))=(vs++[((j+1:Nat):Int)+1]).map V.int:=by
   rw[List.map_append,List.map_append,List.set_append_right _ _ (by simp)]
   simp
  rw[e4]
  have g4:=g3.IT (vs':=vs++[((j+1:Nat):Int)+1])
  exact⟨a',rfl,g4,f3.trans .p,g3.keep .p e3⟩
 ·obtain rfl:j=m:=by omega
  rw[(hk.at _).mpr h1]
  show ite (false=true) _ _
  rw[if_neg (by decide)]
  exact q H' _ g' f'
def Bl:List V->Hp->VK->Prop:=λxs H Q=>∃ d Mf,xs=[.ref d]/\H d=some (.dT Mf)/\∀ (l:Addr) (as:List Addr),H l=none->as.length=Mf.length->(∀ i (h:i<as.length) (h':i<Mf.length),H as[i]=some (.tup (Mf[i].1.map kV)))->Q (.ref l) (upd H l (.lst (as.map V.ref)))
def Jk(K:PySem.W.Frag)(sem:List PV->M PV)(E:St->XK):TS:=jr (Em (LG K "list" vZ (ik 4) (lH (tC (.int 1)) uz))) (jr (pG (ik 5) (aH 6)) (jr (Et sem E) (jr (pG (JL Bl (lH (ik 3) uz)) (aH 7)) (jr (pG (ik 2) (aH 8)) (jr (AV K sem E) oz)))))
theorem DM(hs:∀ A B:List Int,sem [.tup (A.map .int),.tup (B.map .int),.lst (S.map .int)]=M.ok (.tup ((sm A B).map .int))){a:V}{d p ar ae:Addr}{x6 x7 x8 x9 NL:Option V}{L:Nat}
  (g:Gp d p H Mf vs) (hv:vs.length<sizeLine) (hc:H c=some (.lst (S.map V.int))) (NV:c≠p) (hr:H ar=some (.tup (r.map V.int))) (he:H ae=some (.tup (z.map V.int))) (hk:Kd Mf T) (hL:Mf.length<=L) (h0:∀ j,j<m->¬ T (uF sm r j)) (h1:T (uF sm r m)) (hm:m<sizeLine) (hz:L*(m+1)<=sizeLine)
  (q:∀ H' Mo x6' x7' x8' Pg Nz,Gp d p H' Mo (vs++[(m:Int)+1])->Fr d p H H'->Kd Mo (Nx sm z r m T)->Mo.length<=L*(m+1)->D.nx (gS a (.ref c) (.ref ae) (.ref d) (.ref p) (some (.ref ar)) x6' x7' x8' Pg Nz) H') :
  Jk K sem E D (gS a (.ref c) (.ref ae) (.ref d) (.ref p) (some (.ref ar)) x6 x7 x8 x9 NL) H:=by
 have OC:c≠d:=λz=>by rw[z,g.hd] at hc;(injection hc with h;nomatch h)
 refine⟨.ref p,rfl,.inl ⟨rfl,_,eI.of g.hp⟩,p,_,.int 1,rfl,rfl,g.hp,by rw[List.length_map];exact hv,.ref ar,rfl,?_⟩
 rw[show vs.map V.int++[.int 1]=(vs++[1]).map V.int by simp]
 have g1:=g.IT (vs':=vs++[1])
 have f1:Fr d p H _:=Fr.p (o:=.lst ((vs++[1]).map V.int))
 refine zm hs (T:=T) g1 (f1 _ _ OC NV hc) NV (g.keep f1 hr) hk h0 h1 λH2 x6' g2 f2=>?_
 have f2:=f1.trans f2
 refine⟨.ref d,rfl,d,Mf,rfl,g2.hd,λl as hl la ha=>?_⟩
 obtain⟨Os,eO,hO⟩:=hk.ints
 have eL:Mf.length=Os.length:=by have:=congrArg List.length eO;simpa using this
 have nl:l≠d/\l≠p:=⟨λy=>by (rw[y,g2.hd] at hl;cases hl),λy=>by (rw[y,g2.hp] at hl;cases hl)⟩
 have s3:bf H2 (upd H2 l (.lst (as.map V.ref))):=λx u e=>by rw[ao (λy=>by rw[y,hl] at e;cases e)];exact e
 have f3:=f2.trans (Fr.of (d:=d) (p:=p) s3)
 refine⟨.ref ae,rfl,?_⟩
 refine xj hs (T:=T) (Os:=Os) (as:=as) (z:=z) (r:=r) (g2.grow s3) (f3 _ _ OC NV hc) NV az nl.2 (la.trans eL) (λi h h'=>?_) (g.keep f3 he) (g.keep f3 hr) hk hO eL hm (Nat.le_trans (Nat.mul_le_mul_right _ (by omega)) hz) λH4 Pd y8 y9 Ph g4 f4 k4 l4=>?_
 ·refine s3 _ _ ?_
  rw[ha i h (by omega)]
  have:Mf[i].1=ky Os[i]:=by
   have:=List.getElem_of_eq eO (i:=i) (by simpa using (show i<Mf.length by omega))
   simpa using this
  rw[this,wM]
 ·exact q H4 Pd _ _ _ _ _ g4 (f3.trans f4) k4 (Nat.le_trans l4 (Nat.mul_le_mul_right _ (by omega)))
def ES(K:PySem.W.Frag)(sem:List PV->M PV)(E:St->XK):TS:=Af (wg K (ik 0)) (aH 5) (Jk K sem E)
theorem zM(hs:∀ A B:List Int,sem [.tup (A.map .int),.tup (B.map .int),.lst (S.map .int)]=M.ok (.tup ((sm A B).map .int))){al d p ae:Addr}{x5 x6 x7 x8 x9 NL:Option V}{R:List (List Int)}{L:Nat}
  (g:Gp d p H Mf []) (hR:R.length<=sizeLine) (hc:H c=some (.lst (S.map V.int))) (NV:c≠p) (NM:H al=some (.lst rv)) (np:al≠p) (hl:rv.length=R.length) (ha:∀ i (h:i<rv.length) (h':i<R.length),∃ b,rv[i]=.ref b/\H b=some (.tup (R[i].map V.int))) (he:H ae=some (.tup (z.map V.int))) (hk:Kd Mf T) (hL:Mf.length<=L) (hr:Runs sm z T L R ns)
  (q:∀ H' Mo y5 y6 y7 y8 y9 Ph,Gp d p H' Mo ns->Fr d p H H'->D.nx (gS (.ref al) (.ref c) (.ref ae) (.ref d) (.ref p) y5 y6 y7 y8 y9 Ph) H') :
  ES K sem E D (gS (.ref al) (.ref c) (.ref ae) (.ref d) (.ref p) x5 x6 x7 x8 x9 NL) H:=by
 have nd:al≠d:=λz=>by rw[z,g.hd] at NM;(injection NM with h;nomatch h)
 have OC:c≠d:=λz=>by rw[z,g.hd] at hc;(injection hc with h;nomatch h)
 refine⟨.ref al,rfl,al,rfl,⟨_,eI.of NM⟩,?_⟩
 let J:Nat->St->Hp->Prop:=λi σ H'=>∃ Mo y5 y6 y7 y8 y9 Ph vs N7 T' L',σ=gS (.ref al) (.ref c) (.ref ae) (.ref d) (.ref p) y5 y6 y7 y8 y9 Ph/\Gp d p H' Mo vs/\Fr d p H H'/\vs.length=i/\vs++N7=ns/\Kd Mo T'/\Mo.length<=L'/\Runs sm z T' L' (R.drop i) N7
 refine⟨λi k σ H'=>k=R.length-i/\i<=R.length/\J i σ H',⟨_,rfl,Nat.zero_le _,Mf,x5,x6,x7,x8,x9,NL,[],ns,T,L,rfl,g,Fr.refl,rfl,rfl,hk,hL,hr⟩,?_⟩
 rintro i k σ H' ⟨rfl,hi,Mo,y5,y6,y7,y8,y9,Ph,vs,N7,T',L',rfl,g',f',lv,ev,k',l',r'⟩
 have NQ:H' al=some (.lst rv):=f' _ _ nd np NM
 by_cases lt:i<R.length
 ·have lt':i<rv.length:=by omega
  refine .inr ⟨⟨_,rv[i],eI.of NQ,List.getElem?_eq_getElem lt'⟩,J (i+1),fun σ2 H2 j=>⟨_,by omega,rfl,lt,j⟩,λy H2 yl=>?_⟩
  obtain⟨rfl,yl⟩:=yl
  have ey:=yl _ (eI.of NQ)
  rw[List.getElem?_eq_getElem lt'] at ey
  cases ey
  obtain⟨b,eb,hb⟩:=ha i lt' lt
  rw[eb]
  rw[List.drop_eq_getElem_cons lt] at r'
  obtain⟨m,n2,en,h0,h1,hm,hz,r2⟩:=r'
  refine DM hs (T:=T') (r:=R[i]) (L:=L') g' (by omega) (f' _ _ OC NV hc) NV (g.keep f' hb) (g.keep f' he) k' l' h0 h1 hm hz λH3 kvs3 z6 z7 z8 z9 z10 g3 f3 k3 l3=>?_
  exact⟨kvs3,_,z6,z7,z8,z9,z10,_,n2,_,_,rfl,g3,f'.trans f3,by simp[lv],by rw[← ev,en];simp,k3,l3,r2⟩
 ·refine .inl ⟨⟨_,eI.of NQ,by omega⟩,?_⟩
  rw[List.drop_eq_nil_of_le (by omega)] at r'
  cases (show N7=[] from r')
  rw[List.append_nil] at ev
  subst ev
  exact q H' Mo y5 y6 y7 y8 y9 Ph g' f'
def HP(K:PySem.W.Frag)(sem:List PV->M PV)(E:St->XK):TS:=jr (pG (BD (ik 2) (tC (.bl true))) (aH 3)) (jr (pG (GY uz) (aH 4)) (jr (ES K sem E) (jr (Iv (GY (lH (ik 3) (lH (ik 4) uz)))) oz)))
theorem Cr(hs:∀ A B:List Int,sem [.tup (A.map .int),.tup (B.map .int),.lst (S.map .int)]=M.ok (.tup ((sm A B).map .int))){al ae:Addr}{x3 x4 x5 x6 x7 x8 x9 NL:Option V}{R:List (List Int)}
  (hR:R.length<=sizeLine) (hc:H c=some (.lst (S.map V.int))) (NM:H al=some (.lst rv)) (hl:rv.length=R.length) (ha:∀ i (h:i<rv.length) (h':i<R.length),∃ b,rv[i]=.ref b/\H b=some (.tup (R[i].map V.int))) (he:H ae=some (.tup (z.map V.int))) (hr:Runs sm z (λA=>A=z) 1 R ns)
  (q:∀ l d p H',bf H H'->H p=none->H' l=some (.lst [.ref d,.ref p])->H' p=some (.lst (ns.map V.int))->D.rt (.ref l) H') :
  HP K sem E D [some (.ref al),some (.ref c),some (.ref ae),x3,x4,x5,x6,x7,x8,x9,NL] H:=by
 intro d hd
 have nae:ae≠d:=λy=>by rw[y,hd] at he;cases he
 have s1:bf H (upd H d (.dT [])):=λx u e=>by rw[ao (λy=>by rw[y,hd] at e;cases e)];exact e
 refine⟨.ref ae,rfl,_,ae,ky z,rfl,by rw[ao nae,wM];exact he,az,Nat.zero_le _,λp hp=>?_⟩
 rw[nu] at hp
 have ne:d≠p:=λy=>by rw[← y,az] at hp;cases hp
 have N4:H p=none:=by rw[ao ne.symm] at hp;exact hp
 rw[nu]
 have old:∀ x u,H x=some u->upd (upd H d (.dT [(ky z,.bl true)])) p (.lst []) x=some u:=λx u e=>by
  rw[ao (λy=>by rw[y,N4] at e;cases e),ao (λy=>by rw[y,hd] at e;cases e)];exact e
 have g:Gp d p (upd (upd H d (.dT [(ky z,.bl true)])) p (.lst [])) [(ky z,.bl true)] []:=⟨ne,by rw[ao ne,az],az⟩
 refine zM hs (T:=λA=>A=z) (L:=1) g hR (old _ _ hc) (λy=>by rw[y,N4] at hc;cases hc) (old _ _ NM) (λy=>by rw[y,N4] at NM;cases NM) hl (λi h h'=>let ⟨b,e,hb⟩:=ha i h h';⟨b,e,old _ _ hb⟩) (old _ _ he) (λk=>?_) (Nat.le_refl _) hr λH' Mo y5 y6 y7 y8 y9 Ph g' f'=>?_
 ·simp[Kd]
 ·refine⟨.ref d,rfl,.ref p,rfl,by show 2<=sizeLine;decide,λl O6=>?_⟩
  have sm:bf H H':=λx u e=>f' _ _ (λy=>by rw[y,hd] at e;cases e) (λy=>by rw[y,N4] at e;cases e) (old _ _ e)
  have nl:∀ x u,H' x=some u->x≠l:=λx u e y=>by rw[y,O6] at e;cases e
  exact q l d p _ (λx u e=>by rw[ao (nl _ _ (sm _ _ e))];exact sm _ _ e) N4 az (by rw[ao (nl _ _ g'.hp)];exact g'.hp)
end
theorem A1:Ia X Ed:=by
 intro Me s σ H o i ov iv Q I ro ri h
 obtain⟨p,xs,v,rfl,rfl,hp,he,q⟩:=h
 cases ro
 obtain⟨t,rfl⟩:=ri
 obtain⟨Mg,r,pl,hz⟩:=I.list (eI.of hp)
 obtain⟨j,h1,h2,h3,h4,h5⟩:=mW he
 obtain⟨w,ew,NC⟩:=r.get h2
 have hl:=r.length
 have hn:=kC
 have hj:((-1:Int)+(Mg.toArray.size:Int)).toNat=j:=by
  rw[seqIndex_neg (by omega) h4] at h1
  rw[List.size_toArray,← hl]
  exact Option.some.inj h1
 exact wpAny_getItem_list_neg pl.isList (by omega) (by rw[List.size_toArray] <;> omega) (by omega) (by rw[hj];simpa using ew) ⟨v,H,I,NC,q⟩
def qp(sem:List PV->M PV)(f1:ai->M PV)(ps:List PV)(ns:List Int):Prop :=
 ∃ (R:List (List Int)) (S z:List Int) (sm:List Int->List Int->List Int),ps=[.lst (R.map λr=>.tup (r.map .int)),.lst (S.map .int)]/\(∀ A B:List Int,sem [.tup (A.map .int),.tup (B.map .int),.lst (S.map .int)]=M.ok (.tup ((sm A B).map .int))) ∧
  f1 (jL 11 ps)=M.ok (.tup (z.map .int))/\R.length<=sizeLine/\Runs sm z (λA=>A=z) 1 R ns
theorem ng{A B:List Int}(h:A.map PV.int=B.map PV.int):A=B:=(List.map_inj_right λa b h=>PV.int.inj h).mp h
theorem qp.uniq{sem:List PV->M PV}{f1:ai->M PV}{ps:List PV}{ns N7:List Int}(a:qp sem f1 ps ns)(b:qp sem f1 ps N7):ns=N7:=by
 obtain⟨R,S,z,sm,e1,e2,e3,_,e4⟩:=a
 obtain⟨R',S',z',sm',f1',f2,f3,_,f4⟩:=b
 rw[e1] at f1'
 injection f1' with g1 g2
 injection g2 with g2 _
 have hR:R=R':=(List.map_inj_right λa b h=>ng (PV.tup.inj h)).mp (PV.lst.inj g1)
 have hS:S=S':=ng (PV.lst.inj g2)
 subst hR hS
 rw[e3] at f3
 have hz:z=z':=ng (PV.tup.inj (Except.ok.inj (Option.some.inj f3)))
 subst hz
 have hs:sm=sm':=by
  funext A B
  have:=(e2 A B).symm.trans (f2 A B)
  exact ng (PV.tup.inj (Except.ok.inj (Option.some.inj this)))
 subst hs
 exact Runs.uniq e4 f4
open Classical in
def sR(sem:List PV->M PV)(f1:ai->M PV)(ps:List PV):M PV:=if h:∃ ns,qp sem f1 ps ns then M.ok (.lst (h.choose.map .int)) else none
variable{f1:ai->M PV}
theorem CV{ps:List PV}(h:qp sem f1 ps ns):sR sem f1 ps=M.ok (.lst (ns.map .int)):=by
 unfold sR
 have e:∃ ns,qp sem f1 ps ns:=⟨ns,h⟩
 rw[dif_pos e,e.choose_spec.uniq h]
def K6(n:Nat)(sem:List PV->M PV):Sp:=λvs H Q E=>vs.length=n/\∃ Hs ps,bf Hs H/\aL Hs ps vs/\aw (sem ps) (λp=>∀ (l d:Addr) (b:V) (Mi H':Hp),bJ Hs H Mi H'->H' l=some (.lst [.ref d,b])->Rep Mi p b->Q (.ref l) H') (XW E Hs H)
theorem aL.wF{H:Hp}:∀ l:List Int,aL H (l.map PV.int) (l.map V.int)
 | []=>.nil
 | x::r=>.cons (.int x) (aL.wF r)
theorem aL.rows{Hs:Hp}:∀ {R:List (List Int)} {rv:List V},aL Hs (R.map λr=>.tup (r.map .int)) rv->∀ i (h:i<rv.length) (h':i<R.length),∃ b,rv[i]=.ref b/\Hs b=some (.tup (R[i].map V.int))
 | [],_,.nil,i,h,_=>absurd h (Nat.not_lt_zero i)
 | _::_,_,.cons (.tup h r) t,0,_,_=>⟨_,rfl,by rw[r.ints] at h;exact h⟩
 | _::_,_,.cons _ t,i+1,h,h'=>t.rows i (Nat.lt_of_succ_lt_succ h) (Nat.lt_of_succ_lt_succ h')
variable{base:Heap}{mg:Str->Option Value}{P:Program}
variable{k:Nat}{ps:List Str}{fd:FuncData}{dv:Value}{x:Str}
section
variable{K:PySem.W.Frag}
theorem bo.LM{qual:Str}{st:Stmt}{f:Addr}{N:List Str}(F:bo K x qual st dv f fd)(S:b_ N ps (aM st))(hN:N.length=11)(O9:ps.length=2)
  (hb:∀ (Mr:Value) (A:Around) (outer:List Env) (s:Shared) (H:Hp) (E:XK),bP k (A.deeper (envOfC qual (aM st) s.heap.objs.size f Mr))->dz ((kb (bY P w) P w K mg base N qual (aM st) f Mr A outer s H E).out λ_=>E) (λ_=>E)->kc ((kb (bY P w) P w K mg base N qual (aM st) f Mr A outer s H E).out λ_=>E) (dw st) (jr (pG (tE (λ_=>E) f1) (aH 2)) (HP K sem λ_=>E))) :
  aW P w K mg base (bY P w) (k+1) f fd ps (K6 2 (bg 2 (sR sem f1))):=by
 obtain⟨oc,od,kV,doc,pm,an,Mr,ct,Od,rfl,lk,Nc⟩:=F.ex
 refine rT lk Nc S (λvs H Q E h=>h.1.trans O9.symm) λA outer s H vs Q E hr hs=>⟨_,hb Mr A outer s H E hr (wO rfl rfl),?_⟩
 obtain⟨_,Hs,Nn,sm,r,h⟩:=hs
 obtain⟨l2,h⟩:=aw.cC h
 unfold sR at h
 split at h
 ·rename_i ex
  obtain⟨R,S',z,smf,e1,e2,e3,e4,e5⟩:=ex.choose_spec
  have sr:=SR.start (N:=N) sm r
  rw[hN] at sr
  refine⟨Hs,H,Hs,_,sr,?_⟩
  rw[e3]
  intro v Mi H' g rv
  subst e1
  cases r with
  | cons r1 r=>cases r with
   | cons r2 r =>
    cases r
    cases r1 with
    | @lst al _ rvs ha ra=>cases r2 with
     | @lst c _ _ hc rc=>cases rv with
      | @tup ae _ _ he re =>
       rw[rc.ints] at hc
       rw[re.ints] at he
       have est:start N [V.ref al,V.ref c]=[some (.ref al),some (.ref c),none,none,none,none,none,none,none,none,none]:=by
        unfold start
        rw[hN]
        rfl
       rw[est]
       have up:∀ a o,Hs a=some o->H' a=some o:=λa o e=>g.al _ _ (sm _ _ e)
       refine Cr e2 e4 (up _ _ hc) (up _ _ ha) (by rw[← ra.length,List.length_map]) (λi h h'=>let ⟨b,eb,hb⟩:=ra.rows i h h';⟨b,eb,up _ _ hb⟩) (g.sub _ _ he) e5 λl d p H2 s2 np hl hp=>?_
       have nH:H p=none:=by
        cases y:H p with
        | none=>rfl
        | some o=>have:=g.al _ _ y;rw[np] at this;cases this
       have nHs:Hs p=none:=by
        cases y:Hs p with
        | none=>rfl
        | some o=>have:=sm _ _ y;rw[nH] at this;cases this
       refine h l d (.ref p) (upd Hs p (.lst (ex.choose.map V.int))) H2 ⟨λa o e=>?_,λa o e=>s2 _ _ (g.al _ _ e),λa o e=>?_,λa o e1 e2=>?_⟩ hl (.lst az (aL.wF _))
       ·rw[ao (λy=>by rw[y,nHs] at e;cases e)];exact e
       ·by_cases y:a=p
        ·subst y;rw[az] at e;rw[hp];exact e
        ·rw[ao y] at e;exact s2 _ _ (up _ _ e)
       ·rw[ao (λy=>by rw[y,nH] at e2;cases e2)];exact e1
 ·exact h.elim
end
structure JD (P:Program) (w:World) (K:PySem.W.Frag) (mg:Str->Option Value) (base:Heap) (n:Nat) (x:Str) (m:Nat) (sem:List PV->M PV):Prop where
 ex:∃ (f:Addr) (fd:FuncData) (ps:List Str),mg x=some (.ref f)/\PySem.W.keepIn K (.ref f)=true/\ps.length=m/\Binds K fd ps []/\aW P w K mg base (bY P w) n f fd ps (K6 m (bg m sem))
variable{es:List Expr}{e:Expr}
theorem JD.IL{n:Nat}{fs:ai->M (List PV)}{p pos p1 p2:Pos}(F:JD X.prog X.w X.K X.mg X.base n x m sem)(hr:bP k X.A)(hn:n<=k)(hg:Gl X x)(O:dz X E)(ha:PA X (e::es) (tL E fs))(MP:autoParam ((x==("__debug__" : Str))=false) aD._auto_1)(he:autoParam (starEach (e::es) X.env=(false,eval e X.env)::starEach es X.env) aR._auto_1)(Mt:autoParam ((backTo pos (starEach es X.env)).any (·.1)=false) aR._auto_1) :
  PE X (.Subscript (.Call (.Name x p) (e::es) [] pos) (.Constant (.int 1) j p1) p2) (tE E (aj (bg m sem) fs)):=by
 obtain⟨f,fd,ps,h1,h2,h3,h4,h5⟩:=F.ex
 refine(AS ve (oo (p:=p) h5 (hr.mono hn) hg h1 h2 h4 .nil O ha MP he Mt) kJ (λ_ _=>rfl)).imp fun σ H Q q=>cM (K:=ir Q) ir.g q λB H₀ Hs H1 env Nn v sr rp hp=>?_
 have hl:bg m sem Nn≠none:=λz=>by rw[z] at hp;exact hp
 rw[List.append_nil]
 refine⟨by rw[← rp.length];exact lJ hl,Hs,Nn,sr.gr.sub,rp,hp.imp (λz hz l d b Mi H' g hl rb=>?_) λe he=>he⟩
 exact .inl ⟨l,[.ref d,b],1,b,rfl,rfl,eI.of hl,rfl,hz b Mi H' g rb⟩
theorem dm.raw{n:Nat}{t:TA}{p pos:Pos}(F:dm X.prog X.w X.K X.mg X.base n x m sem)(hr:bP k X.A)(hn:n<=k)(hg:Gl X x)(O:dz X E)(ha:PA X (e::es) t)(MP:autoParam ((x==("__debug__" : Str))=false) aD._auto_1)(he:autoParam (starEach (e::es) X.env=(false,eval e X.env)::starEach es X.env) aR._auto_1)(Mt:autoParam ((backTo pos (starEach es X.env)).any (·.1)=false) aR._auto_1) :
  PE X (.Call (.Name x p) (e::es) [] pos) (u9 (dJ m (bg m sem)) [] E t):=by
 obtain⟨f,fd,ps,h1,h2,h3,h4,h5⟩:=F.ex
 exact oo (p:=p) h5 (hr.mono hn) hg h1 h2 h4 .nil O ha MP he Mt
theorem bP.u1(r:bP k A):A.units+1<cLine:=by have:=r.units;omega
theorem vG(hc:X.calm=true):cy X (.type "list") Bl:=rn hc
variable{α β:Type}
variable{x0:Option SV}
variable{body:ai->M Out}
section
open PySem.SeqAt (shaped noMix noMixAll)
theorem M.aS(a:α)(f:α->M β):M.bind (M.ok a) f=f a:=Eq.trans rfl rfl
theorem M.AD(e:EX)(f:α->M β):M.bind (some (Except.error e)) f=some (.error e):=Eq.trans rfl rfl
theorem M.bind_none(f:α->M β):M.bind none f=none:=Eq.trans rfl rfl
theorem M.bind_some(a:α)(f:α->M β):M.bind (some (Except.ok a)) f=f a:=Eq.trans rfl rfl
theorem M.bind_assoc{γ:Type}(x:M α)(f:α->M β)(g:β->M γ):M.bind (M.bind x f) g=M.bind x λa=>M.bind (f a) g:=by
 cases x with
 | none=>rfl
 | some x=>cases x <;> rfl
theorem ay{c:Prop}[Decidable c]{x:M α}(h:c):cC c x=x:=if_pos h
theorem Gx(a:α):zH (M.ok a)=M.ok a:=Eq.trans rfl rfl
theorem yi(x:PV):eD (some x)=M.ok x:=Eq.trans rfl rfl
theorem uo(g:ai->M Out)(env:ai):zZ g (.nx env)=g env:=Eq.trans rfl rfl
theorem sT(g:ai->M Out)(p:PV):zZ g (.rt p)=M.ok (.rt p):=Eq.trans rfl rfl
theorem CI(b:Bool):vD (.bl b)=M.ok b:=Eq.trans rfl rfl
theorem DF(p:PV):Gh (.rt p)=M.ok p:=Eq.trans rfl rfl
theorem CJ(e:ai):Gh (.nx e)=M.ok .cL:=Eq.trans rfl rfl
def tI(xs:List Int):PV:=.tup (xs.map PV.int)
def lI(xs:List Int):PV:=.lst (xs.map PV.int)
theorem DQ(xs:List Int):bX (tI xs)=some (xs.map PV.int):=Eq.trans rfl rfl
theorem Ct(xs:List Int):bX (lI xs)=some (xs.map PV.int):=Eq.trans rfl rfl
theorem Az(xs:List PV):bX (.tup xs)=some xs:=Eq.trans rfl rfl
theorem tN(xs:List PV):bX (.lst xs)=some xs:=Eq.trans rfl rfl
theorem BN(xs:List PV):bX (.jh xs)=some xs:=Eq.trans rfl rfl
theorem B_(xs:List Int):sA (tI xs)=M.ok (.int xs.length):=by simp[sA,tI,bX,eD]
theorem B7(xs:List Int):sA (lI xs)=M.ok (.int xs.length):=by simp[sA,lI,bX,eD]
theorem Bq(xs:List PV):sA (.tup xs)=M.ok (.int xs.length):=Eq.trans rfl rfl
theorem Av(xs:List PV):sA (.lst xs)=M.ok (.int xs.length):=Eq.trans rfl rfl
theorem y_(xs:List PV):sA (.jh xs)=M.ok (.int xs.length):=Eq.trans rfl rfl
theorem A3(xs:List Int):xB [.lst (xs.map PV.int)]=M.ok (.int xs.sum):=by simp[xB,Jn,qz,eD]
theorem sN(xs:List Bool):sM [.lst (xs.map PV.bl)]=M.ok (.bl (xs.all id)):=by simp[sM,all1,tZ,eD]
theorem jD{inj h:α->PV}{rest:ai}(xs:List α)(H:∀ a∈xs,f (some (.sh (inj a))::rest)=M.ok (h a)):cj (cB 0) none f (xs.map inj) (x0::rest)=M.ok (xs.map h):=by
 induction xs generalizing x0 with
 | nil=>rfl
 | cons a r ih =>
  rw[List.map_cons,cj]
  show M.bind (M.ok ((x0::rest).set 0 (some (.sh (inj a))))) _=_
  rw[M.aS,List.set_cons_zero]
  show M.bind (f _) _=_
  rw[H a List.mem_cons_self,M.aS,ih λb hb=>H b (List.mem_cons_of_mem _ hb)]
  rfl
theorem kN{p q h:α->PV}{rest:ai}{x1:Option SV}(xs:List α)(H:∀ a∈xs,f (some (.sh (p a))::some (.sh (q a))::rest)=M.ok (h a)):cj (cA 0 1) none f (xs.map λa=>.tup [p a,q a]) (x0::x1::rest)=M.ok (xs.map h):=by
 induction xs generalizing x0 x1 with
 | nil=>rfl
 | cons a r ih =>
  rw[List.map_cons,cj]
  show M.bind (M.ok (((x0::x1::rest).set 0 (some (.sh (p a)))).set 1 (some (.sh (q a))))) _=_
  rw[M.aS,List.set_cons_zero,List.set_cons_succ,List.set_cons_zero]
  show M.bind (f _) _=_
  rw[H a List.mem_cons_self,M.aS,ih λb hb=>H b (List.mem_cons_of_mem _ hb)]
  rfl
theorem Hm{p q s h:α->PV}{rest:ai}{x1 x2:Option SV}(xs:List α)(H:∀ a∈xs,f (some (.sh (p a))::some (.sh (q a))::some (.sh (s a))::rest)=M.ok (h a)):cj (pY 0 1 2) none f (xs.map λa=>.tup [p a,q a,s a]) (x0::x1::x2::rest)=M.ok (xs.map h):=by
 induction xs generalizing x0 x1 x2 with
 | nil=>rfl
 | cons a r ih =>
  rw[List.map_cons,cj]
  show M.bind (M.ok ((((x0::x1::x2::rest).set 0 (some (.sh (p a)))).set 1 (some (.sh (q a)))).set 2 (some (.sh (s a))))) _=_
  rw[M.aS,List.set_cons_zero,List.set_cons_succ,List.set_cons_zero,List.set_cons_succ,List.set_cons_succ,List.set_cons_zero]
  show M.bind (f _) _=_
  rw[H a List.mem_cons_self,M.aS,ih λb hb=>H b (List.mem_cons_of_mem _ hb)]
  rfl
theorem fw{f:α->PV}{g:β->PV}{p q:PV}(xs:List α)(ys:List β)(hp:bX p=some (xs.map f))(hq:bX q=some (ys.map g)):zip2 [p,q]=M.ok ((xs.zip ys).map λz=>.tup [f z.1,g z.2]):=by
 simp only[zip2,hp,hq]
 congr 2
 rw[List.zipWith_map,List.zip_eq_zipWith,List.map_zipWith]
theorem BR{γ:Type}{f:α->PV}{g:β->PV}{h:γ->PV}{p q r:PV}(xs:List α)(ys:List β)(zs:List γ)(hp:bX p=some (xs.map f))(hq:bX q=some (ys.map g))(hr:bX r=some (zs.map h)):xf [p,q,r]=M.ok ((xs.zip (ys.zip zs)).map λz=>.tup [f z.1,g z.2.1,h z.2.2]):=by
 simp only[xf,hp,hq,hr]
 congr 2
 clear hp hq hr
 induction xs generalizing ys zs with
 | nil=>cases ys <;> cases zs <;> rfl
 | cons a r ih =>
  cases ys with
  | nil=>rfl
  | cons b s =>
   cases zs with
   | nil=>rfl
   | cons c t=>simp only[List.map_cons,jm,List.zip_cons_cons,ih]
theorem xF{f:α->PV}(xs:List α):gH (xs.map f)=(xs.zipIdx).map λz=>.tup [.int (z.2:Int),f z.1]:=by
 unfold gH
 rw[List.mapIdx_eq_zipIdx_map,List.zipIdx_map,List.map_map]
 rfl
theorem uf{set:PV->ai->M ai}{body:ai->M Out}{α:Type}{inj:α->PV}(J:List α->ai->Prop)
  (H:∀ a r env,J (a::r) env->∃ e' Mh,set (inj a) env=M.ok e'/\body e'=M.ok (.nx Mh)/\J r Mh):∀ (xs:List α) (env:ai),J xs env->∃ Mh,jK set body (xs.map inj) env=M.ok (.nx Mh)/\J [] Mh
 | [],env,h=>⟨env,rfl,h⟩
 | a::r,env,h=>by
  obtain⟨e',Mh,h1,h2,h3⟩:=H a r env h
  obtain⟨Oe,h4,h5⟩:=uf J H r Mh h3
  refine⟨Oe,?_,h5⟩
  rw[List.map_cons,jK,h1,M.aS,h2,M.aS]
  exact h4
theorem qw{b:ai->M Out}(J:ai->Prop)(m:ai->Nat)
  (H:∀ env,J env->(u env=M.ok false)\/(u env=M.ok true/\∃ Mh,b env=M.ok (.nx Mh)/\J Mh/\m Mh<m env)) (env:ai) (h:J env):∃ Mh,kM u b env=M.ok (.nx Mh)/\J Mh/\u Mh=M.ok false:=by
 have key:∀ (n:Nat) (env:ai),J env->m env<n->∃ Mh,cz u b n env=M.ok (.nx Mh)/\J Mh/\u Mh=M.ok false:=by
  intro n
  induction n with
  | zero=>intro env _ hn;omega
  | succ n ih =>
   intro env h hn
   rcases H env h with hu | ⟨hu,Mh,hb,hj,hm⟩
   ·exact⟨env,by rw[cz,hu,M.aS];rfl,h,hu⟩
   ·obtain⟨Oe,h1,h2,h3⟩:=ih Mh hj (by omega)
    exact⟨Oe,by rw[cz,hu,M.aS,if_pos rfl,hb,M.aS];exact h1,h2,h3⟩
 obtain⟨Mh,h1,h2,h3⟩:=key (m env+1) env h (Nat.lt_succ_self _)
 refine⟨Mh,?_,h2,h3⟩
 rw[yy (n:=m env+1) (by rw[h1];exact λz=>nomatch z),h1]
theorem log2_small{i:Int}(h:i.natAbs<2^k)(hk:k<=9000):i.natAbs.log2<67108864:=by
 by_cases z:i.natAbs=0
 ·rw[z];decide
 ·have:=(Nat.log2_lt z).mpr h
  omega
theorem bC{i j:Int}{l:Nat}(hi:i.natAbs<2^k)(hj:j.natAbs<2^l)(hk:autoParam (k<=9000) aD._auto_1)(hl:autoParam (l<=9000) aD._auto_1):bZ (.int i) (.int j)=M.ok (.int (i*j)):=by
 rw[bZ,ay ⟨log2_small hi hk,log2_small hj hl⟩]
theorem qb{i j:Int}(h0:j≠0)(h:j.natAbs<2^9000):cS (.int i) (.int j)=M.ok (.int (i.fdiv j)):=by
 show cC _ _=_
 refine ay (decide_eq_true ⟨h0,(Nat.log2_lt (by omega)).mpr h⟩)
theorem yQ{i j:Int}(h0:j≠0):c7 (.int i) (.int j)=M.ok (.int (i.fmod j)):=by
 show cC _ _=_
 exact ay (decide_eq_true h0)
theorem bF{i j:Int}(h0:0<j)(h:j<2^64):cS (.int i) (.int j)=M.ok (.int (i/j)):=by
 rw[qb (by omega) (Nat.lt_of_lt_of_le (show j.natAbs<2^64 by omega) (Nat.pow_le_pow_right (by decide) (by decide))),Int.fdiv_eq_ediv_of_nonneg _ (by omega)]
theorem aO{i j:Int}(h0:0<j):c7 (.int i) (.int j)=M.ok (.int (i%j)):=by
 rw[yQ (by omega),Int.fmod_eq_emod_of_nonneg _ (by omega)]
theorem bB{p:PV}{x:PV}(hs:bX p=some xs)(h:xs[j]?=some x):aV p (.int (j:Int))=M.ok x:=by
 cases p with
 | tup ys=>cases hs;simp only[aV,rW h,eD]
 | lst ys=>cases hs;simp only[aV,rW h,eD]
 | jh ys=>cases hs;simp only[aV,rW h,eD]
 | _=>cases hs
section
variable{b:String->Bool}{ob oe:Addr->Option Bool}
theorem Ge(xs:List Int):yJ b ob oe (tI xs)=M.ok (.bl (b "tuple")):=Eq.trans rfl rfl
theorem FK(xs:List Int):yJ b ob oe (lI xs)=M.ok (.bl (b "list")):=Eq.trans rfl rfl
theorem D7(xs:List PV):yJ b ob oe (.tup xs)=M.ok (.bl (b "tuple")):=Eq.trans rfl rfl
theorem B8(xs:List PV):yJ b ob oe (.lst xs)=M.ok (.bl (b "list")):=Eq.trans rfl rfl
theorem DZ(i:Int):yJ b ob oe (.int i)=M.ok (.bl (b "int")):=Eq.trans rfl rfl
theorem G3(i:Bool):yJ b ob oe (.bl i)=M.ok (.bl (b "bool")):=Eq.trans rfl rfl
theorem Cm:yJ b ob oe .cL=M.ok (.bl (b "NoneType")):=Eq.trans rfl rfl
theorem DE(x:Str):yJ b ob oe (.str x)=M.ok (.bl (b "str")):=Eq.trans rfl rfl
theorem DR:yJ b ob oe .emp=M.ok (.bl (b "dict")):=Eq.trans rfl rfl
end
theorem Dy(i j:Int):uT (.int i) (.int j)=M.ok (.bl (!decide (i=j))):=by
 simp only[uT,nR,dat,EG,shaped,PyData.canLay0,PyData.depth,noMix]
 rw[ay ⟨rfl,rfl,trivial⟩]
 unfold same
 rw[M.aS];congr
theorem DC(i j:Int):pd (.int i) (.int j)=M.ok (.bl (decide (i=j))):=by
 simp only[pd,nR,dat,EG,shaped,PyData.canLay0,PyData.depth,noMix]
 rw[ay ⟨rfl,rfl,trivial⟩]
 unfold same
 rw[M.aS];congr
theorem Fw(i j:Bool):uT (.bl i) (.bl j)=M.ok (.bl (!decide (i=j))):=by
 simp only[uT,nR,dat,EG,shaped,PyData.canLay0,PyData.depth,noMix]
 rw[ay ⟨rfl,rfl,trivial⟩]
 unfold same
 rw[M.aS];congr
theorem E8(i j:Bool):pd (.bl i) (.bl j)=M.ok (.bl (decide (i=j))):=by
 simp only[pd,nR,dat,EG,shaped,PyData.canLay0,PyData.depth,noMix]
 rw[ay ⟨rfl,rfl,trivial⟩]
 unfold same
 rw[M.aS];congr
theorem pZ(xs:List Int):mU (xs.map PV.int)=some (xs.map PyData.int):=by
 induction xs with
 | nil=>rfl
 | cons a r ih=>simp[mU,dat,ih]
theorem mD(xs:List Int):PyData.canLayAll0 (xs.map PyData.int)=true:=by
 induction xs with
 | nil=>rfl
 | cons a r ih=>simp[PyData.canLayAll0,PyData.canLay0,ih]
theorem oE(xs:List Int):PyData.depthAll (xs.map PyData.int)=0:=by
 induction xs with
 | nil=>rfl
 | cons a r ih=>simp[PyData.depthAll,PyData.depth,ih]
theorem noMix_ints:∀ (xs ys:List Int),noMixAll (xs.map PyData.int) (ys.map PyData.int)=true
 | [],[]=>by simp[noMixAll]
 | [],_::_=>by simp[noMixAll]
 | _::_,[]=>by simp[noMixAll]
 | a::r,b::s=>by simp[noMixAll,noMix,noMix_ints r s]
theorem same_ints:∀ (xs ys:List Int),sameAll (xs.map PyData.int) (ys.map PyData.int)=decide (xs=ys)
 | [],[]=>by simp[sameAll]
 | [],_::_=>by simp[sameAll]
 | _::_,[]=>by simp[sameAll]
 | a::r,b::s=>by
  simp only[List.map_cons,sameAll,same_ints r s]
  unfold same
  rw[Bool.eq_iff_iff];simp
theorem AI(xs ys:List Int):uT (tI xs) (tI ys)=M.ok (.bl (!decide (xs=ys))):=by
 simp only[uT,nR,dat,tI,pZ,Option.map_some,EG]
 rw[ay (by simp[shaped,PyData.canLay0,PyData.depth,mD,oE,noMix,noMix_ints])]
 unfold same
 rw[same_ints];rfl
theorem Dp(i j:Int):BS (.int i) (.int j)=M.ok (.bl (decide (i<j))):=Eq.trans rfl rfl
theorem DN(i j:Int):BU (.int i) (.int j)=M.ok (.bl (decide (i<=j))):=Eq.trans rfl rfl
theorem DS(i j:Int):Dv (.int i) (.int j)=M.ok (.bl (decide (j<i))):=Eq.trans rfl rfl
theorem DY(i j:Int):Hw (.int i) (.int j)=M.ok (.bl (decide (j<=i))):=Eq.trans rfl rfl
theorem Au(i j:Int):cP (.int i) (.int j)=M.ok (.int (i+j)):=Eq.trans rfl rfl
theorem zI(i j:Int):jd (.int i) (.int j)=M.ok (.int (i-j)):=Eq.trans rfl rfl
theorem iB(h:0<=n)(h2:n<2^62):og [.int n]=M.ok ((List.range n.toNat).map λ(i:Nat)=>.int (i:Int)):=by
 show cC (-(2^62)<=n/\n<2^62) _=_
 rw[ay (by omega)]
 simp
theorem eP{set:PV->ai->M ai}{inj:α->PV}{k:Out->M β}{r:M β}(xs:List α)(J:List α->ai->Prop){env:ai}(h:J xs env)
  (H:∀ a r env,J (a::r) env->∃ e' Mh,set (inj a) env=M.ok e'/\body e'=M.ok (.nx Mh)/\J r Mh) (hk:∀ Mh,J [] Mh->k (.nx Mh)=r):M.bind (jK set body (xs.map inj) env) k=r:=by
 obtain⟨Mh,e,h'⟩:=uf J H xs env h
 rw[e,M.aS];exact hk Mh h'
theorem aX{n:Nat}(h:n<=1000):n<=sizeLine:=Nat.le_of_lt (lN h)
def tupK(ps:List PV):M PV:=cC (ps.length<=sizeLine) (M.ok (.tup ps))
def lstK(ps:List PV):M PV:=cC (ps.length<=sizeLine) (M.ok (.lst ps))
theorem Dj(fs:ai->M (List PV))(env:ai):iU fs env=(fs env).bind tupK:=rfl
theorem Cp(fs:ai->M (List PV))(env:ai):mJ fs env=(fs env).bind lstK:=rfl
theorem Hg:tupK []=M.ok (.tup []):=ay (aX (show 0<=1000 by decide))
theorem Fy:lstK []=M.ok (.lst []):=ay (aX (show 0<=1000 by decide))
theorem FX(a:PV):tupK [a]=M.ok (.tup [a]):=ay (aX (show 1<=1000 by decide))
theorem E7(a:PV):lstK [a]=M.ok (.lst [a]):=ay (aX (show 1<=1000 by decide))
theorem F6(a b:PV):tupK [a,b]=M.ok (.tup [a,b]):=ay (aX (show 2<=1000 by decide))
theorem Ho(a b:PV):lstK [a,b]=M.ok (.lst [a,b]):=ay (aX (show 2<=1000 by decide))
theorem Fz(a b c:PV):tupK [a,b,c]=M.ok (.tup [a,b,c]):=ay (aX (show 3<=1000 by decide))
theorem FV(a b c:PV):lstK [a,b,c]=M.ok (.lst [a,b,c]):=ay (aX (show 3<=1000 by decide))
theorem Fx(a b c d:PV):tupK [a,b,c,d]=M.ok (.tup [a,b,c,d]):=ay (aX (show 4<=1000 by decide))
theorem G6(a b c d:PV):lstK [a,b,c,d]=M.ok (.lst [a,b,c,d]):=ay (aX (show 4<=1000 by decide))
theorem GK(a b c d e:PV):tupK [a,b,c,d,e]=M.ok (.tup [a,b,c,d,e]):=ay (aX (show 5<=1000 by decide))
theorem G9(a b c d e:PV):lstK [a,b,c,d,e]=M.ok (.lst [a,b,c,d,e]):=ay (aX (show 5<=1000 by decide))
theorem Gq(a b c d e f:PV):tupK [a,b,c,d,e,f]=M.ok (.tup [a,b,c,d,e,f]):=ay (aX (show 6<=1000 by decide))
theorem GW(a b c d e f:PV):lstK [a,b,c,d,e,f]=M.ok (.lst [a,b,c,d,e,f]):=ay (aX (show 6<=1000 by decide))
end
def iX(m:M α)(Q:α->Prop):Prop:=∃ a,m=M.ok a/\Q a
section
variable{γ:Type}{Q Q':α->Prop}{m:M α}
theorem iX.eq{a:α}(h:iX m λx=>x=a):m=M.ok a:=by obtain⟨b,e,rfl⟩:=h;exact e
def Tn(J:ai->Prop)(B:ai->Prop)(R:PV->Prop):Out->Prop
 | .nx e=>J e
 | .ct e=>J e
 | .bk e=>B e
 | .rt p=>R p
theorem iX.Bh{set:PV->ai->M ai}{body:ai->M Out}{inj:γ->PV}{B:ai->Prop}{R:PV->Prop}(J:List γ->ai->Prop)
  (H:∀ a r env,J (a::r) env->iX (M.bind (set (inj a) env) body) (Tn (J r) B R)):∀ (xs:List γ) (env:ai),J xs env->iX (jK set body (xs.map inj) env) λo=>(∃ e,o=.nx e/\(J [] e\/B e))\/∃ p,o=.rt p/\R p
 | [],env,h=>⟨_,rfl,.inl ⟨_,rfl,.inl h⟩⟩
 | a::r,env,h=>by
  obtain⟨o,e,q⟩:=H a r env h
  rw[List.map_cons,jK,← M.bind_assoc,e,M.aS]
  cases o with
  | nx e'=>exact iX.Bh J H r e' q
  | ct e'=>exact iX.Bh J H r e' q
  | bk e'=>exact⟨_,rfl,.inl ⟨_,rfl,.inr q⟩⟩
  | rt p=>exact⟨_,rfl,.inr ⟨_,rfl,q⟩⟩
theorem iX.loop{R:β->Prop}{set:PV->ai->M ai}{inj:γ->PV}{k:Out->M β}{xs:List γ}{env:ai}(J:List γ->ai->Prop)(h:J xs env)
  (H:∀ a r env,J (a::r) env->iX (M.bind (set (inj a) env) body) (Tn (J r) (λ_=>False) λ_=>False)) (hk:∀ Mh,J [] Mh->iX (k (.nx Mh)) R):iX (M.bind (jK set body (xs.map inj) env) k) R:=by
 obtain⟨o,e,q⟩:=iX.Bh J H xs env h
 rw[e,M.aS]
 rcases q with ⟨e',rfl,q | q⟩ | ⟨p,_,q⟩
 ·exact hk e' q
 ·exact q.elim
 ·exact q.elim
end
def HL(i:Nat)(env:ai)(xs:List PV)(p:PV):M Out:=if xs.length<sizeLine then M.ok (.nx (env.set i (some (.ow (xs++[p]))))) else none
theorem jV(i:Nat)(f:ai->M PV)(env:ai):kO i f env=(ownAt i env).bind λxs=>(f env).bind λp=>HL i env xs p:=by
 unfold kO ownAt
 rcases env[i]? with _ | _ | (_ | _ | _) <;> rfl
theorem jO{env:ai}{p:PV}(h:xs.length<1000):HL i env xs p=M.ok (.nx (env.set i (some (.ow (xs++[p]))))):=if_pos (lN (Nat.le_of_lt h))
def s_(C:Addr)(m:Str)(sem:List PV->M PV)(p:PV)(x:M (List PV)):M PV:=match p with
 | .obj C' fl=>cC (C'=C/\fl.lookup m=none) (x.bind λps=>sem (.obj C' fl::ps))
 | _=>none
theorem iA(C:Addr)(m:Str)(sem:List PV->M PV)(g:ai->M PV)(fs:ai->M (List PV))(env:ai):cN C m sem g fs env=(g env).bind λp=>s_ C m sem p (fs env):=rfl
variable{C:Addr}
theorem lP{m:Str}{fl:List (Str×PV)}{x:M (List PV)}(h:fl.lookup m=none):s_ C m sem (.obj C fl) x=x.bind λps=>sem (.obj C fl::ps):=ay ⟨rfl,h⟩
theorem G4(xs ys:List Int):pd (lI xs) (lI ys)=M.ok (.bl (decide (xs=ys))):=by
 simp only[pd,nR,dat,lI,pZ,Option.map_some,EG]
 rw[ay (by simp[SeqAt.shaped,PyData.canLay0,PyData.depth,mD,oE,SeqAt.noMix,noMix_ints])]
 unfold same
 rw[same_ints];rfl
theorem gb(xs:List Int)(x:Int):xs.map PV.int++[.int x]=(xs++[x]).map PV.int:=by simp
theorem rB{f:α->PV}{p:PV}(xs:List α)(h:bX p=some (xs.map f)):Cu [p]=M.ok (xs.zipIdx.map λz=>.tup [.int (z.2:Int),f z.1]):=by
 show K9 p=_
 unfold K9
 rw[h]
 show M.ok (gH _)=_
 rw[xF]
theorem G5(xs:List Int):Cu [lI xs]=M.ok (xs.zipIdx.map λz=>.tup [.int (z.2:Int),.int z.1]):=rB xs rfl
theorem sj{f:α->PV}(xs:List α):Cu [.lst (xs.map f)]=M.ok (xs.zipIdx.map λz=>.tup [.int (z.2:Int),f z.1]):=rB xs rfl
theorem Cj(f:ai->M Out)(hs:List Hd)(env:ai):Ci f hs env=vi (f env) λx=>h9 hs x env:=rfl
theorem vx(x:EX)(k:EX->M Out):vi (some (.error x)) k=k x:=Eq.trans rfl rfl
theorem u_(t:Addr->Option Bool)(o:Option Nat)(h:ai->M Out)(r:List Hd)(x:EX)(env:ai):h9 ((t,o,h)::r) x env=qK (t x.1) (o6 o h x env) (h9 r x env):=Eq.trans rfl rfl
theorem FL(x y:M Out):qK (some true) x y=x:=Eq.trans rfl rfl
theorem BF(i:Nat)(h:ai->M Out)(x:EX)(env:ai):o6 (some i) h x env=(zH (h (env.set i (some (.sh (.exc x.1 x.2)))))).bind λout=>M.ok (qR i out):=Eq.trans rfl rfl
theorem L7{us:List α}(h:us.length=1):∃ a,us=[a]:=by
 cases us with
 | nil=>cases h
 | cons a t=>cases t with
  | nil=>exact⟨a,rfl⟩
  | cons b t=>cases h
theorem ln2{us:List α}(h:us.length=2):∃ a b,us=[a,b]:=by
 cases us with
 | nil=>cases h
 | cons a t=>obtain⟨b,rfl⟩:=L7 (Nat.succ.inj h);exact⟨a,b,rfl⟩
theorem LJ{us:List α}(h:us.length=3):∃ a b c,us=[a,b,c]:=by
 cases us with
 | nil=>cases h
 | cons a t=>obtain⟨b,c,rfl⟩:=ln2 (Nat.succ.inj h);exact⟨a,b,c,rfl⟩
def wk(K:PySem.W.Frag):Bool:=K.all λp=>match p.2.cls with
 | .type t=>t != "list"
 | _=>true
theorem Aw{K:PySem.W.Frag}(h:wk K=true){o:Obj}(e:K.lookup a=some o):o.cls≠.type "list" := by
 induction K with
 | nil=>cases e
 | cons p r ih =>
  obtain⟨b,u⟩:=p
  rw[wk,List.all_cons,Bool.and_eq_true] at h
  rw[List.lookup_cons] at e
  cases q:a==b with
  | true =>
   rw[q] at e;cases e
   intro z
   have h1:=h.1
   simp only[z] at h1
   exact absurd h1 (by decide)
  | false=>rw[q] at e;exact ih h.2 e
theorem qB{H:Hp}:∀ ns:List Int,aL H (ns.map PV.int) (ns.map V.int)
 | []=>.nil
 | i::r=>.cons (.int i) (qB r)
theorem vk{l:PySem.W.OpenLaw}{n:Nat}{q:Program}{loose:List Str}{XP:(Str->Option Value)->Heap->Prop}{YP:World->Heap->Prop}{d:DefRec}{K:Params->PySem.W.Frag}
  (hn:l.most=some n) (OM:n<=sizeLine) (hdf:d.params.defaults=[]) (hr:bP k callerA)
  (hY:∀ (w:World) (h:Heap),YP w h->(K w.params).In h)
  (hK:∀ w:World,wk (K w.params)=true)
  (F:∀ (w:World) (mg:Str->Option Value) (fa:Addr) (h:Heap),(K w.params).In h->h.Ns mainGlobals mg->mg d.name=some (.ref fa) ->
   ∃ fd:FuncData,(∀ (s:Shared) (u:Value),BindsTo s fd ⟨[u],[]⟩ [(x,u)]) ∧
    ∀ base:Heap,(K w.params).In base->base.Ns mainGlobals mg->aW l.prog w (K w.params) mg base (bY l.prog w) k fa fd [x] (dJ 1 sem))
  (Pa:∀ ns:List Int,ns.length<=n->(∀ i∈ns,Builtin.Int.intBits i<=1048576)->sem [.jh (ns.map PV.int)]=M.ok (.bl true)) :
  PySem.W.WalkO q loose XP YP l.row.toRowW d [] (λf vs=>PySem.call f vs):=by
 intro w s₀ s₁ mg mb G Y fa o pm cd doc dV kV ho hd Nc hD hmg hg args vals as yd hlay hrd hwl hlo
 obtain rfl:dV=.none:=PySem.W.Dflts.none hD hdf
 obtain rfl:kV=.none:=PySem.W.Dflts.noKw hD
 obtain⟨a,vs,ns,rfl,rfl,hobj,hints,hlen⟩:=Att.xM hn yd hwl
 have Pw:∀ i∈ns,Builtin.Int.intBits i<=1048576:=λi hi=>by
  have h1:=PySem.W.layableW_arg hlay _ (List.mem_singleton.mpr rfl)
  have h2:=PySem.W.layableW_item h1 (.int i) (List.mem_map.mpr ⟨i,hi,rfl⟩)
  exact intBits_le_of_layable h2
 have KX:=hY w _ Y
 obtain⟨fd,hb,hF⟩:=F w mg fa _ KX G.T.g hmg
 have hs:=Pa ns hlen Pw
 refine PySem.W.enter_call (codeAny_mono (zJ KX G.T.g G.T.b G.T.builtins G.T.nolimit hg hobj hints (Nat.le_trans hlen OM) hr hF hb (λH hO hS=>⟨rfl,H,[.jh (ns.map PV.int)],λ_ _ e=>e,?_,?_⟩) λH e s' z=>?_) λr s' hq=>?_)
 ·rcases hS with (hS | ⟨ob,hS⟩) | ⟨ob,Mg,m,e1,e2,_⟩
  ·rcases hO a with z | ⟨ob,xs,z⟩
   ·rw[z] at hS;cases hS
   ·rw[z] at hS;cases hS
  ·exact .cons (.jh hS (qB ns)) .nil
  ·exact absurd e2 (Aw (hK w) e1)
 ·rw[hs]
  intro v Mi H' g r
  cases r;rfl
 ·obtain⟨ea,T,C,dd,Hc,_,_,_,_,_,_,_,_,z⟩:=z;exact z
 ·obtain⟨rfl,h2,h3,h4⟩:=hq
  exact⟨.inl ⟨.bool true,.bool true,[],rfl,λ_=>rfl,.bool true,Att.yF l _,λ_=>⟨List.Pairwise.nil,λ_ hm=>(nomatch hm)⟩⟩,h2,h3,h4⟩
abbrev wD(x q:Str)(t:Stmt)(s:Value)(c:Addr):FuncData:=PySem.W.fnOf x q (gD t) (dw t) (aM t) .none .none .none s none (.ref c) .none
theorem bo.of{K:PySem.W.Frag}{q:Str}{t:Stmt}{kV doc pm:Value}{an:Option Addr}{Mr ct:Value}{f:Addr}(h1:K.lookup f=some ⟨.type "function", none,.func (PySem.W.fnOf x q (gD t) (dw t) (aM t) dv kV doc pm an Mr ct),⟨[]⟩⟩)(h2:PySem.W.codeIn K Mr q=true)(h3:PySem.W.keepIn K (.ref f)=true):bo K x q t dv f (PySem.W.fnOf x q (gD t) (dw t) (aM t) dv kV doc pm an Mr ct):=⟨⟨_,_,_,_,_,_,_,_,_,rfl,h1,h2⟩,h3⟩
section
variable{P:List α->Prop}
theorem Ih(h:∀ a b,P [a,b]):∀ us,us.length=2->P us:=λus hl=>by obtain⟨a,b,rfl⟩:=ln2 hl;exact h a b
end
theorem b_.of{N P:List Str}{sc:Scope}(h1:autoParam (sc.kind=.function) aR._auto_1)(h2:autoParam (sc.isCoroutine=false) aR._auto_1)(h3:autoParam (sc.isGenerator=false) aR._auto_1)(h4:autoParam (N.Nodup) aN._auto_1)(h5:autoParam (N.take P.length=P) aR._auto_1)(h6:autoParam (∀ x∈P,sc.names.lookup x=some .local\/sc.names.lookup x=some .cell) aN._auto_1)(h7:autoParam (∀ y∈sc.names,y.2≠.free) aN._auto_1):b_ N P sc:=⟨h1,h2,h3,h4,h5,h6,h7⟩
theorem aZ{pos:Pos}(hN:X.N.Nodup)(hi:autoParam (X.N[i]?=some x) aR._auto_1)(hx:autoParam (Loc X.env.scope x) aG._auto_1)(hf:autoParam (X.fn x=true\/X.env.scope.names.lookup x=some .local) aG._auto_1):PG X (.Name x pos) (aH i):=CD hN hi hx hf
def CO:Nat->(List Value->Prop)->Prop
 | 0,P=>P []
 | n+1,P=>∀ a,CO n λl=>P (a::l)
theorem r_:∀ {n:Nat} {P:List Value->Prop},CO n P->∀ us:List Value,us.length=n->P us
 | 0,_,h,[],_=>h
 | n+1,_,h,a::r,e=>r_ (h a) r (Nat.succ.inj e)
section
variable{K:PySem.W.Frag}{h:Heap}{q:Str}{t:Stmt}{n:Nat}{tO:List PV->M (List PV)}
theorem iC(P:Program)(w:World)(base:Heap)(X:K.In h)(G:h.Ns mainGlobals mg)(a c:Addr)(s:Value)(ok:bo K x q t .none a (wD x q t s c)->aW P w K mg base (bY P w) n a (wD x q t s c) ps (dJ m (bg m sem)))
  (h1:autoParam (K.lookup a=some ⟨.type "function", none,.func (wD x q t s c),⟨[]⟩⟩) aK._auto_1) (h2:autoParam (PySem.W.codeIn K (.ref c) q=true) aK._auto_1) (h3:autoParam (PySem.W.keepIn K (.ref a)=true) aK._auto_1) (h4:autoParam (PySem.W.nsIn K mainGlobals x=some (some (.ref a))) aK._auto_1)
  (h5:autoParam (ps.length=m) aR._auto_1) (h6:CO ps.length λus=>bindArgs (wD x q t s c) ⟨us,[]⟩=pure (ps.zip us):=by (repeat intro _);rfl):dm P w K mg base n x m sem :=
 ⟨⟨a,_,ps,PySem.W.mg_of X G h4,h3,h5,.all (r_ h6),ok (.of h1 h2 h3)⟩⟩
theorem Jy(P:Program)(w:World)(base:Heap)(cc:lK K C)(a c:Addr)(s:Value)(ok:bo K x q t .none a (wD x q t s c)->aW P w K mg base (bY P w) n a (wD x q t s c) ps (dJ m (bg m sem)))
  (h1:autoParam (K.lookup a=some ⟨.type "function", none,.func (wD x q t s c),⟨[]⟩⟩) aK._auto_1) (h2:autoParam (PySem.W.codeIn K (.ref c) q=true) aK._auto_1) (h3:autoParam (PySem.W.keepIn K (.ref a)=true) aK._auto_1) (h4:autoParam (PySem.W.findIn K (.ref C) x=some (some (.ref a))) aK._auto_1) (h5:autoParam (PySem.W.isFn K (.ref a)=true) aK._auto_1)
  (h6:CO ps.length λus=>bindArgs (wD x q t s c) ⟨us,[]⟩=pure (ps.zip us):=by (repeat intro _);rfl):rX P w K mg base C n x m sem :=
 ⟨⟨a,_,ps,cc,⟨h4,h5,h3⟩,.all (r_ h6),ok (.of h1 h2 h3)⟩⟩
end
theorem bo.gB{K:PySem.W.Frag}{qual:Str}{st:Stmt}{f:Addr}{g:ai->M Out}(F:bo K x qual st dv f fd)(N:List Str)
  (hb:N.Nodup->∀ (Mr:Value) (A:Around) (outer:List Env) (s:Shared) (H:Hp) (E:XK),bP k (A.deeper (envOfC qual (aM st) s.heap.objs.size f Mr))->dz ((kb (bY P w) P w K mg base N qual (aM st) f Mr A outer s H E).out λ_=>E) (λ_=>E)->kc ((kb (bY P w) P w K mg base N qual (aM st) f Mr A outer s H E).out λ_=>E) (dw st) (tS E g))
  (S:b_ N ps (aM st):=by exact .of):aW P w K mg base (bY P w) (k+1) f fd ps (dJ ps.length (bg ps.length (aB N.length g))):=F.LP S (hb S.nd)
end L2
namespace uK
open PySem L2 PyProof.Rows
def dO:Addr:=65
def dF:Addr:=91
def c6:Addr:=117
def bp:Addr:=155
def dG:Addr:=136
def aJ:Addr:=456
def eE:Addr:=174
def aC:Addr:=251
def lA:Addr:=38
def e8:List Addr:=[dO,dF,c6,bp,dG,eE]
def fc:List Addr:=[]
def eM:List Addr:=[bp]
def eG:List Addr:=[dO,dF,c6,dG,eE]
def iT:List Addr:=[]
def i_:List Addr:=[]
def JZ:List Addr:=[dO,dF,c6,bp,dG,eE]
abbrev cI(i:Int):ai->M PV:=λ_=>M.ok (.int i)
def iE:ai->M Out :=
 (au (retS (tK (sG (λa=>kd a "int") kT kT (af 0)) (Cd (sG (λa=>kd a "bool") kT kT (af 0)))))
 av)
def cH:List PV->M PV:=bg 1 (aB 1 iE)
def iz:ai->M Out :=
 (au (mv (Ef (jC (eW (sG (λa=>["list", "tuple"].any λt=>kd a t) kT kT (af 0)))) (eW (ak uT (aj fx (aa (af 0) aq)) (af 1)))) (au (retS (λ_=>M.ok (.bl false)))
 av) av)
 (au (retS (aj sM (aa (dE (cY (itemsOf (af 0)) (cB 0) none (aj cH (aa (af 0) aq)) 1 [])) aq)))
 av))
def eh:List PV->M PV:=bg 2 (aB 2 iz)
def jx:ai->M Out :=
 (au (bw 2 (iU (aa (af 0) (aa (cI 1) (aa (cI 0) aq)))))
 (au (bw 3 (iU (aa (af 1) (aa (cI 0) (aa (cI 1) aq)))))
 (au (kM (eW (ak uT (ak aV (af 3) (cI 0)) (cI 0))) (au (bw 4 (ak cS (ak aV (af 2) (cI 0)) (ak aV (af 3) (cI 0))))
 (au (bw 5 (iU (aa (ak jd (ak aV (af 2) (cI 0)) (ak bZ (af 4) (ak aV (af 3) (cI 0)))) (aa (ak jd (ak aV (af 2) (cI 1)) (ak bZ (af 4) (ak aV (af 3) (cI 1)))) (aa (ak jd (ak aV (af 2) (cI 2)) (ak bZ (af 4) (ak aV (af 3) (cI 2)))) aq)))))
 (au (bw 2 (af 3))
 (au (bw 3 (af 5))
 av)))))
 (au (mv (eW (ak BS (ak aV (af 2) (cI 0)) (cI 0))) (au (retS (iU (aa (kG (ak aV (af 2) (cI 0))) (aa (kG (ak aV (af 2) (cI 1))) (aa (kG (ak aV (af 2) (cI 2))) aq)))))
 av) av)
 (au (retS (af 2))
 av)))))
def fk:List PV->M PV:=bg 2 (aB 6 jx)
def eY:ai->M Out :=
 (au (bw 1 (cI 1))
 (au (iP (itemsOf (af 0)) (cB 2) (au (bw 1 (ak bZ (ak cS (af 1) (ak aV (aj fk (aa (af 1) (aa (af 2) aq))) (cI 0))) (af 2)))
 av))
 (au (retS (af 1))
 av)))
def e9:List PV->M PV:=bg 1 (aB 3 eY)
def ja:ai->M Out :=
 (au (retS (aj dX (aa (dE (cY (kP og (aa (af 0) aq)) (cB 0) none (xg (eW (ak pd (af 0) (af 1))) (cI 1) (cI 0)) 1 [1])) aq)))
 av)
def iG:List PV->M PV:=bg 2 (aB 2 ja)
def fy:ai->M Out :=
 (au (retS (tK (aj cH (aa (af 0) aq)) (iW BU BU (af 1) (af 0) (af 2))))
 av)
def fF:List PV->M PV:=bg 3 (aB 3 fy)
def fN:ai->M Out :=
 (au (mv (eW (ak Dv (aj fx (aa (af 0) aq)) (cI 6))) (au (jw eE (aa (λ_=>M.ok (.str "a vault has at most six dials")) aq))
 av) av)
 (au (mv (eW (ak pd (aj fx (aa (af 0) aq)) (cI 0))) (au (ju dO "dial" (aa (cI 0) aq))
 av) av)
 (au (iP (kP Cu (aa (af 0) aq)) (cA 1 2) (au (mv (jC (eW (aj fF (aa (af 2) (aa (cI 2) (aa (cI 360) aq)))))) (au (ju dO "dial" (aa (af 1) aq))
 av) av)
 av))
 av)))
def fQ:List PV->M PV:=bg 1 (aB 3 fN)
def eX:ai->M Out :=
 (au (mv (eW (ak Dv (aj fx (aa (af 0) aq)) (cI 8))) (au (jw eE (aa (λ_=>M.ok (.str "a vault has at most eight levers")) aq))
 av) av)
 (au (iP (kP Cu (aa (af 0) aq)) (cA 2 3) (au (mv (jC (eW (aj eh (aa (af 3) (aa (af 1) aq))))) (au (ju dF "lever" (aa (af 2) aq))
 av) av)
 av))
 av))
def e_:List PV->M PV:=bg 2 (aB 4 eX)
def fM:ai->M Out :=
 (au (mv (eW (ak Bg (af 1) (λ_=>M.ok .cL))) (au (retS (ak bZ (iU (aa (cI 1) aq)) (aj fx (aa (af 0) aq))))
 av) av)
 (au (iP (kP og (aa (aj (qd λi j=>if j>i then j else i) (aa (aj fx (aa (af 0) aq)) (aa (aj fx (aa (af 1) aq)) aq))) aq)) (cB 2) (au (mv (Ef (eW (ak Hw (af 2) (aj fx (aa (af 0) aq)))) (eW (ak Hw (af 2) (aj fx (aa (af 1) aq))))) (au (ju c6 "lever" (aa (af 2) aq))
 av) av)
 (au (mv (jC (eW (aj fF (aa (ak aV (af 1) (af 2)) (aa (cI 1) (aa (cI 1000) aq)))))) (au (ju c6 "lever" (aa (af 2) aq))
 av) av)
 av)))
 (au (retS (aj dX (aa (af 1) aq)))
 av)))
def f7:List PV->M PV:=bg 2 (aB 3 fM)
def jU:ai->M Out :=
 (au (retS (aj dX (aa (dE (cY (kP zip2 (aa (af 0) (aa (af 1) aq))) (cA 0 1) none (ak c7 (af 0) (af 1)) 2 [])) aq)))
 av)
def iN:List PV->M PV:=bg 2 (aB 2 jU)
def lu:ai->M Out :=
 (au (retS (aj dX (aa (dE (cY (kP zip2 (aa (af 0) (aa (af 2) aq))) (cA 0 1) none (ak cP (ak bZ (af 2) (af 0)) (ak bZ (af 3) (af 1))) 2 [1,3])) aq)))
 av)
def j7:List PV->M PV:=bg 4 (aB 4 lu)
def dS:ai->M Out :=
 (au (bw 5 (aj j7 (aa (ak aV (af 1) (cI 0)) (aa (af 2) (aa (ak aV (af 3) (cI 0)) (aa (af 4) aq))))))
 (au (retS (iU (aa (aj iN (aa (af 5) (aa (af 0) aq))) (aa (aj j7 (aa (ak aV (af 1) (cI 1)) (aa (af 2) (aa (ak aV (af 3) (cI 1)) (aa (af 4) aq))))) aq))))
 av))
def dc:List PV->M PV:=bg 5 (aB 6 dS)
def fG:ai->M Out :=
 (au (bw 3 (ak aV (ak aV (ak aV (af 1) (af 2)) (cI 0)) (af 2)))
 (au (retS (xg (eW (ak pd (af 3) (cI 0))) (ak aV (af 0) (af 2)) (af 3)))
 av))
def fE:List PV->M PV:=bg 3 (aB 4 fG)
def iV:ai->M Out :=
 (au (nB 3 (gI aq))
 (au (iP (kP Cu (aa (af 1) aq)) (cA 4 5) (au (bw 6 (aj fE (aa (af 0) (aa (af 1) (aa (af 4) aq)))))
 (au (bw 7 (ak aV (ak aV (af 2) (cI 0)) (af 4)))
 (au (bw 8 (aj fk (aa (af 6) (aa (af 7) aq))))
 (au (kO 3 (aj dc (aa (af 0) (aa (af 5) (aa (ak aV (af 8) (cI 1)) (aa (af 2) (aa (ak aV (af 8) (cI 2)) aq)))))))
 (au (bw 2 (aj dc (aa (af 0) (aa (af 2) (aa (ak cS (af 6) (ak aV (af 8) (cI 0))) (aa (af 5) (aa (kG (ak cS (af 7) (ak aV (af 8) (cI 0)))) aq)))))))
 av))))))
 (au (oj [3] (retS (iU (aa (af 3) (aa (ak aV (af 2) (cI 1)) aq)))))
 av)))
def iO:List PV->M PV:=bg 3 (aB 9 iV)
def hV:ai->M Out :=
 (au (iP (kP yE (aa (af 3) (aa (aj fx (aa (af 0) aq)) aq))) (cB 4) (au (bw 5 (ak cS (ak aV (ak aV (af 2) (cI 0)) (af 4)) (aj fE (aa (af 0) (aa (af 1) (aa (af 4) aq))))))
 (au (bw 2 (aj dc (aa (af 0) (aa (af 2) (aa (cI 1) (aa (ak aV (af 1) (af 4)) (aa (kG (af 5)) aq)))))))
 av)))
 (au (retS (af 2))
 av))
def eN:List PV->M PV:=bg 4 (aB 6 hV)
def gq:ai->M Out :=
 (au (iP (kP Ba (aa (ak jd (aj fx (aa (af 1) aq)) (cI 1)) (aa (kG (cI 1)) (aa (kG (cI 1)) aq)))) (cB 2) (au (bw 3 (ak aV (af 1) (af 2)))
 (au (bw 0 (aj j7 (aa (af 0) (aa (cI 1) (aa (af 3) (aa (kG (ak cS (ak aV (af 0) (af 2)) (ak aV (af 3) (af 2)))) aq))))))
 av)))
 (au (retS (af 0))
 av))
def gv:List PV->M PV:=bg 2 (aB 4 gq)
def fg:ai->M Out :=
 (au (mv (eW (ak BS (af 1) (aj fx (aa (af 0) aq)))) (au (retS (ak aV (af 0) (af 1)))
 av) av)
 (au (retS (cI 0))
 av))
def bV:List PV->M PV:=bg 2 (aB 2 fg)
def cK:ai->M Out :=
 (au (bw 2 (ak c7 (ak cP (ak cP (af 0) (ak bZ (cI 7919) (af 1))) (cI 12345)) (cI 2147483629)))
 (au (bw 2 (ak c7 (ak cP (ak bZ (af 2) (af 2)) (ak bZ (cI 48271) (af 1))) (cI 2147483629)))
 (au (retS (ak c7 (ak bZ (af 2) (af 2)) (cI 2147483587)))
 av)))
def aT:List PV->M PV:=bg 2 (aB 3 cK)
def fZ:ai->M Out :=
 (au (retS (tK (sG (λa=>kd a "int") kT kT (af 0)) (tK (Cd (sG (λa=>kd a "bool") kT kT (af 0))) (ak pd (af 0) (af 1)))))
 av)
def fV:List PV->M PV:=bg 2 (aB 2 fZ)
def gJ:ai->M Out :=
 (au (mv (Ef (jC (eW (sG (λa=>kd a "tuple") kT kT (af 0)))) (eW (ak uT (af 0) (af 1)))) (au (retS (λ_=>M.ok (.bl false)))
 av) av)
 (au (retS (ak pd (aj fx (aa (dE (cY (itemsOf (af 0)) (cB 0) (some (eW (sG (λa=>kd a "bool") kT kT (af 0)))) (af 0) 1 [])) aq)) (cI 0)))
 av))
def gO:List PV->M PV:=bg 2 (aB 2 gJ)
def cQ:ai->M Out :=
 (au (nB 2 (gI (aa (ak cP (cI 2) (ak c7 (ak cS (af 0) (cI 4)) (ak jd (af 1) (cI 1)))) aq)))
 (au (bw 3 (lE 2 (ak cS (af 1) (ak aV (af 2) (cI 0)))))
 (au (bw 0 (ak cP (ak bZ (ak cS (ak cS (af 0) (cI 4)) (ak jd (af 1) (cI 1))) (cI 4)) (ak c7 (af 0) (cI 4))))
 (au (kM (FN (eW (ak Dv (ak c7 (af 0) (cI 4)) (cI 0))) (eW (ak Dv (af 3) (cI 1)))) (au (kO 2 (ak cP (cI 2) (ak c7 (ak cS (af 0) (cI 4)) (ak jd (af 3) (cI 1)))))
 (au (bw 0 (ak jd (ak cP (ak bZ (ak cS (ak cS (af 0) (cI 4)) (ak jd (af 3) (cI 1))) (cI 4)) (ak c7 (af 0) (cI 4))) (cI 1)))
 (au (bw 3 (lE 2 (ak cS (af 3) (ak aV (af 2) (kG (cI 1))))))
 av))))
 (au (oj [2] (retS (af 2)))
 av)))))
def cT:List PV->M PV:=bg 2 (aB 4 cQ)
def fU:ai->M Out :=
 (au (mv (eW (ak pd (ak c7 (af 0) (cI 2)) (cI 1))) (au (retS (aj cT (aa (ak cS (af 0) (cI 2)) (aa (af 1) aq))))
 av) av)
 (au (nB 2 (gI aq))
 (au (bw 3 (af 1))
 (au (iP (kP og (aa (ak cP (cI 1) (ak c7 (aj aT (aa (af 0) (aa (cI 1) aq))) (cI 4))) aq)) (cB 4) (au (mv (eW (ak Dv (af 3) (cI 1))) (au (bw 5 (aj (qd λi j=>if j<i then j else i) (aa (af 3) (aa (ak aV (λ_=>M.ok (.lst (([12,12,12,360]:List Int).map PV.int))) (ak c7 (aj aT (aa (af 0) (aa (ak cP (cI 20) (af 4)) aq))) (cI 4))) aq))))
 (au (kO 2 (ak cP (cI 2) (ak c7 (aj aT (aa (af 0) (aa (ak cP (cI 30) (af 4)) aq))) (ak jd (af 5) (cI 1)))))
 (au (bw 3 (lE 2 (ak cS (af 3) (ak aV (af 2) (kG (cI 1))))))
 av))) av)
 av))
 (au (oj [2] (retS (af 2)))
 av)))))
def f6:List PV->M PV:=bg 2 (aB 6 fU)
def e7:ai->M Out :=
 (au (nB 2 (gI aq))
 (au (iP (itemsOf (af 1)) (cB 3) (au (kO 2 (ak c7 (af 0) (af 3)))
 (au (bw 0 (ak cS (af 0) (af 3)))
 av)))
 (au (oj [2] (retS (af 2)))
 av)))
def ff:List PV->M PV:=bg 2 (aB 4 e7)
def fW:ai->M Out :=
 (au (mv (eW (ak pd (ak c7 (af 0) (cI 2)) (cI 1))) (au (retS (aj ff (aa (ak cS (af 0) (cI 2)) (aa (af 1) aq))))
 av) av)
 (au (bw 2 (ak aV (λ_=>M.ok (.lst (([1,1,2,3,4,6]:List Int).map PV.int))) (ak c7 (aj aT (aa (af 0) (aa (cI 5) aq))) (cI 6))))
 (au (bw 3 (ak aV (mJ (aa (cI 0) (aa (cI 1) (aa (ak pN (cI 10) (cI 24)) aq)))) (ak c7 (aj aT (aa (af 0) (aa (cI 6) aq))) (cI 3))))
 (au (nB 4 (gI aq))
 (au (iP (kP og (aa (aj fx (aa (af 1) aq)) aq)) (cB 5) (au (bw 6 (aj aT (aa (af 0) (aa (ak cP (cI 40) (af 5)) aq))))
 (au (bw 7 (ak bZ (ak jd (ak c7 (aj aT (aa (af 0) (aa (ak cP (cI 60) (af 5)) aq))) (cI 2001)) (cI 1000)) (af 3)))
 (au (kO 4 (ak cP (ak bZ (ak bZ (aj (qd λi j=>if j<i then j else i) (aa (ak c7 (af 6) (cI 4)) (aa (cI 1) aq))) (af 2)) (ak c7 (ak cS (af 6) (cI 4)) (cI 360))) (ak bZ (ak aV (af 1) (af 5)) (af 7))))
 av))))
 (au (oj [4] (retS (af 4)))
 av))))))
def c8:List PV->M PV:=bg 2 (aB 8 fW)
def cJ:ai->M Out :=
 (au (retS (aj dX (aa (dE (cY (kP xf (aa (af 0) (aa (af 1) (aa (af 2) aq)))) (pY 0 1 2) none (ak c7 (ak cP (af 0) (af 1)) (af 2)) 3 [])) aq)))
 av)
def vc:List PV->M PV:=bg 3 (aB 3 cJ)
def cF:ai->M PV :=
 (aj dX (aa (dE (cY (itemsOf (af 1)) (cB 0) none (λ_=>M.ok (.int 0)) 1 [])) aq))
def fO:List PV->M PV:=bg 2 (sR (aB 3 cJ) cF)
def gG:ai->M Out :=
 (au (retS (aj dX (aa (dE (cY (kP zip2 (aa (af 0) (aa (af 1) aq))) (cA 0 1) none (ak c7 (af 0) (af 1)) 2 [])) aq)))
 av)
def fu:List PV->M PV:=bg 2 (aB 2 gG)
def fX:ai->M Out :=
 (au (bw 2 (ak aV (mJ (aa (cI 9) (aa (cI 1000) (aa (ak pN (cI 10) (cI 29)) aq)))) (ak c7 (aj aT (aa (af 0) (aa (cI 1) aq))) (cI 3))))
 (au (nB 3 (gI aq))
 (au (iP (kP og (aa (af 1) aq)) (cB 4) (au (bw 5 (ak cP (ak cP (ak bZ (aj aT (aa (af 0) (aa (ak cP (cI 10) (af 4)) aq))) (ak pN (cI 10) (cI 20))) (ak bZ (aj aT (aa (af 0) (aa (ak cP (cI 30) (af 4)) aq))) (ak pN (cI 10) (cI 10)))) (aj aT (aa (af 0) (aa (ak cP (cI 50) (af 4)) aq)))))
 (au (kO 3 (ak jd (ak c7 (af 5) (ak cP (ak bZ (cI 2) (af 2)) (cI 1))) (af 2)))
 av)))
 (au (oj [3] (retS (aj dX (aa (af 3) aq))))
 av))))
def fP:List PV->M PV:=bg 2 (aB 6 fX)
def i5:ai->M Out :=
 (au (nB 3 (gI aq))
 (au (iP (kP Cu (aa (af 2) aq)) (cA 4 5) (au (kO 3 (ak c7 (aj xB (aa (dE (cY (kP zip2 (aa (af 1) (aa (af 0) aq))) (cA 0 1) none (ak bZ (af 0) (ak aV (af 1) (af 2))) 2 [4])) aq)) (af 5)))
 av))
 (au (oj [3] (retS (af 3)))
 av)))
def gz:List PV->M PV:=bg 3 (aB 6 i5)
def iD:ai->M Out :=
 (au (kj (aj fQ (aa (af 1) aq)))
 (au (kj (aj e_ (aa (af 2) (aa (aj fx (aa (af 1) aq)) aq))))
 (au (kK 0 aC "dial_sizes" (aj dX (aa (af 1) aq)))
 (au (kK 0 aC "lever_settings" (aj dX (aa (dE (cY (itemsOf (af 2)) (cB 0) none (aj iN (aa (af 0) (aa (af 1) aq))) 1 [1])) aq)))
 (au (kK 0 aC "lever_prices" (aj f7 (aa (af 2) (aa (af 3) aq))))
 (au (kK 0 aC "least_round" (aj e9 (aa (af 1) aq)))
 av))))))
def gL:Addr->List PV->M (List (Str×PV)):=qJ 4 (w5 4 iD aC)
def bW:ai->M Out :=
 (au (retS (iJ (λc=>c==aC) "dial_sizes" (af 0)))
 av)
def bA:List PV->M PV:=bg 1 (aB 1 bW)
def bK:ai->M Out :=
 (au (retS (iJ (λc=>c==aC) "lever_settings" (af 0)))
 av)
def bq:List PV->M PV:=bg 1 (aB 1 bK)
def iq:ai->M Out :=
 (au (retS (ak bZ (iU (aa (cI 0) aq)) (aj fx (aa (cN aC "sizes" bA (af 0) aq) aq))))
 av)
def gy:List PV->M PV:=bg 1 (aB 1 iq)
def fY:ai->M Out :=
 (au (bw 2 (cN aC "sizes" bA (af 0) aq))
 (au (mv (Ef (jC (eW (sG (λa=>kd a "tuple") kT kT (af 1)))) (jC (eW (aj eh (aa (af 1) (aa (aj fx (aa (af 2) aq)) aq)))))) (au (retS (λ_=>M.ok (.bl false)))
 av) av)
 (au (retS (aj sM (aa (dE (cY (kP zip2 (aa (af 1) (aa (af 2) aq))) (cA 0 1) none (iW BU BS (cI 0) (af 0) (af 1)) 2 [])) aq)))
 av)))
def fL:List PV->M PV:=bg 2 (aB 3 fY)
def cW:ai->M Out :=
 (au (retS (tK (sG (λa=>kd a "tuple") kT kT (af 1)) (aj eh (aa (af 1) (aa (aj fx (aa (cN aC "levers" bq (af 0) aq) aq)) aq)))))
 av)
def bD:List PV->M PV:=bg 2 (aB 2 cW)
def cV:ai->M Out :=
 (au (mv (jC (eW (aj fL (aa (af 0) (aa (af 1) aq))))) (au (jw dG (aa (λ_=>M.ok (.str "this is no setting of the vault")) aq))
 av) av)
 av)
def cX:List PV->M PV:=bg 2 (aB 2 cV)
def dR:ai->M Out :=
 (au (mv (jC (eW (aj bD (aa (af 0) (aa (af 1) aq))))) (au (jw bp (aa (λ_=>M.ok (.str "these are no pulls of the vault")) aq))
 av) av)
 av)
def de:List PV->M PV:=bg 2 (aB 2 dR)
def nh:ai->M Out :=
 (au (bw 4 (dE (cY (kP zip2 (aa (af 1) (aa (af 2) aq))) (cA 0 1) none (ak cP (af 0) (ak bZ (af 2) (af 1))) 2 [3])))
 (au (retS (aj iN (aa (af 4) (aa (cN aC "sizes" bA (af 0) aq) aq))))
 av))
def mV:List PV->M PV:=bg 4 (aB 5 nh)
def jM:ai->M Out :=
 (au (kj (aj cX (aa (af 0) (aa (af 1) aq))))
 (au (kj (aj de (aa (af 0) (aa (af 2) aq))))
 (au (bw 3 (af 1))
 (au (iP (kP zip2 (aa (cN aC "levers" bq (af 0) aq) (aa (af 2) aq))) (cA 4 5) (au (bw 3 (aj mV (aa (af 0) (aa (af 3) (aa (af 4) (aa (af 5) aq))))))
 av))
 (au (retS (af 3))
 av)))))
def ig:List PV->M PV:=bg 3 (aB 6 jM)
def gj:ai->M Out :=
 (au (retS (iU (aa (af 1) (aa (ak bZ (iU (aa (cI 0) aq)) (aj fx (aa (cN aC "levers" bq (af 0) aq) aq))) aq))))
 av)
def eS:List PV->M PV:=bg 2 (aB 2 gj)
def fb:ai->M Out :=
 (au (bw 2 (cN aC "levers" bq (af 0) aq))
 (au (retS (iU (aa (ak aV (af 2) (af 1)) (aa (aj iG (aa (aj fx (aa (af 2) aq)) (aa (af 1) aq))) aq))))
 av))
def fe:List PV->M PV:=bg 2 (aB 3 fb)
def i6:ai->M Out :=
 (au (bw 2 (cN aC "sizes" bA (af 1) aq))
 (au (bw 3 (dE (cY (itemsOf (af 2)) (cB 0) none (aj eS (aa (af 1) (aa (aj gy (aa (af 1) aq)) aq))) 1 [1])))
 (au (nB 4 (gI aq))
 (au (iP (kP og (aa (aj fx (aa (cN aC "levers" bq (af 1) aq) aq)) aq)) (cB 5) (au (bw 6 (aj iO (aa (af 2) (aa (af 3) (aa (aj fe (aa (af 1) (aa (af 5) aq))) aq)))))
 (au (bw 3 (ak aV (af 6) (cI 0)))
 (au (kO 4 (lE 4 (aj gv (aa (ak aV (af 6) (cI 1)) (aa (af 4) aq)))))
 av))))
 (au (kK 0 aJ "vault" (af 1))
 (au (kK 0 aJ "made_rows" (dE (cY (kP Cu (aa (af 3) aq)) (cA 0 1) none (aj eN (aa (af 2) (aa (af 3) (aa (af 1) (aa (ak cP (af 0) (cI 1)) aq))))) 2 [2,3])))
 (au (oj [4] (kK 0 aJ "idle_rows" (af 4)))
 av)))))))
def gU:Addr->List PV->M (List (Str×PV)):=qJ 2 (w5 7 i6 aJ)
def cp:ai->M Out :=
 (au (kj (aj cX (aa (iJ (λc=>c==aJ) "vault" (af 0)) (aa (af 1) aq))))
 (au (retS (aj eN (aa (cN aC "sizes" bA (iJ (λc=>c==aJ) "vault" (af 0)) aq) (aa (iJ (λc=>c==aJ) "made_rows" (af 0)) (aa (aj eS (aa (iJ (λc=>c==aJ) "vault" (af 0)) (aa (af 1) aq))) (aa (cI 0) aq))))))
 av))
def bL:List PV->M PV:=bg 2 (aB 2 cp)
def c9:ai->M Out :=
 (au (bw 2 (cN aJ "brought_down" bL (af 0) (aa (af 1) aq)))
 (au (mv (eW (ak uT (ak aV (af 2) (cI 0)) (aj gy (aa (iJ (λc=>c==aJ) "vault" (af 0)) aq)))) (au (retS (λ_=>M.ok .cL))
 av) av)
 (au (retS (aj gv (aa (aj dX (aa (dE (cY (itemsOf (ak aV (af 2) (cI 1))) (cB 0) none (kG (af 0)) 1 [])) aq)) (aa (iJ (λc=>c==aJ) "idle_rows" (af 0)) aq))))
 av)))
def c_:List PV->M PV:=bg 2 (aB 3 c9)
def ib:ai->M Out :=
 (au (retS (cN aJ "pulls_to" c_ (aj (jz aJ gU []) (aa (af 0) aq)) (aa (aj ig (aa (af 0) (aa (aj gy (aa (af 0) aq)) (aa (af 1) aq)))) aq)))
 av)
def d_:List PV->M PV:=bg 2 (aB 2 ib)
def gW:ai->M Out :=
 (au (bw 5 (aj d_ (aa (af 0) (aa (af 3) aq))))
 (au (mv (Ef (jC (eW (sG (λa=>kd a "tuple") kT kT (af 5)))) (eW (ak uT (aj fx (aa (af 5) aq)) (aj fx (aa (af 1) aq))))) (au (retS (λ_=>M.ok (.bl false)))
 av) av)
 (au (iP (kP zip2 (aa (af 5) (aa (af 2) aq))) (cA 6 7) (au (mv (Ef (jC (eW (aj fV (aa (af 6) (aa (af 6) aq))))) (jC (eW (iW BU BS (cI 0) (af 6) (af 7))))) (au (retS (λ_=>M.ok (.bl false)))
 av) av)
 av))
 (au (retS (tK (ak pd (aj gz (aa (af 1) (aa (af 5) (aa (af 4) aq)))) (aj gz (aa (af 1) (aa (af 3) (aa (af 4) aq))))) (aj gO (aa (aj d_ (aa (af 0) (aa (af 5) aq))) (aa (af 5) aq)))))
 av))))
def gM:List PV->M PV:=bg 5 (aB 8 gW)
def er:ai->M Out :=
 (au (bw 2 (mJ aq))
 (au (Ci (kj (aj d_ (aa (af 0) (aa (af 1) aq)))) [(uL e8 fc,some 3,(au (bw 2 (mJ (aa (sG (λ_=>false) (uL iT i_) (uL eM eG) (af 3)) (aa (Hb JZ (af 3)) aq))))
 av))])
 (au (retS (ak pd (af 2) (mJ (aa (λ_=>M.ok (.bl true)) (aa (λ_=>M.ok (.bl true)) aq)))))
 av)))
def cw:List PV->M PV:=bg 2 (aB 4 er)
def zh:ai->M Out :=
 (au (bw 1 (aj f6 (aa (aj bV (aa (af 0) (aa (cI 0) aq))) (aa (cI 240) aq))))
 (au (bw 2 (ak c7 (aj aT (aa (aj bV (aa (af 0) (aa (cI 1) aq))) (aa (cI 1) aq))) (cI 9)))
 (au (bw 3 (dE (cY (kP og (aa (af 2) aq)) (cB 0) none (aj c8 (aa (aj bV (aa (af 1) (aa (ak cP (cI 2) (af 0)) aq))) (aa (af 2) aq))) 1 [0,1])))
 (au (bw 4 (aj (jz aC gL [.cL]) (aa (aj wu (aa (af 1) aq)) (aa (af 3) aq))))
 (au (bw 5 (dE (cY (itemsOf (af 3)) (cB 0) none (aj fu (aa (af 0) (aa (af 1) aq))) 1 [1])))
 (au (bw 6 (aj fO (aa (af 5) (aa (af 1) aq))))
 (au (iP (itemsOf (vC (af 0) (qP (cI 10)) (qP (cI 34)))) (cB 7) (au (mv (jC (eW (aj gM (aa (af 4) (aa (af 5) (aa (af 6) (aa (aj fP (aa (af 7) (aa (af 2) aq))) (aa (af 1) aq)))))))) (au (retS (λ_=>M.ok (.bl false)))
 av) av)
 av))
 (au (iP (itemsOf (mJ (aa (ak bZ (mJ (aa (cI 0) aq)) (af 2)) (aa (ak bZ (iU (aa (cI 0) aq)) (ak cP (af 2) (cI 1))) (aa (λ_=>M.ok .cL) (aa (ak bZ (iU (aa (λ_=>M.ok (.bl true)) aq)) (ak cP (af 2) (cI 1))) (aa (cI 7) aq))))))) (cB 8) (au (mv (jC (eW (aj cw (aa (af 4) (aa (af 8) aq))))) (au (retS (λ_=>M.ok (.bl false)))
 av) av)
 av))
 (au (retS (Lj (ak pd (af 2) (cI 0)) (aj cw (aa (af 4) (aa (ak cP (ak bZ (iU (aa (cI 0) aq)) (ak jd (af 2) (cI 1))) (iU (aa (ak aV (mJ (aa (λ_=>M.ok .cL) (aa (λ_=>M.ok (.bl true)) (aa (λ_=>M.ok (.str "1")) aq)))) (ak c7 (af 2) (cI 3))) aq))) aq)))))
 av)))))))))
def qm:List PV->M PV:=bg 1 (aB 9 zh)
end uK
namespace uK
open PySem L2 PyProof.Rows
local macro_rules | `(tactic| walk_at "s")=>`(tactic| exact⟨rfl,rfl,rfl,by decide +kernel,rfl,by decide +kernel,by decide +kernel⟩)
local macro_rules | `(tactic| walk_at "l")=>`(tactic| first | exact .inl rfl | exact .inr rfl)
local macro_rules | `(tactic| walk_at "pp")=>`(tactic| all_goals repeat' (first | ((with_reducible show kc _ _ (tS _ (au _ _)));refine AQ ?_ ?_) | ((with_reducible show kc _ _ (tS _ av));exact DU) | ((with_reducible show PE _ _ (tE _ (af _)));exact vr _) | ((with_reducible show PA _ _ (tL _ (aa _ _)));refine wG ?_ ?_ (Es rfl)) | ((with_reducible show PA _ _ (tL _ aq));exact AY) | ((with_reducible show PE _ _ (tE _ (λ_=>M.ok (.int _))));first | exact zp | exact kX (Jq (by rfl) (by assumption)) λ_=>.int _) | ((with_reducible show PE _ _ (tE _ (λ_=>M.ok (.bl _))));exact Il) | ((with_reducible show PE _ _ (tE _ (λ_=>M.ok .cL)));exact Gn) | ((with_reducible show PE _ _ (tE _ (λ_=>M.ok (.str _))));exact Gm) | ((with_reducible show PE _ _ (tE _ (ak cP _ _)));refine lO Cb Hf ?_ ?_) | ((with_reducible show PE _ _ (tE _ (ak jd _ _)));refine lO BH G8 ?_ ?_) | ((with_reducible show PE _ _ (tE _ (ak bZ _ _)));refine lO DT Hr ?_ ?_) | ((with_reducible show PE _ _ (tE _ (ak cS _ _)));refine lO yN Am ?_ ?_) | ((with_reducible show PE _ _ (tE _ (ak c7 _ _)));refine lO CU Dx ?_ ?_) | ((with_reducible show PE _ _ (tE _ (ak pN _ _)));refine lO Hj C2 ?_ ?_) | ((with_reducible show PE _ _ (tE _ (ak aV _ _)));refine E6 ?_ ?_ ?_) | ((with_reducible show si _);exact λ_ _=>rfl) | ((with_reducible show PT _ _ (tT _ (eW (ak pd _ _))));refine kH (Aa (bP.units (by assumption))) En ?_ ?_ (dQ _)) | ((with_reducible show PE _ _ (tE _ (ak pd _ _)));refine kE (Aa (bP.units (by assumption))) En ?_ ?_ (dQ _)) | ((with_reducible show PT _ _ (tT _ (eW (ak uT _ _))));refine kH (BA (bP.units (by assumption))) EN ?_ ?_ (dQ _)) | ((with_reducible show PE _ _ (tE _ (ak uT _ _)));refine kE (BA (bP.units (by assumption))) EN ?_ ?_ (dQ _)) | ((with_reducible show PT _ _ (tT _ (eW (ak BS _ _))));refine kH wL sE ?_ ?_ (dQ _)) | ((with_reducible show PE _ _ (tE _ (ak BS _ _)));refine kE wL sE ?_ ?_ (dQ _)) | ((with_reducible show PT _ _ (tT _ (eW (ak BU _ _))));refine kH qt lZ ?_ ?_ (dQ _)) | ((with_reducible show PE _ _ (tE _ (ak BU _ _)));refine kE qt lZ ?_ ?_ (dQ _)) | ((with_reducible show PT _ _ (tT _ (eW (ak Dv _ _))));refine kH EU Bw ?_ ?_ (dQ _)) | ((with_reducible show PE _ _ (tE _ (ak Dv _ _)));refine kE EU Bw ?_ ?_ (dQ _)) | ((with_reducible show PT _ _ (tT _ (eW (ak Hw _ _))));refine kH Eo Ad ?_ ?_ (dQ _)) | ((with_reducible show PE _ _ (tE _ (ak Hw _ _)));refine kE Eo Ad ?_ ?_ (dQ _)) | ((with_reducible show PT _ _ (tT _ (eW (ak Bg _ _))));refine kH Bb zG ?_ ?_ (dQ _)) | ((with_reducible show PE _ _ (tE _ (ak Bg _ _)));refine kE Bb zG ?_ ?_ (dQ _)) | ((with_reducible show PT _ _ (tT _ (jC _)));refine F9 ?_) | ((with_reducible show PT _ _ (tT _ (eW (aj _ _))));refine rP ?_) | ((with_reducible show PT _ _ (tT _ (eW (sG _ _ _ _))));refine rP ?_) | ((with_reducible show PT _ _ (tT _ (eW (cN _ _ _ _ _))));refine rP ?_) | ((with_reducible show PT _ _ (tT _ (eW (af _))));refine rP ?_) | ((with_reducible show PS _ _ (tS _ (retS _)));refine Ht ?_) | ((with_reducible show PS _ _ (tS _ (bw _ _)));refine G_ (by assumption) rfl (by walk_at "l") ?_) | ((with_reducible show PS _ _ (tS _ (mv _ _ _)));refine HS ?_ ?_ ?_) | ((with_reducible show PS _ _ (tS _ (kO _ _)));refine xA rfl (by first | exact .inl rfl | exact .inr (.inl rfl)) ?_) | ((with_reducible show PS _ _ (tS _ (nB _ _)));refine Cz (by assumption) rfl (by walk_at "l") ?_) | ((with_reducible show PE _ _ (tO _ (gI _)));refine Gw ?_) | ((with_reducible show PS _ _ (tS _ (oj _ _)));refine GO _ ?_) | ((with_reducible show PS _ _ (tS _ (kj _)));refine Dw ?_) | ((with_reducible show PS _ _ (tS _ (jw _ _)));refine xr.raise (by assumption) (by assumption) rfl (by rfl) ?_) | ((with_reducible show PS _ _ (tS _ (ju _ _ _)));refine qH.raise (by assumption) (by assumption) (by omega) (by assumption) rfl (by rfl) ?_) | ((with_reducible show PE _ _ (tE _ (iU _)));refine Gv ?_) | ((with_reducible show PE _ _ (tE _ (mJ _)));refine A6 ?_) | ((with_reducible show PE _ _ (tE _ (kG _)));refine Fv ?_) | ((with_reducible show PE _ _ (tE _ (xg _ _ _)));refine F4 ?_ ?_ ?_) | ((with_reducible show PE _ _ (tE _ (iJ _ _ _)));refine F_ ?_ (by assumption) rfl) | ((with_reducible show PE _ _ (tE _ (aj fx _)));refine iw yg Fs (by rfl) (by assumption) PySem.boot_len ?_) | ((with_reducible show PE _ _ (tE _ (aj dX _)));refine qC pR yT (by rfl) (by assumption) ij ?_) | ((with_reducible show PE _ _ (tE _ (aj wu _)));refine qC rQ DP (by rfl) (by assumption) se ?_) | ((with_reducible show PE _ _ (tE _ (aj xB _)));refine iw (yf rfl) Gz (by rfl) (by assumption) FC ?_) | ((with_reducible show PE _ _ (tE _ (aj sM _)));refine iw (xJ rfl) F3 (by rfl) (by assumption) E5 ?_) | ((with_reducible show PE _ _ (tE _ (aj (jz _ _ _) _)));refine GF.make (by assumption) (by assumption) (by omega) (by rfl) (by first | assumption | exact wA) ?_) | ((with_reducible show PE _ _ (tE _ (aj _ _)));refine dm.call (by assumption) (by assumption) (by omega) (by rfl) (by first | assumption | exact wA) ?_) | ((with_reducible show PE _ _ (tE _ (cN _ _ _ _ aq)));refine rX.HN (by assumption) (by assumption) (by omega) (by first | assumption | exact wA) ?_) | ((with_reducible show PE _ _ (tE _ (cN _ _ _ _ _)));refine rX.call (by assumption) (by assumption) (by omega) (by first | assumption | exact wA) ?_ ?_)))
def top(i:Nat):Stmt:=PySem.Challenge.pw_dialvault_k33_normal_forms_of_pulls.main.body.getD i (.Pass ⟨0,0,0,0⟩)
structure Txt (K:PySem.W.Frag) (mg:Str->Option Value):Prop where
 kW:mg "ValueError" = none
 Jh:mg "all" = none
 rZ:mg "bool" = none
 dD:mg "enumerate" = none
 Be:mg "int" = none
 bh:mg "isinstance" = none
 IP:mg "len" = none
 vE:mg "list" = none
 El:mg "max" = none
 zA:mg "min" = none
 dW:mg "range" = none
 Ja:mg "sum" = none
 jT:mg "tuple" = none
 kf:mg "zip" = none
 pD:∃ u,mg "LEAST_PRICE" = some u/\RelV (.int 1) u
 rG:∃ u,mg "LEAST_SIZE" = some u/\RelV (.int 2) u
 r9:∃ u,mg "MOST_DIALS" = some u/\RelV (.int 6) u
 pK:∃ u,mg "MOST_LEVERS" = some u/\RelV (.int 8) u
 rE:∃ u,mg "MOST_PRICE" = some u/\RelV (.int 1000) u
 tF:∃ u,mg "MOST_SIZE" = some u/\RelV (.int 360) u
 mX:lK K aJ
 lC:lK K aC
 yG:xr K mg bp "NoPulls"
 uA:xr K mg dG "NoSetting"
 yq:xr K mg eE "TooMany"
 jc:K4 K mg "VaultError" lA e8 fc
 p9:HX K mg "NoPulls" bp eM eG iT i_
 Lq:∀ C∈JZ,fq K C/\PySem.W.kitOne K (.ref C) (.type "ValueError")=some true
 gQ:bU K aJ "idle_rows"
 gT:bU K aJ "made_rows"
 kh:bU K aJ "vault"
 gk:bU K aC "dial_sizes"
 fJ:bU K aC "least_round"
 fj:bU K aC "lever_prices"
 dU:bU K aC "lever_settings"
 rJ:∀ C,(C==aC)=true->lK K C/\bU K C "dial_sizes"
 sL:∀ C,(C==aJ)=true->lK K C/\bU K C "idle_rows"
 pj:∀ C,(C==aC)=true->lK K C/\bU K C "least_round"
 nF:∀ C,(C==aC)=true->lK K C/\bU K C "lever_prices"
 lV:∀ C,(C==aC)=true->lK K C/\bU K C "lever_settings"
 ug:∀ C,(C==aJ)=true->lK K C/\bU K C "made_rows"
 C6:∀ C,(C==aJ)=true->lK K C/\bU K C "vault"
local macro_rules | `(tactic| walk_at "t")=>`(tactic| (have z:=‹Txt _ _›;cases z))
variable{P:Program}{w:World}{K:PySem.W.Frag}{mg:Str->Option Value}{base:Heap}{f:Addr}{fd:FuncData}{dv:Value}
theorem uC(F:bo K "is_whole" "is_whole" (top 10) dv f fd)(T:Txt K mg)  : aW P w K mg base (bY P w) 1 f fd ["thing"] (dJ 1 cH) :=
 F.gB ["thing"] λnd _ _ _ _ _ _ hr O=>by
 unfold iE;walk_at "t"
 walk_at "pp"
 refine(mn ?_ (mh ?_))
 walk_at "pp"
 refine(jg (T := "int") (by rfl) T.bh (dr (v:=.ty "int") (by rfl) T.Be AW rfl) (by decide) je je ?_)
 walk_at "pp"
 refine(Ae ?_)
 walk_at "pp"
 refine(jg (T := "bool") (by rfl) T.bh (dr (v:=.ty "bool") (by rfl) T.rZ sq rfl) (by decide) je je ?_)
 walk_at "pp"
theorem tJ:((["number"]:List Str)++([]:List Str)).Nodup:=by decide +kernel
theorem yx(F:bo K "is_row" "is_row" (top 11) dv f fd)(T:Txt K mg)(MJ:dm P w K mg base 1 "is_whole" 1 (aB 1 iE)):aW P w K mg base (bY P w) 2 f fd ["thing", "length"] (dJ 2 eh) :=
 F.gB ["thing", "length"] λnd _ _ _ _ _ _ hr O=>by
 unfold iz;walk_at "t"
 walk_at "pp"
 refine(qh ?_ (l_ ?_)).pt
 walk_at "pp"
 refine(D6 (Ts:=["list", "tuple"]) (by rfl) T.bh (zd (bj (dr (v:=.ty "list") (by rfl) T.vE se rfl) (bj (dr (v:=.ty "tuple") (by rfl) T.jT ij rfl) dC))) (fun σ H R h=>⟨by show 2<=sizeLine;decide,h⟩) (by decide) je ?_)
 walk_at "pp"
 refine(dZ (cx (g:=(aH 0)) (ts:=["number"]) (fs:=[]) (js:=[]) (cl:=[]) rfl rfl rfl rfl rfl rfl .nil .nil (gu ?_) dP (λ_ _ _ _ _=>(aZ (i:=0) tJ)) (λ_=>bO) cG (λ_ _ _ _ _=>?_)))
 walk_at "pp"
theorem w_(F:bo K "common" "common" (top 12) dv f fd)(T:Txt K mg)  : aW P w K mg base (bY P w) 1 f fd ["one", "other"] (dJ 2 fk) :=
 F.gB ["one", "other", "row", "behind", "times", "rest"] λnd _ _ _ _ _ _ hr O=>by
 unfold jx;walk_at "t"
 walk_at "pp"
 refine(tf O ?_ ?_)
 walk_at "pp"
theorem oK(F:bo K "multiple_of" "multiple_of" (top 13) dv f fd)(T:Txt K mg)(M6:dm P w K mg base 1 "common" 2 (aB 6 jx)):aW P w K mg base (bY P w) 2 f fd ["numbers"] (dJ 1 e9) :=
 F.gB ["numbers", "multiple", "number"] λnd _ _ _ _ _ _ hr O=>by
 unfold eY;walk_at "t"
 walk_at "pp"
 refine(cn (g:=(aH 2)) O rfl (gu ?_) dP (aZ (i:=2) nd) bO ?_)
 walk_at "pp"
theorem pF:((["other"]:List Str)++(["place"]:List Str)).Nodup:=by decide +kernel
theorem uq(F:bo K "unit_row" "unit_row" (top 14) dv f fd)(T:Txt K mg)  : aW P w K mg base (bY P w) 1 f fd ["length", "place"] (dJ 2 iG) :=
 F.gB ["length", "place"] λnd _ _ _ _ _ _ hr O=>by
 unfold ja;walk_at "t"
 walk_at "pp"
 refine(dZ (cx (g:=(aH 0)) (ts:=["other"]) (fs:=["place"]) (js:=[1]) rfl rfl rfl rfl rfl rfl (.cons rfl .nil) (.cons rfl rfl (by walk_at "l") rfl rfl .nil) (dI (by rfl) T.dW ?_) gi (λ_ _ _ _ _=>(aZ (i:=0) pF)) (λ_=>bO) cG (λ_ _ _ _ _=>?_)))
 walk_at "pp"
theorem sC(F:bo K "is_within" "is_within" (top 23) dv f fd)(T:Txt K mg)(MJ:dm P w K mg base 1 "is_whole" 1 (aB 1 iE)):aW P w K mg base (bY P w) 2 f fd ["thing", "least", "most"] (dJ 3 fF) :=
 F.gB ["thing", "least", "most"] λnd _ _ _ _ _ _ hr O=>by
 unfold fy;walk_at "t"
 walk_at "pp"
 refine(mn ?_ (mh ?_))
 walk_at "pp"
 refine(uj qt lZ qt lZ ?_ ?_ ?_)
 walk_at "pp"
theorem pH(F:bo K "need_sizes" "need_sizes" (top 24) dv f fd)(T:Txt K mg)(NP:qH P w K mg base dO "NoDial" "dial")(MB:dm P w K mg base 2 "is_within" 3 (aB 3 fy)):aW P w K mg base (bY P w) 3 f fd ["sizes"] (dJ 1 fQ) :=
 F.gB ["sizes", "dial", "size"] λnd _ _ _ _ _ _ hr O=>by
 unfold fN;walk_at "t"
 walk_at "pp"
 refine(cn (g:=(jy K 2 (bM (aH 1) (bM (aH 2) jG)))) O rfl (o7 (by rfl) T.dD ?_) lG (dY (n:=2) rfl (aQ (aZ (i:=1) nd) (aQ (aZ (i:=2) nd) cR))) cZ ?_)
 walk_at "pp"
theorem oS(F:bo K "need_levers" "need_levers" (top 25) dv f fd)(T:Txt K mg)(ME:dm P w K mg base 2 "is_row" 2 (aB 2 iz))(NH:qH P w K mg base dF "NoLever" "lever"):aW P w K mg base (bY P w) 3 f fd ["levers", "dials"] (dJ 2 e_) :=
 F.gB ["levers", "dials", "place", "lever"] λnd _ _ _ _ _ _ hr O=>by
 unfold eX;walk_at "t"
 walk_at "pp"
 refine(cn (g:=(jy K 2 (bM (aH 2) (bM (aH 3) jG)))) O rfl (o7 (by rfl) T.dD ?_) lG (dY (n:=2) rfl (aQ (aZ (i:=2) nd) (aQ (aZ (i:=3) nd) cR))) cZ ?_)
 walk_at "pp"
theorem pO(F:bo K "prices_for" "prices_for" (top 26) dv f fd)(T:Txt K mg)(NI:qH P w K mg base c6 "NoPrice" "lever")(MB:dm P w K mg base 2 "is_within" 3 (aB 3 fy)):aW P w K mg base (bY P w) 3 f fd ["levers", "prices"] (dJ 2 f7) :=
 F.gB ["levers", "prices", "place"] λnd _ _ _ _ _ _ hr O=>by
 unfold fM;walk_at "t"
 walk_at "pp"
 refine(cn (g:=(aH 2)) O rfl (dI (by rfl) T.dW ?_) gi (aZ (i:=2) nd) bO ?_)
 walk_at "pp"
 refine(iw (xc rfl) rR (by rfl) T.El GR ?_)
 walk_at "pp"
 refine(qh ?_ (l_ ?_)).pt
 walk_at "pp"
theorem oF:((["number", "size"]:List Str)++([]:List Str)).Nodup:=by decide +kernel
theorem Bn(F:bo K "rests" "rests" (top 27) dv f fd)(T:Txt K mg)  : aW P w K mg base (bY P w) 1 f fd ["numbers", "sizes"] (dJ 2 iN) :=
 F.gB ["numbers", "sizes"] λnd _ _ _ _ _ _ hr O=>by
 unfold jU;walk_at "t"
 walk_at "pp"
 refine(dZ (cx (g:=(jy K 2 (bM (aH 0) (bM (aH 1) jG)))) (ts:=["number", "size"]) (fs:=[]) (js:=[]) (cl:=[]) rfl rfl rfl rfl rfl rfl .nil .nil (jN (by rfl) T.kf ?_) gP (λ_ _ _ _ _=>(dY (n:=2) rfl (aQ (aZ (i:=0) oF) (aQ (aZ (i:=1) oF) cR)))) (λ_=>cZ) dy (λ_ _ _ _ _=>?_)))
 walk_at "pp"
theorem oh:((["one", "two"]:List Str)++(["times", "others"]:List Str)).Nodup:=by decide +kernel
theorem yP(F:bo K "mixed" "mixed" (top 36) dv f fd)(T:Txt K mg)  : aW P w K mg base (bY P w) 1 f fd ["row", "times", "other", "others"] (dJ 4 j7) :=
 F.gB ["row", "times", "other", "others"] λnd _ _ _ _ _ _ hr O=>by
 unfold lu;walk_at "t"
 walk_at "pp"
 refine(dZ (cx (g:=(jy K 2 (bM (aH 0) (bM (aH 1) jG)))) (ts:=["one", "two"]) (fs:=["times", "others"]) (js:=[1,3]) rfl rfl rfl rfl rfl rfl (.cons rfl (.cons rfl .nil)) (.cons rfl rfl (by walk_at "l") rfl rfl (.cons rfl rfl (by walk_at "l") rfl rfl .nil)) (jN (by rfl) T.kf ?_) gP (λ_ _ _ _ _=>(dY (n:=2) rfl (aQ (aZ (i:=0) oh) (aQ (aZ (i:=1) oh) cR)))) (λ_=>cZ) dy (λ_ _ _ _ _=>?_)))
 walk_at "pp"
theorem pJ(F:bo K "mixed_made" "mixed_made" (top 37) dv f fd)(T:Txt K mg)(Np:dm P w K mg base 1 "mixed" 4 (aB 4 lu))(MT:dm P w K mg base 1 "rests" 2 (aB 2 jU)):aW P w K mg base (bY P w) 2 f fd ["sizes", "made", "times", "other", "others"] (dJ 5 dc) :=
 F.gB ["sizes", "made", "times", "other", "others", "doing"] λnd _ _ _ _ _ _ hr O=>by
 unfold dS;walk_at "t"
 walk_at "pp"
theorem rD(F:bo K "step_size" "step_size" (top 40) dv f fd)(T:Txt K mg)  : aW P w K mg base (bY P w) 1 f fd ["sizes", "made_rows", "dial"] (dJ 3 fE) :=
 F.gB ["sizes", "made_rows", "dial", "notch"] λnd _ _ _ _ _ _ hr O=>by
 unfold fG;walk_at "t"
 walk_at "pp"
theorem uE(F:bo K "taken_in" "taken_in" (top 41) dv f fd)(T:Txt K mg)(MC:dm P w K mg base 1 "step_size" 3 (aB 4 fG))(M6:dm P w K mg base 1 "common" 2 (aB 6 jx))(Mx:dm P w K mg base 2 "mixed_made" 5 (aB 6 dS)):aW P w K mg base (bY P w) 3 f fd ["sizes", "made_rows", "left"] (dJ 3 iO) :=
 F.gB ["sizes", "made_rows", "left", "wider", "dial", "made", "step", "notch", "found"] λnd _ _ _ _ _ _ hr O=>by
 unfold iV;walk_at "t"
 walk_at "pp"
 refine(cn (g:=(jy K 2 (bM (aH 4) (bM (aH 5) jG)))) O rfl (o7 (by rfl) T.dD ?_) lG (dY (n:=2) rfl (aQ (aZ (i:=4) nd) (aQ (aZ (i:=5) nd) cR))) cZ ?_)
 walk_at "pp"
theorem vQ(F:bo K "lowered" "lowered" (top 42) dv f fd)(T:Txt K mg)(MC:dm P w K mg base 1 "step_size" 3 (aB 4 fG))(Mx:dm P w K mg base 2 "mixed_made" 5 (aB 6 dS)):aW P w K mg base (bY P w) 3 f fd ["sizes", "made_rows", "made", "first"] (dJ 4 eN) :=
 F.gB ["sizes", "made_rows", "made", "first", "dial", "times"] λnd _ _ _ _ _ _ hr O=>by
 unfold hV;walk_at "t"
 walk_at "pp"
 refine(cn (g:=(aH 4)) O rfl (yb (by rfl) T.dW ?_) AO (aZ (i:=4) nd) bO ?_)
 walk_at "pp"
theorem ub(F:bo K "in_spans" "in_spans" (top 43) dv f fd)(T:Txt K mg)(Np:dm P w K mg base 1 "mixed" 4 (aB 4 lu)):aW P w K mg base (bY P w) 2 f fd ["pulls", "idle_rows"] (dJ 2 gv) :=
 F.gB ["pulls", "idle_rows", "lever", "row"] λnd _ _ _ _ _ _ hr O=>by
 unfold gq;walk_at "t"
 walk_at "pp"
 refine(cn (g:=(aH 2)) O rfl (xG (by rfl) T.dW ?_) yZ (aZ (i:=2) nd) bO ?_)
 walk_at "pp"
theorem qV(F:bo K "_law_cell" "_law_cell" (top 48) dv f fd)(T:Txt K mg)  : aW P w K mg base (bY P w) 1 f fd ["_law_script", "_law_k"] (dJ 2 bV) :=
 F.gB ["_law_script", "_law_k"] λnd _ _ _ _ _ _ hr O=>by
 unfold fg;walk_at "t"
 walk_at "pp"
theorem pB(F:bo K "_law_mixed" "_law_mixed" (top 49) dv f fd)(T:Txt K mg)  : aW P w K mg base (bY P w) 1 f fd ["_law_cell_here", "_law_k"] (dJ 2 aT) :=
 F.gB ["_law_cell_here", "_law_k", "_law_number"] λnd _ _ _ _ _ _ hr O=>by
 unfold cK;walk_at "t"
 walk_at "pp"
theorem pP(F:bo K "_law_whole" "_law_whole" (top 50) dv f fd)(T:Txt K mg)  : aW P w K mg base (bY P w) 1 f fd ["_law_found", "_law_due"] (dJ 2 fV) :=
 F.gB ["_law_found", "_law_due"] λnd _ _ _ _ _ _ hr O=>by
 unfold fZ;walk_at "t"
 walk_at "pp"
 refine(mn ?_ (mn ?_ (mh ?_)))
 walk_at "pp"
 refine(jg (T := "int") (by rfl) T.bh (dr (v:=.ty "int") (by rfl) T.Be AW rfl) (by decide) je je ?_)
 walk_at "pp"
 refine(Ae ?_)
 walk_at "pp"
 refine(jg (T := "bool") (by rfl) T.bh (dr (v:=.ty "bool") (by rfl) T.rZ sq rfl) (by decide) je je ?_)
 walk_at "pp"
theorem nU:((["_law_part"]:List Str)++([]:List Str)).Nodup:=by decide +kernel
theorem qX(F:bo K "_law_same" "_law_same" (top 51) dv f fd)(T:Txt K mg)  : aW P w K mg base (bY P w) 1 f fd ["_law_found", "_law_due"] (dJ 2 gO) :=
 F.gB ["_law_found", "_law_due"] λnd _ _ _ _ _ _ hr O=>by
 unfold gJ;walk_at "t"
 walk_at "pp"
 refine(qh ?_ (l_ ?_)).pt
 walk_at "pp"
 refine(jg (T := "tuple") (by rfl) T.bh (dr (v:=.ty "tuple") (by rfl) T.jT ij rfl) (by decide) je je ?_)
 walk_at "pp"
 refine(dZ (As (g:=(aH 0)) (ts:=["_law_part"]) (fs:=[]) (js:=[]) (cl:=[]) rfl rfl rfl rfl rfl rfl .nil .nil (gu ?_) dP (λ_ _ _ _ _=>(aZ (i:=0) nU)) (λ_=>bO) cG (λ_ _ _ _ _=>?_) (λ_ _ _ _ _=>?_)))
 walk_at "pp"
 refine(jg (T := "bool") (by rfl) T.bh (dr (v:=.ty "bool") (by rfl) T.rZ sq rfl) (by decide) je je ?_)
 walk_at "pp"
theorem kB(F:bo K "_law_free_sizes" "_law_free_sizes" (top 52) dv f fd)(T:Txt K mg)  : aW P w K mg base (bY P w) 1 f fd ["_law_rest", "_law_most"] (dJ 2 cT) :=
 F.gB ["_law_rest", "_law_most", "_law_sizes_here", "_law_room"] λnd _ _ _ _ _ _ hr O=>by
 unfold cQ;walk_at "t"
 walk_at "pp"
 refine(m_ 2 ?_)
 walk_at "pp"
 refine(tf O ?_ ?_)
 walk_at "pp"
 refine(Gs ?_ (BY ?_)).pt
 walk_at "pp"
 refine(m_ 2 ?_)
 walk_at "pp"
theorem pL(F:bo K "_law_sizes" "_law_sizes" (top 53) dv f fd)(T:Txt K mg)(MA:dm P w K mg base 1 "_law_free_sizes" 2 (aB 4 cQ))(Mm:dm P w K mg base 1 "_law_mixed" 2 (aB 3 cK)):aW P w K mg base (bY P w) 2 f fd ["_law_cell_here", "_law_most"] (dJ 2 f6) :=
 F.gB ["_law_cell_here", "_law_most", "_law_sizes_here", "_law_room", "_law_k", "_law_top"] λnd _ _ _ _ _ _ hr O=>by
 unfold fU;walk_at "t"
 walk_at "pp"
 refine(cn (g:=(aH 4)) O rfl (dI (by rfl) T.dW ?_) gi (aZ (i:=4) nd) bO ?_)
 walk_at "pp"
 refine(iw (qi rfl) rR (by rfl) T.zA zS ?_)
 walk_at "pp"
 exact(wx [12,12,12,360])
 walk_at "pp"
 refine(m_ 2 ?_)
 walk_at "pp"
theorem nI(F:bo K "_law_digits" "_law_digits" (top 54) dv f fd)(T:Txt K mg)  : aW P w K mg base (bY P w) 1 f fd ["_law_rest", "_law_sizes_here"] (dJ 2 ff) :=
 F.gB ["_law_rest", "_law_sizes_here", "_law_found", "_law_size"] λnd _ _ _ _ _ _ hr O=>by
 unfold e7;walk_at "t"
 walk_at "pp"
 refine(cn (g:=(aH 3)) O rfl (gu ?_) dP (aZ (i:=3) nd) bO ?_)
 walk_at "pp"
theorem pV(F:bo K "_law_lever" "_law_lever" (top 55) dv f fd)(T:Txt K mg)(MU:dm P w K mg base 1 "_law_digits" 2 (aB 4 e7))(Mm:dm P w K mg base 1 "_law_mixed" 2 (aB 3 cK)):aW P w K mg base (bY P w) 2 f fd ["_law_cell_here", "_law_sizes_here"] (dJ 2 c8) :=
 F.gB ["_law_cell_here", "_law_sizes_here", "_law_by", "_law_far", "_law_lever_here", "_law_k", "_law_number", "_law_turns"] λnd _ _ _ _ _ _ hr O=>by
 unfold fW;walk_at "t"
 walk_at "pp"
 exact(wx [1,1,2,3,4,6])
 walk_at "pp"
 refine(cn (g:=(aH 5)) O rfl (dI (by rfl) T.dW ?_) gi (aZ (i:=5) nd) bO ?_)
 walk_at "pp"
 refine(iw (qi rfl) rR (by rfl) T.zA zS ?_)
 walk_at "pp"
theorem g8:((["_law_here", "_law_there", "_law_size"]:List Str)++([]:List Str)).Nodup:=by decide +kernel
theorem ue(F:bo K "_law_sum" "_law_sum" (top 56) dv f fd)(T:Txt K mg)  : aW P w K mg base (bY P w) 1 f fd ["_law_one", "_law_other", "_law_sizes_here"] (dJ 3 vc) :=
 F.gB ["_law_one", "_law_other", "_law_sizes_here"] λnd _ _ _ _ _ _ hr O=>by
 unfold cJ;walk_at "t"
 walk_at "pp"
 refine(dZ (cx (g:=(jy K 3 (bM (aH 0) (bM (aH 1) (bM (aH 2) jG))))) (ts:=["_law_here", "_law_there", "_law_size"]) (fs:=[]) (js:=[]) (cl:=[]) rfl rfl rfl rfl rfl rfl .nil .nil (Cq (by rfl) T.kf ?_) Bv (λ_ _ _ _ _=>(dY (n:=3) rfl (aQ (aZ (i:=0) g8) (aQ (aZ (i:=1) g8) (aQ (aZ (i:=2) g8) cR))))) (λ_=>De) vt (λ_ _ _ _ _=>?_)))
 walk_at "pp"
theorem a0:b_ ["_law_rows", "_law_sizes_here", "_law_empty", "_law_found", "_law_spans", "_law_row", "_law_here", "_law_ones", "_law_shift", "_law_turn", "_law_one"] ["_law_rows", "_law_sizes_here"] (aM (top 57)):=.of
theorem mH:((["_law_size"]:List Str)++([]:List Str)).Nodup:=by decide +kernel
theorem pv(F:bo K "_law_group" "_law_group" (top 57) dv f fd)(T:Txt K mg)(Mz:dm P w K mg base 1 "_law_sum" 3 (aB 3 cJ)):aW P w K mg base (bY P w) 2 f fd ["_law_rows", "_law_sizes_here"] (K6 2 fO) :=
 F.LM a0 rfl rfl λ_ _ _ _ _ _ hr O=>by
 unfold cF;have:=a0.nd;have T2:=T;cases T2
 walk_at "pp"
 refine(bH (gY (i:=2) a0.nd rfl (by walk_at "l") ?_) (bH (gY (i:=3) a0.nd rfl (by walk_at "l") (Bo hr.FE (bG (i:=2) rfl (by first | exact .inl rfl | exact .inr (.inl rfl))) A5)) (bH (gY (i:=4) a0.nd rfl (by walk_at "l") (sv dC)) (bH (rM O.own rfl (wC (bG (i:=0) rfl (by first | exact .inl rfl | exact .inr (.inl rfl)))) (aZ (i:=5) a0.nd) (bH (m9 (Ep PySem.F.plainAttrs_list PySem.F.slot_list_append PySem.F.type_list_append mj (bG (i:=4) rfl (by first | exact .inl rfl | exact .inr (.inl rfl))) (bj kJ dC))) (bH (gY (i:=6) a0.nd rfl (by walk_at "l") (bG (i:=5) rfl (by first | exact .inl rfl | exact .inr (.inl rfl)))) (bH (um O.own (FG (yc hr.u1 (bG (i:=6) rfl (by first | exact .inl rfl | exact .inr (.inl rfl))) (bG (i:=3) rfl (by first | exact .inl rfl | exact .inr (.inl rfl))))) (bH (gY (i:=6) a0.nd rfl (by walk_at "l") (Mz.raw hr (by omega) (by rfl) O (bj (bG (i:=6) rfl (by first | exact .inl rfl | exact .inr (.inl rfl))) (bj (bG (i:=5) rfl (by first | exact .inl rfl | exact .inr (.inl rfl))) (bj (bG (i:=1) rfl (by first | exact .inl rfl | exact .inr (.inl rfl))) dC))))) (bH (CQ (bG (i:=4) rfl (by first | exact .inl rfl | exact .inr (.inl rfl))) (zP vq kJ) A1 kJ Gr set_list) iQ))) (bH (gY (i:=7) a0.nd rfl (by walk_at "l") (qa (vG rfl) (by rfl) T.vE se (bj (bG (i:=3) rfl (by first | exact .inl rfl | exact .inr (.inl rfl))) dC))) (bH (gY (i:=8) a0.nd rfl (by walk_at "l") (bG (i:=2) rfl (by first | exact .inl rfl | exact .inr (.inl rfl)))) (bH (rM O.own rfl (dI (by rfl) T.dW (bj (Ej BH (AS ve (bG (i:=4) rfl (by first | exact .inl rfl | exact .inr (.inl rfl))) (zP vq kJ) (λ_ _=>rfl)) kJ) dC)) (aZ (i:=9) a0.nd) (bH (gY (i:=8) a0.nd rfl (by walk_at "l") (Mz.raw hr (by omega) (by rfl) O (bj (bG (i:=8) rfl (by first | exact .inl rfl | exact .inr (.inl rfl))) (bj (bG (i:=5) rfl (by first | exact .inl rfl | exact .inr (.inl rfl))) (bj (bG (i:=1) rfl (by first | exact .inl rfl | exact .inr (.inl rfl))) dC))))) (bH (rM O.own rfl (wC (bG (i:=7) rfl (by first | exact .inl rfl | exact .inr (.inl rfl)))) (aZ (i:=10) a0.nd) (bH (Ce hr.u1 (bG (i:=3) rfl (by first | exact .inl rfl | exact .inr (.inl rfl))) (Mz.raw hr (by omega) (by rfl) O (bj (bG (i:=10) rfl (by first | exact .inl rfl | exact .inr (.inl rfl))) (bj (bG (i:=8) rfl (by first | exact .inl rfl | exact .inr (.inl rfl))) (bj (bG (i:=1) rfl (by first | exact .inl rfl | exact .inr (.inl rfl))) dC)))) A5 rfl) iQ)) iQ))) iQ))))))) (bH (By (sv (bj (bG (i:=3) rfl (by first | exact .inl rfl | exact .inr (.inl rfl))) (bj (bG (i:=4) rfl (by first | exact .inl rfl | exact .inr (.inl rfl))) dC)))) iQ)))))
 walk_at "pp"
 refine(dZ (cx (g:=(aH 0)) (ts:=["_law_size"]) (fs:=[]) (js:=[]) (cl:=[]) rfl rfl rfl rfl rfl rfl .nil .nil (gu ?_) dP (λ_ _ _ _ _=>(aZ (i:=0) mH)) (λ_=>bO) cG (λ_ _ _ _ _=>?_)))
 walk_at "pp"
theorem jI:((["_law_number", "_law_size"]:List Str)++([]:List Str)).Nodup:=by decide +kernel
theorem qT(F:bo K "_law_kept" "_law_kept" (top 58) dv f fd)(T:Txt K mg)  : aW P w K mg base (bY P w) 1 f fd ["_law_lever_here", "_law_sizes_here"] (dJ 2 fu) :=
 F.gB ["_law_lever_here", "_law_sizes_here"] λnd _ _ _ _ _ _ hr O=>by
 unfold gG;walk_at "t"
 walk_at "pp"
 refine(dZ (cx (g:=(jy K 2 (bM (aH 0) (bM (aH 1) jG)))) (ts:=["_law_number", "_law_size"]) (fs:=[]) (js:=[]) (cl:=[]) rfl rfl rfl rfl rfl rfl .nil .nil (jN (by rfl) T.kf ?_) gP (λ_ _ _ _ _=>(dY (n:=2) rfl (aQ (aZ (i:=0) jI) (aQ (aZ (i:=1) jI) cR)))) (λ_=>cZ) dy (λ_ _ _ _ _=>?_)))
 walk_at "pp"
theorem pE(F:bo K "_law_pulls" "_law_pulls" (top 59) dv f fd)(T:Txt K mg)(Mm:dm P w K mg base 1 "_law_mixed" 2 (aB 3 cK)):aW P w K mg base (bY P w) 2 f fd ["_law_cell_here", "_law_many"] (dJ 2 fP) :=
 F.gB ["_law_cell_here", "_law_many", "_law_far", "_law_found", "_law_k", "_law_number"] λnd _ _ _ _ _ _ hr O=>by
 unfold fX;walk_at "t"
 walk_at "pp"
 refine(cn (g:=(aH 4)) O rfl (dI (by rfl) T.dW ?_) gi (aZ (i:=4) nd) bO ?_)
 walk_at "pp"
theorem ko:((["_law_times", "_law_row"]:List Str)++(["_law_at"]:List Str)).Nodup:=by decide +kernel
theorem ur(F:bo K "_law_led" "_law_led" (top 60) dv f fd)(T:Txt K mg)  : aW P w K mg base (bY P w) 1 f fd ["_law_rows", "_law_pulls_here", "_law_sizes_here"] (dJ 3 gz) :=
 F.gB ["_law_rows", "_law_pulls_here", "_law_sizes_here", "_law_found", "_law_at", "_law_size"] λnd _ _ _ _ _ _ hr O=>by
 unfold i5;walk_at "t"
 walk_at "pp"
 refine(cn (g:=(jy K 2 (bM (aH 4) (bM (aH 5) jG)))) O rfl (o7 (by rfl) T.dD ?_) lG (dY (n:=2) rfl (aQ (aZ (i:=4) nd) (aQ (aZ (i:=5) nd) cR))) cZ ?_)
 walk_at "pp"
 refine(dZ (cx (g:=(jy K 2 (bM (aH 0) (bM (aH 1) jG)))) (ts:=["_law_times", "_law_row"]) (fs:=["_law_at"]) (js:=[4]) rfl rfl rfl rfl rfl rfl (.cons rfl .nil) (.cons rfl rfl (by walk_at "l") rfl rfl .nil) (jN (by rfl) T.kf ?_) gP (λ_ _ _ _ _=>(dY (n:=2) rfl (aQ (aZ (i:=0) ko) (aQ (aZ (i:=1) ko) cR)))) (λ_=>cZ) dy (λ_ _ _ _ _=>?_)))
 walk_at "pp"
theorem kn:b_ ["self", "sizes", "levers", "prices"] ["self", "sizes", "levers", "prices"] (aM (inClass (top 22) 0)):=.of
theorem mL:((["lever"]:List Str)++(["sizes"]:List Str)).Nodup:=by decide +kernel
theorem pM(F:bo K "__init__" "Vault.__init__" (inClass (top 22) 0) dv f fd)(T:Txt K mg)(M9:dm P w K mg base 3 "need_sizes" 1 (aB 3 fN))(MW:dm P w K mg base 3 "need_levers" 2 (aB 4 eX))(MT:dm P w K mg base 1 "rests" 2 (aB 2 jU))(Na:dm P w K mg base 3 "prices_for" 2 (aB 3 fM))(MV:dm P w K mg base 2 "multiple_of" 1 (aB 3 eY)):aW P w K mg base (bY P w) 4 f fd ["self", "sizes", "levers", "prices"] (EE 4 aC gL) :=
 F.Lu kn (by decide) λ_ _ _ _ _ _ hr O=>by
 unfold iD;have:=kn.nd;have T2:=T;cases T2
 walk_at "pp"
 refine(ku (i:=0) rfl (by first | exact .inl rfl | exact .inr (.inl rfl)) T.lC T.gk ?_)
 walk_at "pp"
 refine(ku (i:=0) rfl (by first | exact .inl rfl | exact .inr (.inl rfl)) T.lC T.dU ?_)
 walk_at "pp"
 refine(dZ (cx (g:=(aH 0)) (ts:=["lever"]) (fs:=["sizes"]) (js:=[1]) rfl rfl rfl rfl rfl rfl (.cons rfl .nil) (.cons rfl rfl (by walk_at "l") rfl rfl .nil) (gu ?_) dP (λ_ _ _ _ _=>(aZ (i:=0) mL)) (λ_=>bO) cG (λ_ _ _ _ _=>?_)))
 walk_at "pp"
 refine(ku (i:=0) rfl (by first | exact .inl rfl | exact .inr (.inl rfl)) T.lC T.fj ?_)
 walk_at "pp"
 refine(ku (i:=0) rfl (by first | exact .inl rfl | exact .inr (.inl rfl)) T.lC T.fJ ?_)
 walk_at "pp"
theorem nP(F:bo K "sizes" "Vault.sizes" (inClass (top 22) 1) dv f fd)(T:Txt K mg)  : aW P w K mg base (bY P w) 1 f fd ["self"] (dJ 1 bA) :=
 F.gB ["self"] λnd _ _ _ _ _ _ hr O=>by
 unfold bW;walk_at "t"
 walk_at "pp"
theorem mO(F:bo K "levers" "Vault.levers" (inClass (top 22) 2) dv f fd)(T:Txt K mg)  : aW P w K mg base (bY P w) 1 f fd ["self"] (dJ 1 bq) :=
 F.gB ["self"] λnd _ _ _ _ _ _ hr O=>by
 unfold bK;walk_at "t"
 walk_at "pp"
theorem ye(F:bo K "nought" "nought" (top 28) dv f fd)(T:Txt K mg)(Ml:rX P w K mg base aC 1 "sizes" 1 (aB 1 bW)):aW P w K mg base (bY P w) 2 f fd ["vault"] (dJ 1 gy) :=
 F.gB ["vault"] λnd _ _ _ _ _ _ hr O=>by
 unfold iq;walk_at "t"
 walk_at "pp"
theorem jj:((["notch", "size"]:List Str)++([]:List Str)).Nodup:=by decide +kernel
theorem pq(F:bo K "is_setting" "is_setting" (top 29) dv f fd)(T:Txt K mg)(Ml:rX P w K mg base aC 1 "sizes" 1 (aB 1 bW))(ME:dm P w K mg base 2 "is_row" 2 (aB 2 iz)):aW P w K mg base (bY P w) 3 f fd ["vault", "thing"] (dJ 2 fL) :=
 F.gB ["vault", "thing", "sizes"] λnd _ _ _ _ _ _ hr O=>by
 unfold fY;walk_at "t"
 walk_at "pp"
 refine(qh ?_ (l_ ?_)).pt
 walk_at "pp"
 refine(jg (T := "tuple") (by rfl) T.bh (dr (v:=.ty "tuple") (by rfl) T.jT ij rfl) (by decide) je je ?_)
 walk_at "pp"
 refine(dZ (cx (g:=(jy K 2 (bM (aH 0) (bM (aH 1) jG)))) (ts:=["notch", "size"]) (fs:=[]) (js:=[]) (cl:=[]) rfl rfl rfl rfl rfl rfl .nil .nil (jN (by rfl) T.kf ?_) gP (λ_ _ _ _ _=>(dY (n:=2) rfl (aQ (aZ (i:=0) jj) (aQ (aZ (i:=1) jj) cR)))) (λ_=>cZ) dy (λ_ _ _ _ _=>?_)))
 walk_at "pp"
 refine(uj qt lZ wL sE ?_ ?_ ?_)
 walk_at "pp"
theorem ux(F:bo K "is_pulls" "is_pulls" (top 30) dv f fd)(T:Txt K mg)(Mj:rX P w K mg base aC 1 "levers" 1 (aB 1 bK))(ME:dm P w K mg base 2 "is_row" 2 (aB 2 iz)):aW P w K mg base (bY P w) 3 f fd ["vault", "thing"] (dJ 2 bD) :=
 F.gB ["vault", "thing"] λnd _ _ _ _ _ _ hr O=>by
 unfold cW;walk_at "t"
 walk_at "pp"
 refine(mn ?_ (mh ?_))
 walk_at "pp"
 refine(jg (T := "tuple") (by rfl) T.bh (dr (v:=.ty "tuple") (by rfl) T.jT ij rfl) (by decide) je je ?_)
 walk_at "pp"
theorem mT(F:bo K "need_setting" "need_setting" (top 31) dv f fd)(T:Txt K mg)(M7:dm P w K mg base 3 "is_setting" 2 (aB 3 fY)):aW P w K mg base (bY P w) 4 f fd ["vault", "thing"] (dJ 2 cX) :=
 F.gB ["vault", "thing"] λnd _ _ _ _ _ _ hr O=>by
 unfold cV;walk_at "t"
 walk_at "pp"
theorem pU(F:bo K "need_pulls" "need_pulls" (top 32) dv f fd)(T:Txt K mg)(Nu:dm P w K mg base 3 "is_pulls" 2 (aB 2 cW)):aW P w K mg base (bY P w) 4 f fd ["vault", "thing"] (dJ 2 de) :=
 F.gB ["vault", "thing"] λnd _ _ _ _ _ _ hr O=>by
 unfold dR;walk_at "t"
 walk_at "pp"
theorem nW:((["notch", "turn"]:List Str)++(["times"]:List Str)).Nodup:=by decide +kernel
theorem zi(F:bo K "added" "added" (top 33) dv f fd)(T:Txt K mg)(Ml:rX P w K mg base aC 1 "sizes" 1 (aB 1 bW))(MT:dm P w K mg base 1 "rests" 2 (aB 2 jU)):aW P w K mg base (bY P w) 2 f fd ["vault", "setting", "other", "times"] (dJ 4 mV) :=
 F.gB ["vault", "setting", "other", "times", "numbers"] λnd _ _ _ _ _ _ hr O=>by
 unfold nh;walk_at "t"
 walk_at "pp"
 refine(rg (i:=4) (g:=(jy K 2 (bM (aH 0) (bM (aH 1) jG)))) (ts:=["notch", "turn"]) (fs:=["times"]) (js:=[3]) rfl rfl rfl rfl rfl rfl (.cons rfl .nil) (.cons rfl rfl (by walk_at "l") rfl rfl .nil) (jN (by rfl) T.kf ?_) gP (λ_ _ _ _ _=>(dY (n:=2) rfl (aQ (aZ (i:=0) nW) (aQ (aZ (i:=1) nW) cR)))) (λ_=>cZ) dy (λ_ _ _ _ _=>?_) nd rfl (by walk_at "l"))
 walk_at "pp"
theorem xt(F:bo K "turned" "turned" (top 34) dv f fd)(T:Txt K mg)(Ms:dm P w K mg base 4 "need_setting" 2 (aB 2 cV))(M8:dm P w K mg base 4 "need_pulls" 2 (aB 2 dR))(Mj:rX P w K mg base aC 1 "levers" 1 (aB 1 bK))(N8:dm P w K mg base 2 "added" 4 (aB 5 nh)):aW P w K mg base (bY P w) 5 f fd ["vault", "setting", "pulls"] (dJ 3 ig) :=
 F.gB ["vault", "setting", "pulls", "reached", "lever", "times"] λnd _ _ _ _ _ _ hr O=>by
 unfold jM;walk_at "t"
 walk_at "pp"
 refine(cn (g:=(jy K 2 (bM (aH 4) (bM (aH 5) jG)))) O rfl (jN (by rfl) T.kf ?_) gP (dY (n:=2) rfl (aQ (aZ (i:=4) nd) (aQ (aZ (i:=5) nd) cR))) cZ ?_)
 walk_at "pp"
theorem tW(F:bo K "unpulled" "unpulled" (top 38) dv f fd)(T:Txt K mg)(Mj:rX P w K mg base aC 1 "levers" 1 (aB 1 bK)):aW P w K mg base (bY P w) 2 f fd ["vault", "setting"] (dJ 2 eS) :=
 F.gB ["vault", "setting"] λnd _ _ _ _ _ _ hr O=>by
 unfold gj;walk_at "t"
 walk_at "pp"
theorem o5(F:bo K "pulled_once" "pulled_once" (top 39) dv f fd)(T:Txt K mg)(Mj:rX P w K mg base aC 1 "levers" 1 (aB 1 bK))(Nw:dm P w K mg base 1 "unit_row" 2 (aB 2 ja)):aW P w K mg base (bY P w) 2 f fd ["vault", "lever"] (dJ 2 fe) :=
 F.gB ["vault", "lever", "levers"] λnd _ _ _ _ _ _ hr O=>by
 unfold fb;walk_at "t"
 walk_at "pp"
theorem gX:b_ ["self", "vault", "sizes", "made_rows", "idle_rows", "lever", "taken"] ["self", "vault"] (aM (inClass (top 44) 0)):=.of
theorem mK:((["size"]:List Str)++(["vault"]:List Str)).Nodup:=by decide +kernel
theorem ji:((["dial", "made"]:List Str)++(["sizes", "made_rows"]:List Str)).Nodup:=by decide +kernel
theorem pW(F:bo K "__init__" "Rungs.__init__" (inClass (top 44) 0) dv f fd)(T:Txt K mg)(Ml:rX P w K mg base aC 1 "sizes" 1 (aB 1 bW))(MF:dm P w K mg base 2 "nought" 1 (aB 1 iq))(MK:dm P w K mg base 2 "unpulled" 2 (aB 2 gj))(Mj:rX P w K mg base aC 1 "levers" 1 (aB 1 bK))(MX:dm P w K mg base 2 "pulled_once" 2 (aB 3 fb))(Nv:dm P w K mg base 3 "taken_in" 3 (aB 9 iV))(MI:dm P w K mg base 2 "in_spans" 2 (aB 4 gq))(MS:dm P w K mg base 3 "lowered" 4 (aB 6 hV)):aW P w K mg base (bY P w) 4 f fd ["self", "vault"] (EE 2 aJ gU) :=
 F.Lu gX (by decide) λ_ _ _ _ _ _ hr O=>by
 unfold i6;have:=gX.nd;have T2:=T;cases T2
 walk_at "pp"
 refine(dZ (cx (g:=(aH 0)) (ts:=["size"]) (fs:=["vault"]) (js:=[1]) rfl rfl rfl rfl rfl rfl (.cons rfl .nil) (.cons rfl rfl (by walk_at "l") rfl rfl .nil) (gu ?_) dP (λ_ _ _ _ _=>(aZ (i:=0) mK)) (λ_=>bO) cG (λ_ _ _ _ _=>?_)))
 walk_at "pp"
 refine(cn (g:=(aH 5)) O rfl (dI (by rfl) T.dW ?_) gi (aZ (i:=5) gX.nd) bO ?_)
 walk_at "pp"
 refine(m_ 4 ?_)
 walk_at "pp"
 refine(ku (i:=0) rfl (by first | exact .inl rfl | exact .inr (.inl rfl)) T.mX T.kh ?_)
 walk_at "pp"
 refine(ku (i:=0) rfl (by first | exact .inl rfl | exact .inr (.inl rfl)) T.mX T.gT ?_)
 walk_at "pp"
 refine(dZ (cx (g:=(jy K 2 (bM (aH 0) (bM (aH 1) jG)))) (ts:=["dial", "made"]) (fs:=["sizes", "made_rows"]) (js:=[2,3]) rfl rfl rfl rfl rfl rfl (.cons rfl (.cons rfl .nil)) (.cons rfl rfl (by walk_at "l") rfl rfl (.cons rfl rfl (by walk_at "l") rfl rfl .nil)) (o7 (by rfl) T.dD ?_) lG (λ_ _ _ _ _=>(dY (n:=2) rfl (aQ (aZ (i:=0) ji) (aQ (aZ (i:=1) ji) cR)))) (λ_=>cZ) dy (λ_ _ _ _ _=>?_)))
 walk_at "pp"
 refine(ku (i:=0) rfl (by first | exact .inl rfl | exact .inr (.inl rfl)) T.mX T.gQ ?_)
 walk_at "pp"
theorem jq(F:bo K "brought_down" "Rungs.brought_down" (inClass (top 44) 5) dv f fd)(T:Txt K mg)(Ms:dm P w K mg base 4 "need_setting" 2 (aB 2 cV))(MK:dm P w K mg base 2 "unpulled" 2 (aB 2 gj))(Ml:rX P w K mg base aC 1 "sizes" 1 (aB 1 bW))(MS:dm P w K mg base 3 "lowered" 4 (aB 6 hV)):aW P w K mg base (bY P w) 5 f fd ["self", "setting"] (dJ 2 bL) :=
 F.gB ["self", "setting"] λnd _ _ _ _ _ _ hr O=>by
 unfold cp;walk_at "t"
 walk_at "pp"
theorem j8:((["times"]:List Str)++([]:List Str)).Nodup:=by decide +kernel
theorem lB(F:bo K "pulls_to" "Rungs.pulls_to" (inClass (top 44) 7) dv f fd)(T:Txt K mg)(Mu:rX P w K mg base aJ 5 "brought_down" 2 (aB 2 cp))(MF:dm P w K mg base 2 "nought" 1 (aB 1 iq))(MI:dm P w K mg base 2 "in_spans" 2 (aB 4 gq)):aW P w K mg base (bY P w) 6 f fd ["self", "setting"] (dJ 2 c_) :=
 F.gB ["self", "setting", "made"] λnd _ _ _ _ _ _ hr O=>by
 unfold c9;walk_at "t"
 walk_at "pp"
 refine(dZ (cx (g:=(aH 0)) (ts:=["times"]) (fs:=[]) (js:=[]) (cl:=[]) rfl rfl rfl rfl rfl rfl .nil .nil (gu ?_) dP (λ_ _ _ _ _=>(aZ (i:=0) j8)) (λ_=>bO) cG (λ_ _ _ _ _=>?_)))
 walk_at "pp"
theorem xR(F:bo K "normal" "normal" (top 46) dv f fd)(T:Txt K mg)(MZ:GF P w K mg base aJ 4 "Rungs" 2 [] gU)(MD:rX P w K mg base aJ 6 "pulls_to" 2 (aB 3 c9))(MF:dm P w K mg base 2 "nought" 1 (aB 1 iq))(NN:dm P w K mg base 5 "turned" 3 (aB 6 jM)):aW P w K mg base (bY P w) 7 f fd ["vault", "pulls"] (dJ 2 d_) :=
 F.gB ["vault", "pulls"] λnd _ _ _ _ _ _ hr O=>by
 unfold ib;walk_at "t"
 walk_at "pp"
theorem qF(F:bo K "_law_good" "_law_good" (top 61) dv f fd)(T:Txt K mg)(M_:dm P w K mg base 7 "normal" 2 (aB 2 ib))(M5:dm P w K mg base 1 "_law_whole" 2 (aB 2 fZ))(Nt:dm P w K mg base 1 "_law_led" 3 (aB 6 i5))(Ni:dm P w K mg base 1 "_law_same" 2 (aB 2 gJ)):aW P w K mg base (bY P w) 8 f fd ["_law_vault", "_law_rows", "_law_spans", "_law_pulls_here", "_law_sizes_here"] (dJ 5 gM) :=
 F.gB ["_law_vault", "_law_rows", "_law_spans", "_law_pulls_here", "_law_sizes_here", "_law_found", "_law_times", "_law_span"] λnd _ _ _ _ _ _ hr O=>by
 unfold gW;walk_at "t"
 walk_at "pp"
 refine(qh ?_ (l_ ?_)).pt
 walk_at "pp"
 refine(jg (T := "tuple") (by rfl) T.bh (dr (v:=.ty "tuple") (by rfl) T.jT ij rfl) (by decide) je je ?_)
 walk_at "pp"
 refine(cn (g:=(jy K 2 (bM (aH 6) (bM (aH 7) jG)))) O rfl (jN (by rfl) T.kf ?_) gP (dY (n:=2) rfl (aQ (aZ (i:=6) nd) (aQ (aZ (i:=7) nd) cR))) cZ ?_)
 walk_at "pp"
 refine(qh ?_ (l_ ?_)).pt
 walk_at "pp"
 refine(An qt lZ wL sE ?_ ?_ ?_)
 walk_at "pp"
 refine(mn ?_ (mh ?_))
 walk_at "pp"
theorem mQ(F:bo K "_law_refused" "_law_refused" (top 62) dv f fd)(T:Txt K mg)(M_:dm P w K mg base 7 "normal" 2 (aB 2 ib)):aW P w K mg base (bY P w) 8 f fd ["_law_vault", "_law_thing"] (dJ 2 cw) :=
 F.gB ["_law_vault", "_law_thing", "_law_kinds", "e"] λnd _ _ _ _ _ _ hr O=>by
 unfold er;walk_at "t"
 walk_at "pp"
 refine(Gu rfl rfl (λpn E2 O2=>(Dl ?_)) (.ER (i:=3) (by rfl) T.jc.mg (by decide) nd rfl rfl T.jc.ok (λea=>?_) .nil))
 walk_at "pp"
 refine(T.p9.is (by rfl) T.bh (by rfl) ?_)
 walk_at "pp"
 refine(DJ (by rfl) T.bh (dr (v:=.ty "ValueError") (by rfl) T.kW pX rfl) T.Lq ?_)
 walk_at "pp"
theorem y0:((["_law_k"]:List Str)++(["_law_script", "_law_sizes_here"]:List Str)).Nodup:=by decide +kernel
theorem Bj:((["_law_lever_here"]:List Str)++(["_law_sizes_here"]:List Str)).Nodup:=by decide +kernel
theorem FI(F:bo K "law" "law" (top 63) dv f fd)(T:Txt K mg)(Nf:dm P w K mg base 1 "_law_cell" 2 (aB 2 fg))(M4:dm P w K mg base 2 "_law_sizes" 2 (aB 6 fU))(Mm:dm P w K mg base 1 "_law_mixed" 2 (aB 3 cK))(M1:dm P w K mg base 2 "_law_lever" 2 (aB 8 fW))(M0:GF P w K mg base aC 4 "Vault" 4 [.cL] gL)(Nh:dm P w K mg base 1 "_law_kept" 2 (aB 2 gG))(MH:JD P w K mg base 2 "_law_group" 2 (sR (aB 3 cJ) cF))(M3:dm P w K mg base 2 "_law_pulls" 2 (aB 6 fX))(Ng:dm P w K mg base 8 "_law_good" 5 (aB 8 gW))(MQ:dm P w K mg base 8 "_law_refused" 2 (aB 4 er)):aW P w K mg base (bY P w) 9 f fd ["_law_script"] (dJ 1 qm) :=
 F.gB ["_law_script", "_law_sizes_here", "_law_many", "_law_levers", "_law_vault", "_law_rows", "_law_spans", "_law_cell_here", "_law_bad"] λnd _ _ _ _ _ _ hr O=>by
 unfold zh;walk_at "t"
 walk_at "pp"
 refine(rg (i:=3) (g:=(aH 0)) (ts:=["_law_k"]) (fs:=["_law_script", "_law_sizes_here"]) (js:=[0,1]) rfl rfl rfl rfl rfl rfl (.cons rfl (.cons rfl .nil)) (.cons rfl rfl (by walk_at "l") rfl rfl (.cons rfl rfl (by walk_at "l") rfl rfl .nil)) (dI (by rfl) T.dW ?_) gi (λ_ _ _ _ _=>(aZ (i:=0) y0)) (λ_=>bO) cG (λ_ _ _ _ _=>?_) nd rfl (by walk_at "l"))
 walk_at "pp"
 refine(rg (i:=5) (g:=(aH 0)) (ts:=["_law_lever_here"]) (fs:=["_law_sizes_here"]) (js:=[1]) rfl rfl rfl rfl rfl rfl (.cons rfl .nil) (.cons rfl rfl (by walk_at "l") rfl rfl .nil) (gu ?_) dP (λ_ _ _ _ _=>(aZ (i:=0) Bj)) (λ_=>bO) cG (λ_ _ _ _ _=>?_) nd rfl (by walk_at "l"))
 walk_at "pp"
 refine(MH.IL hr (by omega) (by rfl) O ?_)
 walk_at "pp"
 refine(cn (g:=(aH 7)) O rfl (gu ?_) dP (aZ (i:=7) nd) bO ?_)
 walk_at "pp"
 refine(w6 ?_ (v9 ?_) (v9 ?_))
 walk_at "pp"
 refine(cn (g:=(aH 8)) O rfl (gu ?_) dP (aZ (i:=8) nd) bO ?_)
 walk_at "pp"
 refine(HJ ?_ (mh ?_))
 walk_at "pp"
end uK
namespace uK
open PySem L2 PyProof.Rows
open PySem.W (nsIn findIn codeIn keepIn isFn mroIn specialIn takesIn hasDictIn typeIn plainGet plainOver makesIn mg_of mg_none_of fnOf excIn clsIn)
abbrev κ(w:World):PySem.W.Frag:=HD.K w.params
variable(w:World)
abbrev Jo:Value:=HD.st "dialvault.wholes" 386
abbrev vj:Value:=HD.st "dialvault.vault" 428
abbrev AZ:Value:=HD.st "dialvault.rungs" 598
abbrev uM:Value:=HD.st "law_dialvault_k33_normal_forms_of_pulls" 779
abbrev L6:Value:=HD.st "dialvault.classes" 769
abbrev md5:Value:=HD.st "dialvault.errors" 194
def g_:FuncData:=wD "_law_group" "_law_group" (top 57) uM 530
theorem k9:bo (κ w) "_law_group" "_law_group" (top 57) .none 531 g_:=.of (by kernel_rfl) (by kernel_rfl) (by kernel_rfl)
theorem qO:Binds (κ w) g_ ["_law_rows", "_law_sizes_here"] []:=Binds.all (Ih λ_ _=>rfl)
def hU:FuncData:=fnOf "__init__" "Vault.__init__" (gD (inClass (top 22) 0)) (dw (inClass (top 22) 0)) (aM (inClass (top 22) 0)) (.ref 215) .none .none vj none (.ref 219) .none
theorem lq:bo (κ w) "__init__" "Vault.__init__" (inClass (top 22) 0) (.ref 215) 220 hU:=.of (by kernel_rfl) (by kernel_rfl) (by kernel_rfl)
def hG:FuncData:=wD "__init__" "Rungs.__init__" (inClass (top 44) 0) AZ 398
theorem qM:bo (κ w) "__init__" "Rungs.__init__" (inClass (top 44) 0) .none 399 hG:=.of (by kernel_rfl) (by kernel_rfl) (by kernel_rfl)
theorem qN:Binds (κ w) hG ["self", "vault"] []:=Binds.all (Ih λ_ _=>rfl)
def vV:FuncData:=wD "law" "law" (top 63) uM 566
theorem Ig:bo (κ w) "law" "law" (top 63) .none 567 vV:=.of (by kernel_rfl) (by kernel_rfl) (by kernel_rfl)
theorem kq:fq (κ w) bp:=⟨(by kernel_rfl),(by kernel_rfl),(by kernel_rfl),(by kernel_rfl),(by kernel_rfl),(by kernel_rfl),(by kernel_rfl),(by kernel_rfl),(by kernel_rfl)⟩
theorem iK:fq (κ w) dG:=⟨(by kernel_rfl),(by kernel_rfl),(by kernel_rfl),(by kernel_rfl),(by kernel_rfl),(by kernel_rfl),(by kernel_rfl),(by kernel_rfl),(by kernel_rfl)⟩
theorem kz:fq (κ w) eE:=⟨(by kernel_rfl),(by kernel_rfl),(by kernel_rfl),(by kernel_rfl),(by kernel_rfl),(by kernel_rfl),(by kernel_rfl),(by kernel_rfl),(by kernel_rfl)⟩
theorem jW:fq (κ w) dO:=⟨(by kernel_rfl),(by kernel_rfl),(by kernel_rfl),(by kernel_rfl),(by kernel_rfl),(by kernel_rfl),(by kernel_rfl),(by kernel_rfl),(by kernel_rfl)⟩
def gE:FuncData:=wD "__init__" "NoDial.__init__" (inClass (top 3) 0) md5 54
theorem JR:(κ w).lookup 55=some ⟨.type "function", none,.func gE,⟨[]⟩⟩:=by kernel_rfl
theorem KW:codeIn (κ w) (.ref 54) "NoDial.__init__" = true:=by kernel_rfl
theorem vM:Binds (κ w) gE ["self", "dial"] []:=Binds.all (Ih λ_ _=>rfl)
theorem vT:b_ ["self", "dial"] ["self", "dial"] (aM (inClass (top 3) 0)):=.of
theorem Kv:((clsIn (κ w) 65).any λcd=>fS cd.mro)=true:=by kernel_rfl
theorem KP:findIn (κ w) (.ref 65) "dial" = some none:=by kernel_rfl
theorem uN{P:Program}{w:World}{mg:Str->Option Value}{base:Heap}:aW P w (κ w) mg base (bY P w) 1 55 gE ["self", "dial"] (xU (κ w) dO "dial") :=
 oq (n0 := "self") (n1 := "dial") (fl := "dial") (JR w) (KW w) vT (jW w) (Kv w) (KP w) (by first | exact .inl rfl | exact .inr (.inl rfl)) (by first | exact .inl rfl | exact .inr (.inl rfl)) (by decide) (by decide) (by decide) (by decide) (λ_=>rfl)
theorem i0:fq (κ w) dF:=⟨(by kernel_rfl),(by kernel_rfl),(by kernel_rfl),(by kernel_rfl),(by kernel_rfl),(by kernel_rfl),(by kernel_rfl),(by kernel_rfl),(by kernel_rfl)⟩
def f9:FuncData:=wD "__init__" "NoLever.__init__" (inClass (top 4) 0) md5 80
theorem Li:(κ w).lookup 81=some ⟨.type "function", none,.func f9,⟨[]⟩⟩:=by kernel_rfl
theorem Le:codeIn (κ w) (.ref 80) "NoLever.__init__" = true:=by kernel_rfl
theorem sV:Binds (κ w) f9 ["self", "lever"] []:=Binds.all (Ih λ_ _=>rfl)
theorem sJ:b_ ["self", "lever"] ["self", "lever"] (aM (inClass (top 4) 0)):=.of
theorem KZ:((clsIn (κ w) 91).any λcd=>fS cd.mro)=true:=by kernel_rfl
theorem Km:findIn (κ w) (.ref 91) "lever" = some none:=by kernel_rfl
theorem tP{P:Program}{w:World}{mg:Str->Option Value}{base:Heap}:aW P w (κ w) mg base (bY P w) 1 81 f9 ["self", "lever"] (xU (κ w) dF "lever") :=
 oq (n0 := "self") (n1 := "lever") (fl := "lever") (Li w) (Le w) sJ (i0 w) (KZ w) (Km w) (by first | exact .inl rfl | exact .inr (.inl rfl)) (by first | exact .inl rfl | exact .inr (.inl rfl)) (by decide) (by decide) (by decide) (by decide) (λ_=>rfl)
theorem i9:fq (κ w) c6:=⟨(by kernel_rfl),(by kernel_rfl),(by kernel_rfl),(by kernel_rfl),(by kernel_rfl),(by kernel_rfl),(by kernel_rfl),(by kernel_rfl),(by kernel_rfl)⟩
def f_:FuncData:=wD "__init__" "NoPrice.__init__" (inClass (top 5) 0) md5 106
theorem La:(κ w).lookup 107=some ⟨.type "function", none,.func f_,⟨[]⟩⟩:=by kernel_rfl
theorem KN:codeIn (κ w) (.ref 106) "NoPrice.__init__" = true:=by kernel_rfl
theorem tX:Binds (κ w) f_ ["self", "lever"] []:=Binds.all (Ih λ_ _=>rfl)
theorem uv:b_ ["self", "lever"] ["self", "lever"] (aM (inClass (top 5) 0)):=.of
theorem Kn:((clsIn (κ w) 117).any λcd=>fS cd.mro)=true:=by kernel_rfl
theorem Kt:findIn (κ w) (.ref 117) "lever" = some none:=by kernel_rfl
theorem t8{P:Program}{w:World}{mg:Str->Option Value}{base:Heap}:aW P w (κ w) mg base (bY P w) 1 107 f_ ["self", "lever"] (xU (κ w) c6 "lever") :=
 oq (n0 := "self") (n1 := "lever") (fl := "lever") (La w) (KN w) uv (i9 w) (Kn w) (Kt w) (by first | exact .inl rfl | exact .inr (.inl rfl)) (by first | exact .inl rfl | exact .inr (.inl rfl)) (by decide) (by decide) (by decide) (by decide) (λ_=>rfl)
theorem ia:lK (κ w) aJ:=⟨(by kernel_rfl),(by kernel_rfl),(by kernel_rfl),(by kernel_rfl)⟩
theorem gm:lK (κ w) aC:=⟨(by kernel_rfl),(by kernel_rfl),(by kernel_rfl),(by kernel_rfl)⟩
theorem Iz:findIn (κ w) (.ref 456) "idle_rows" = some none:=by kernel_rfl
theorem I_:findIn (κ w) (.ref 456) "made_rows" = some none:=by kernel_rfl
theorem Ju:findIn (κ w) (.ref 456) "vault" = some none:=by kernel_rfl
theorem IE:findIn (κ w) (.ref 251) "dial_sizes" = some none:=by kernel_rfl
theorem Jj:findIn (κ w) (.ref 251) "least_round" = some none:=by kernel_rfl
theorem HI:findIn (κ w) (.ref 251) "lever_prices" = some none:=by kernel_rfl
theorem Ib:findIn (κ w) (.ref 251) "lever_settings" = some none:=by kernel_rfl
theorem J3:nsIn (κ w) mainGlobals "LEAST_PRICE" = some (some (.int 1 438)):=by kernel_rfl
theorem Kk:nsIn (κ w) mainGlobals "LEAST_SIZE" = some (some (.int 2 432)):=by kernel_rfl
theorem Lm:nsIn (κ w) mainGlobals "MOST_DIALS" = some (some (.int 6 430)):=by kernel_rfl
theorem JT:nsIn (κ w) mainGlobals "MOST_LEVERS" = some (some (.int 8 436)):=by kernel_rfl
theorem Lp:nsIn (κ w) mainGlobals "MOST_PRICE" = some (some (.int 1000 440)):=by kernel_rfl
theorem Kz:nsIn (κ w) mainGlobals "MOST_SIZE" = some (some (.int 360 434)):=by kernel_rfl
theorem Lo:nsIn (κ w) mainGlobals "VaultError" = some (some (.ref 38)):=by kernel_rfl
theorem Lh:EO (λC=>PySem.W.exmOne (κ w) (.ref C) (.ref lA)) e8 fc=true:=by kernel_rfl
theorem Lg:nsIn (κ w) mainGlobals "NoPulls" = some (some (.ref 155)):=by kernel_rfl
theorem Ka:(G2.all λa=>PySem.W.kitOne (κ w) (.type a) (.ref bp)==some false)=true:=by kernel_rfl
theorem Ku:EO (λC=>PySem.W.kitOne (κ w) (.ref C) (.ref bp)) iT i_=true:=by kernel_rfl
theorem J_:EO (λC=>PySem.W.kitOne (κ w) (.ref C) (.ref bp)) eM eG=true:=by kernel_rfl
theorem Kg:(κ w).lookup 215=some (HD.tu [.none]):=by kernel_rfl
theorem qS:Binds (κ w) hU ["self", "sizes", "levers", "prices"] [.none]:=(lq w).binds (Kg w) rfl λ_ _ _ _ _ _ us hl=>by obtain⟨a,b,c,rfl⟩:=LJ (show _=3 from (by simpa using hl));exact⟨_,rfl,rfl⟩
variable{h:Heap}
theorem txt{w:World}{mg:Str->Option Value}(X:PySem.W.Frag.In (κ w) h)(G:h.Ns mainGlobals mg):Txt (κ w) mg where
 kW:=mg_none_of X G (by kernel_rfl)
 Jh:=mg_none_of X G (by kernel_rfl)
 rZ:=mg_none_of X G (by kernel_rfl)
 dD:=mg_none_of X G (by kernel_rfl)
 Be:=mg_none_of X G (by kernel_rfl)
 bh:=mg_none_of X G (by kernel_rfl)
 IP:=mg_none_of X G (by kernel_rfl)
 vE:=mg_none_of X G (by kernel_rfl)
 El:=mg_none_of X G (by kernel_rfl)
 zA:=mg_none_of X G (by kernel_rfl)
 dW:=mg_none_of X G (by kernel_rfl)
 Ja:=mg_none_of X G (by kernel_rfl)
 jT:=mg_none_of X G (by kernel_rfl)
 kf:=mg_none_of X G (by kernel_rfl)
 pD:=⟨_,mg_of X G (J3 w),⟨_,rfl⟩⟩
 rG:=⟨_,mg_of X G (Kk w),⟨_,rfl⟩⟩
 r9:=⟨_,mg_of X G (Lm w),⟨_,rfl⟩⟩
 pK:=⟨_,mg_of X G (JT w),⟨_,rfl⟩⟩
 rE:=⟨_,mg_of X G (Lp w),⟨_,rfl⟩⟩
 tF:=⟨_,mg_of X G (Kz w),⟨_,rfl⟩⟩
 mX:=ia w
 lC:=gm w
 yG:=⟨(by kernel_rfl),kq w,(by kernel_rfl),(by kernel_rfl),mg_of X G (by kernel_rfl)⟩
 uA:=⟨(by kernel_rfl),iK w,(by kernel_rfl),(by kernel_rfl),mg_of X G (by kernel_rfl)⟩
 yq:=⟨(by kernel_rfl),kz w,(by kernel_rfl),(by kernel_rfl),mg_of X G (by kernel_rfl)⟩
 jc:=.of (mg_of X G (Lo w)) (Lh w)
 p9:=.of (mg_of X G (Lg w)) (Ka w) (Ku w) (J_ w) Ah Ah (yH (kq w) Ah) (yH (jW w) (yH (i0 w) (yH (i9 w) (yH (iK w) (yH (kz w) Ah)))))
 Lq:=(yH ⟨jW w,(by kernel_rfl)⟩ (yH ⟨i0 w,(by kernel_rfl)⟩ (yH ⟨i9 w,(by kernel_rfl)⟩ (yH ⟨kq w,(by kernel_rfl)⟩ (yH ⟨iK w,(by kernel_rfl)⟩ (yH ⟨kz w,(by kernel_rfl)⟩ Ah))))))
 gQ:=(Iz w)
 gT:=(I_ w)
 kh:=(Ju w)
 gk:=(IE w)
 fJ:=(Jj w)
 fj:=(HI w)
 dU:=(Ib w)
 rJ:=λC h=>by obtain rfl:=eq_of_beq h;exact⟨gm w,(IE w)⟩
 sL:=λC h=>by obtain rfl:=eq_of_beq h;exact⟨ia w,(Iz w)⟩
 pj:=λC h=>by obtain rfl:=eq_of_beq h;exact⟨gm w,(Jj w)⟩
 nF:=λC h=>by obtain rfl:=eq_of_beq h;exact⟨gm w,(HI w)⟩
 lV:=λC h=>by obtain rfl:=eq_of_beq h;exact⟨gm w,(Ib w)⟩
 ug:=λC h=>by obtain rfl:=eq_of_beq h;exact⟨ia w,(I_ w)⟩
 C6:=λC h=>by obtain rfl:=eq_of_beq h;exact⟨ia w,(Ju w)⟩
theorem FH{P:Program}{w:World}{mg:Str->Option Value}(X:PySem.W.Frag.In (κ w) h)(G:h.Ns mainGlobals mg)(base:Heap):aW P w (κ w) mg base (bY P w) 9 567 vV ["_law_script"] (dJ 1 qm):=by
 have T:=txt X G
 have NP:qH P w (κ w) mg base dO "NoDial" "dial" := ⟨⟨55,gE,["self", "dial"],(by kernel_rfl),(by kernel_rfl),uN,vM w⟩,jW w,(by kernel_rfl),(by kernel_rfl),mg_of X G (by kernel_rfl)⟩
 have NH:qH P w (κ w) mg base dF "NoLever" "lever" := ⟨⟨81,f9,["self", "lever"],(by kernel_rfl),(by kernel_rfl),tP,sV w⟩,i0 w,(by kernel_rfl),(by kernel_rfl),mg_of X G (by kernel_rfl)⟩
 have NI:qH P w (κ w) mg base c6 "NoPrice" "lever" := ⟨⟨107,f_,["self", "lever"],(by kernel_rfl),(by kernel_rfl),t8,tX w⟩,i9 w,(by kernel_rfl),(by kernel_rfl),mg_of X G (by kernel_rfl)⟩
 have MJ:=iC P w base X G 183 182 Jo λD=>uC D T
 have ME:=iC P w base X G 188 187 Jo λD=>yx D T MJ
 have M6:=iC P w base X G 195 194 Jo λD=>w_ D T
 have MV:=iC P w base X G 202 201 Jo λD=>oK D T M6
 have Nw:=iC P w base X G 207 206 Jo λD=>uq D T
 have MB:=iC P w base X G 262 261 vj λD=>sC D T MJ
 have M9:=iC P w base X G 269 268 vj λD=>pH D T NP MB
 have MW:=iC P w base X G 276 275 vj λD=>oS D T ME NH
 have Na:=iC P w base X G 283 282 vj λD=>pO D T NI MB
 have MT:=iC P w base X G 288 287 vj λD=>Bn D T
 have Np:=iC P w base X G 338 337 AZ λD=>yP D T
 have Mx:=iC P w base X G 345 344 AZ λD=>pJ D T Np MT
 have MC:=iC P w base X G 366 365 AZ λD=>rD D T
 have Nv:=iC P w base X G 373 372 AZ λD=>uE D T MC M6 Mx
 have MS:=iC P w base X G 380 379 AZ λD=>vQ D T MC Mx
 have MI:=iC P w base X G 387 386 AZ λD=>ub D T Np
 have Nf:=iC P w base X G 474 473 uM λD=>qV D T
 have Mm:=iC P w base X G 481 480 uM λD=>pB D T
 have M5:=iC P w base X G 488 487 uM λD=>pP D T
 have Ni:=iC P w base X G 493 492 uM λD=>qX D T
 have MA:=iC P w base X G 500 499 uM λD=>kB D T
 have M4:=iC P w base X G 507 506 uM λD=>pL D T MA Mm
 have MU:=iC P w base X G 514 513 uM λD=>nI D T
 have M1:=iC P w base X G 521 520 uM λD=>pV D T MU Mm
 have Mz:=iC P w base X G 526 525 uM λD=>ue D T
 have MH:JD P w (κ w) mg base 2 "_law_group" 2 (sR (aB 3 cJ) cF):=⟨⟨531,g_,["_law_rows", "_law_sizes_here"],mg_of X G (by kernel_rfl),(k9 w).kp,rfl,qO w,pv (k9 w) T Mz⟩⟩
 have Nh:=iC P w base X G 536 535 uM λD=>qT D T
 have M3:=iC P w base X G 543 542 uM λD=>pE D T Mm
 have Nt:=iC P w base X G 548 547 uM λD=>ur D T
 have M0:GF P w (κ w) mg base aC 4 "Vault" 4 [.cL] gL:=⟨⟨220,hU,["self", "sizes", "levers", "prices"],[.none],[.cL],mg_of X G (by kernel_rfl),⟨(by kernel_rfl),(by kernel_rfl),(by kernel_rfl),(by kernel_rfl)⟩,qS w,(.cons rfl .nil),λ_=>(.cons .cL .nil),pM (lq w) T M9 MW MT Na MV⟩⟩
 have Ml:=Jy P w base (gm w) 227 226 vj λD=>nP D T
 have Mj:=Jy P w base (gm w) 234 233 vj λD=>mO D T
 have MF:=iC P w base X G 295 294 vj λD=>ye D T Ml
 have M7:=iC P w base X G 300 299 vj λD=>pq D T Ml ME
 have Nu:=iC P w base X G 307 306 vj λD=>ux D T Mj ME
 have Ms:=iC P w base X G 314 313 vj λD=>mT D T M7
 have M8:=iC P w base X G 321 320 vj λD=>pU D T Nu
 have N8:=iC P w base X G 326 325 vj λD=>zi D T Ml MT
 have NN:=iC P w base X G 333 332 vj λD=>xt D T Ms M8 Mj N8
 have MK:=iC P w base X G 352 351 AZ λD=>tW D T Mj
 have MX:=iC P w base X G 359 358 AZ λD=>o5 D T Mj Nw
 have MZ:GF P w (κ w) mg base aJ 4 "Rungs" 2 [] gU:=⟨⟨399,hG,["self", "vault"],[],[],mg_of X G (by kernel_rfl),⟨(by kernel_rfl),(by kernel_rfl),(by kernel_rfl),(by kernel_rfl)⟩,qN w,.nil,λ_=>.nil,pW (qM w) T Ml MF MK Mj MX Nv MI MS⟩⟩
 have Mu:=Jy P w base (ia w) 434 433 AZ λD=>jq D T Ms MK Ml MS
 have MD:=Jy P w base (ia w) 446 445 AZ λD=>lB D T Mu MF MI
 have M_:=iC P w base X G 467 466 L6 λD=>xR D T MZ MD MF NN
 have Ng:=iC P w base X G 555 554 uM λD=>qF D T M_ M5 Nt Ni
 have MQ:=iC P w base X G 562 561 uM λD=>mQ D T M_
 exact FI (Ig w) T Nf M4 Mm M1 M0 Nh MH M3 Ng MQ
theorem Kf:wk (κ w)=true:=by kernel_rfl
theorem J8:nsIn (κ w) mainGlobals "law" = some (some (.ref 567)):=by kernel_rfl
end uK
open PySem PySem.W
theorem uK.hold(said:PySem.Challenge.rw_dialvault_k33_normal_forms_of_pulls.wellSaid=true)(Pa:∀ ns:List Int,ns.length<=63->(∀ i∈ns,Builtin.Int.intBits i<=1048576)->uK.qm [.jh (ns.map L2.PV.int)]=L2.M.ok (.bl true)):PySem.Challenge.rw_dialvault_k33_normal_forms_of_pulls.Holds:=by
 refine holds_law said λsaid=>?_
 refine holds_open (q:=HD.vw) (loose:=HD.loose) (Xt:=HD.Xt) (XP:=XL HD.vw []) (Yf:=Hook.obs HD.hook) (Ya:=Hook.val HD.hook) (YP:=Hook.says HD.hook) HD.Iw (Hook.of HD.hook) (Hook.keeps HD.hook) (λs e=>xl_of s (Bool.and_eq_true_iff.mp e).1) XL.keeps (by rfl) (by rfl) (by rfl) (λs e=>recFacts_of (Bool.and_eq_true_iff.mp e).2) (by rfl) said (by decide +kernel) ⟨rfl,rfl,rfl,rfl,rfl,by decide +kernel⟩ ?hw ?hc
 case hw=>w_witness2
 refine L2.vk (l:=PySem.Challenge.rw_dialvault_k33_normal_forms_of_pulls) (n:=63) (k:=9) (x := "_law_script") (K:=HD.K) (sem:=uK.qm) rfl (by decide) rfl ⟨rfl,by decide,by decide⟩ (λw h Y=>PySem.W.kIn_of Y) (λw=>uK.Kf w) (λw mg fa h X G hmg=>?_) Pa
 have e:=hmg.symm.trans (PySem.W.mg_of X G (uK.J8 w))
 cases e
 exact⟨uK.vV,λs v=>.of_eq rfl,λbase X' G'=>uK.FH X' G' base⟩
namespace Eu
theorem ql(a b:Int)(hb:b≠0):(a-a.fdiv b*b).natAbs<b.natAbs/\0<=(a-a.fdiv b*b)*b/\(0<=a*b->a.natAbs=(a.fdiv b).natAbs*b.natAbs+(a-a.fdiv b*b).natAbs):=by
 have pos:∀ (a b:Int),0<b->(a-a/b*b).natAbs<b.natAbs/\0<=(a-a/b*b)*b/\(0<=a*b->a.natAbs=(a/b).natAbs*b.natAbs+(a-a/b*b).natAbs):=by
  intro a b hb
  have e:a-a/b*b=a%b:=by
   have h:=Int.mul_ediv_add_emod a b
   rw[Int.mul_comm] at h
   omega
  have h0:=Int.emod_nonneg a (by omega:b≠0)
  have h1:=Int.emod_lt_of_pos a hb
  rw[e]
  refine⟨by omega,Int.mul_nonneg h0 (by omega),λhab=>?_⟩
  have ha:0<=a:=by
   rcases Int.lt_or_le a 0 with h | h
   ·have:=Int.mul_neg_of_neg_of_pos h hb
    omega
   ·exact h
  have hq:0<=a/b:=Int.ediv_nonneg ha (by omega)
  have h2:=Int.mul_ediv_add_emod a b
  have h3:((a/b).natAbs*b.natAbs:Nat)=(b*(a/b)).natAbs:=by
   rw[Int.natAbs_mul,Nat.mul_comm]
  rw[h3]
  have h4:0<=b*(a/b):=Int.mul_nonneg (by omega) hq
  omega
 rcases Int.lt_or_le 0 b with h | h
 ·rw[Int.fdiv_eq_ediv_of_nonneg a (by omega)]
  exact pos a b h
 ·have h':0 < -b:=by omega
  have e:a.fdiv b=(-a)/(-b):=by
   rw[← Int.fdiv_eq_ediv_of_nonneg (-a) (by omega:0<=-b),Int.neg_fdiv_neg]
  obtain⟨p1,p2,p3⟩:=pos (-a) (-b) h'
  have e2:-a-(-a)/(-b)*(-b)=-(a-a.fdiv b*b):=by
   rw[← e,Int.mul_neg]
   omega
  rw[e2] at p1 p2 p3
  rw[← e] at p3
  simp only[Int.natAbs_neg,Int.neg_mul_neg] at p1 p2 p3
  exact⟨p1,p2,p3⟩
structure St (a b:Int) (r s t r' s' t':Int):Prop where
 c0:r=s*a+t*b
 c1:r'=s'*a+t'*b
 dv:∀ d:Int,d∣r->d∣r'->d∣a/\d∣b
 bd:s'.natAbs*r.natAbs+s.natAbs*r'.natAbs<=b.natAbs
 sg:s'=0\/0<=r*r'
 b0:s.natAbs<=b.natAbs+1
 b1:s'.natAbs<=b.natAbs+1
 d0:t.natAbs<=a.natAbs+(b.natAbs+1)*a.natAbs+b.natAbs+1
 d1:t'.natAbs<=a.natAbs+(b.natAbs+1)*a.natAbs+b.natAbs+1
 m0:r.natAbs<=a.natAbs+b.natAbs
 m1:r'.natAbs<=b.natAbs
theorem start(a b:Int):St a b a 1 0 b 0 1 where
 c0:=by omega
 c1:=by omega
 dv:=λd h1 h2=>⟨h1,h2⟩
 bd:=by simp
 sg:=.inl rfl
 b0:=by omega
 b1:=by omega
 d0:=by simp
 d1:=by omega
 m0:=by omega
 m1:=by omega
theorem turn{a b r s t r' s' t':Int}(h:St a b r s t r' s' t')(h0:r'≠0) :
  St a b r' s' t' (r-r.fdiv r'*r') (s-r.fdiv r'*s') (t-r.fdiv r'*t')/\(r-r.fdiv r'*r').natAbs<r'.natAbs:=by
 obtain⟨f1,f2,f3⟩:=ql r r' h0
 generalize hq:r.fdiv r'=q at *
 have hb:b≠0:=by
  intro z
  have:=h.m1
  omega
 have hr':1<=r'.natAbs:=by omega
 have O0:r-q*r'=(s-q*s')*a+(t-q*t')*b:=by
  rw[h.c0,h.c1,Int.sub_mul,Int.sub_mul,Int.mul_add,Int.mul_assoc,Int.mul_assoc]
  omega
 have bd':(s-q*s').natAbs*r'.natAbs+s'.natAbs*(r-q*r').natAbs<=b.natAbs:=by
  have v5:(s-q*s').natAbs<=s.natAbs+q.natAbs*s'.natAbs:=by
   rw[← Int.natAbs_mul]
   omega
  have hbd:=h.bd
  rcases h.sg with z | z
  ·subst z
   simp only[Int.mul_zero,Int.sub_zero,Int.natAbs_zero,Nat.zero_mul,Nat.zero_add,Nat.add_zero] at hbd ⊢
   exact hbd
  ·have e:=f3 z
   have k1:(s-q*s').natAbs*r'.natAbs<=(s.natAbs+q.natAbs*s'.natAbs)*r'.natAbs:=Nat.mul_le_mul_right _ v5
   have k2:(s.natAbs+q.natAbs*s'.natAbs)*r'.natAbs+s'.natAbs*(r-q*r').natAbs=s'.natAbs*r.natAbs+s.natAbs*r'.natAbs:=by
    rw[e,Nat.add_mul,Nat.mul_add,Nat.mul_comm q.natAbs s'.natAbs,Nat.mul_assoc]
    omega
   omega
 have b1':(s-q*s').natAbs<=b.natAbs:=by
  have:(s-q*s').natAbs*1<=(s-q*s').natAbs*r'.natAbs:=Nat.mul_le_mul_left _ hr'
  omega
 have mm:(r-q*r').natAbs<=b.natAbs:=by
  have:=h.m1
  omega
 have d1':(t-q*t').natAbs<=a.natAbs+(b.natAbs+1)*a.natAbs+b.natAbs+1:=by
  have e:(t-q*t')*b=(r-q*r')-(s-q*s')*a:=by omega
  have e1:((t-q*t')*b).natAbs<=(r-q*r').natAbs+((s-q*s')*a).natAbs:=by omega
  rw[Int.natAbs_mul,Int.natAbs_mul] at e1
  have k1:(t-q*t').natAbs*1<=(t-q*t').natAbs*b.natAbs:=Nat.mul_le_mul_left _ (by omega)
  have k2:(s-q*s').natAbs*a.natAbs<=(b.natAbs+1)*a.natAbs:=Nat.mul_le_mul_right _ (by omega)
  omega
 refine⟨⟨h.c1,O0,λd e1 e2=>?_,bd',?_,h.b1,by omega,h.d1,d1',?_,mm⟩,f1⟩
 ·refine h.dv d ?_ e1
  have e3:d∣q*r':=Int.dvd_trans e1 (Int.dvd_mul_left _ _)
  have e4:=Int.dvd_add e2 e3
  rwa [Int.sub_add_cancel] at e4
 ·exact .inr (by rw[Int.mul_comm];exact f2)
 ·have:=h.m1
  omega
theorem done{a b r s t s' t':Int}(h:St a b r s t 0 s' t'):r∣a/\r∣b:=h.dv r (Int.dvd_refl r) (Int.dvd_zero r)
end Eu
namespace Lc
def IM(ns:List Nat):Nat:=ns.foldl Nat.lcm 1
theorem Aq(m n:Nat):m/Nat.gcd m n*n=Nat.lcm m n:=by
 unfold Nat.lcm
 rw[Nat.div_mul_right_comm (Nat.gcd_dvd_left m n)]
end Lc
namespace Rg
abbrev eB:=Nat->Int
def br(s:eB)(D:Nat->eB)(d:Nat):Int:=if D d d=0 then s d else D d d
def G(n:Nat)(s:eB)(D:Nat->eB):Nat->Nat->eB->Prop
 | 0,_,v=>∀ i,i<n->s i∣v i
 | k+1,d,v=>br s D d∣v d/\G n s D k (d+1) λi=>v i-v d/br s D d*D d i
def U(i:Nat)(c:Int):eB:=λj=>if j=i then c else 0
variable{D:Nat->eB}{s:eB}{n:Nat}
theorem G.ext:∀ {k d:Nat} {v w:eB},d+k=n->(∀ i,i<n->v i=w i)->G n s D k d v->G n s D k d w
 | 0,d,v,w,_,e,h=>λi hi=>by rw[← e i hi];exact h i hi
 | k+1,d,v,w,hn,e,h=>by
  have ed:=e d (by omega)
  refine⟨by rw[← ed];exact h.1,G.ext (by omega) (λi hi=>?_) h.2⟩
  rw[e i hi,ed]
theorem G.add:∀ {k d:Nat} {v w:eB},d+k=n->G n s D k d v->G n s D k d w->G n s D k d λi=>v i+w i
 | 0,d,v,w,_,h,h'=>λi hi=>Int.dvd_add (h i hi) (h' i hi)
 | k+1,d,v,w,hn,h,h'=>by
  refine⟨Int.dvd_add h.1 h'.1,G.ext (by omega) (λi hi=>?_) (G.add (by omega) h.2 h'.2)⟩
  show _=v i+w i-(v d+w d)/br s D d*D d i
  rw[Int.add_ediv_of_dvd_left h.1,Int.add_mul]
  omega
theorem G.mul(c:Int):∀ {k d:Nat} {v:eB},d+k=n->G n s D k d v->G n s D k d λi=>c*v i
 | 0,d,v,_,h=>λi hi=>Int.dvd_trans (h i hi) (Int.dvd_mul_left _ _)
 | k+1,d,v,hn,h=>by
  refine⟨Int.dvd_trans h.1 (Int.dvd_mul_left _ _),G.ext (by omega) (λi hi=>?_) (G.mul c (by omega) h.2)⟩
  show _=c*v i-c*v d/br s D d*D d i
  rw[Int.mul_ediv_assoc c h.1,Int.mul_sub,Int.mul_assoc]
theorem G.zero:∀ {k d:Nat},d+k=n->G n s D k d λ_=>0
 | 0,d,_=>λi _=>Int.dvd_zero _
 | k+1,d,hn=>⟨Int.dvd_zero _,G.ext (by omega) (λi hi=>by simp) (G.zero (k:=k) (d:=d+1) (by omega))⟩
theorem G.skip{v:eB}:∀ {j k d:Nat},d+(j+k)=n->(∀ i,d<=i->i<d+j->v i=0)->G n s D k (d+j) v->G n s D (j+k) d v
 | 0,k,d,_,_,h=>by rw[Nat.zero_add];exact h
 | j+1,k,d,hn,hz,h=>by
  rw[show j+1+k=(j+k)+1 by omega]
  have z:=hz d (Nat.le_refl _) (by omega)
  refine⟨by rw[z];exact Int.dvd_zero _,G.ext (v:=v) (by omega) (λi hi=>by rw[z];simp) (G.skip (by omega) (λi h1 h2=>hz i (by omega) (by omega)) (by rw[show d+1+j=d+(j+1) by omega];exact h))⟩
structure Good (n:Nat) (s:eB) (D:Nat->eB):Prop where
 sp:∀ i,i<n->0<s i
 ki:∀ d,d<n->∀ i,i<n->0<=D d i/\D d i<s i
 v5:∀ d,d<n->∀ i,i<d->D d i=0
 dv:∀ d,d<n->br s D d∣s d
 JH:∀ d k,d+(k+1)=n->G n s D k (d+1) λi=>s d/br s D d*D d i
variable{k:Nat}
theorem Good.pos(g:Good n s D){d:Nat}(h:d<n):0<br s D d/\br s D d<=s d:=by
 have h1:=g.ki d h d h
 have h2:=g.sp d h
 unfold br
 split <;> omega
theorem Good.diag(g:Good n s D){d:Nat}(h:d<n):s d∣D d d-br s D d:=by
 unfold br
 split
 ·rename_i z;rw[z];exact⟨-1,by omega⟩
 ·rw[Int.sub_self];exact Int.dvd_zero _
theorem Good.turn(g:Good n s D):∀ {k d i:Nat} (c:Int),d+k=n->i<n->G n s D k d (U i (c*s i))
 | 0,d,i,c,_,hi=>λj hj=>by
  unfold U
  split
  ·rename_i z;rw[z];exact Int.dvd_mul_left _ _
  ·exact Int.dvd_zero _
 | k+1,d,i,c,hn,hi=>by
  have hd:d<n:=by omega
  by_cases z:i=d
  ·subst z
   have dv:=g.dv i hi
   refine⟨by show _∣U i _ i;rw[U,if_pos rfl];exact Int.dvd_trans dv (Int.dvd_mul_left _ _),?_⟩
   refine G.ext (by omega) (λj hj=>?_) (G.add (by omega) (g.turn (k:=k) (d:=i+1) (i:=i) c (by omega) hi) (G.mul (-c) (by omega) (g.JH i k hn)))
   show U i (c*s i) j+-c*(s i/br s D i*D i j)=U i (c*s i) j-U i (c*s i) i/br s D i*D i j
   rw[show U i (c*s i) i=c*s i by rw[U,if_pos rfl],Int.mul_ediv_assoc c dv,Int.neg_mul,Int.mul_assoc]
   omega
  ·have u0:U i (c*s i) d=0:=by rw[U,if_neg (Ne.symm z)]
   refine⟨by rw[u0];exact Int.dvd_zero _,G.ext (by omega) (λj hj=>?_) (g.turn (k:=k) (d:=d+1) (i:=i) c (by omega) hi)⟩
   rw[u0];simp
theorem G.qL{d:Nat}{v w:eB}(ht:∀ i c,i<n->G n s D k d (U i (c*s i)))(hn:d+k=n)(h:∀ i,i<n->s i∣w i-v i)(hv:G n s D k d v):G n s D k d w:=by
 have key:∀ m,m<=n->G n s D k d λi=>if i<m then w i else v i:=by
  intro m
  induction m with
  | zero=>intro _;exact G.ext hn (λi _=>by simp) hv
  | succ m ih =>
   intro hm
   obtain⟨c,hc⟩:=h m (by omega)
   refine G.ext hn (λi hi=>?_) (G.add hn (ih (by omega)) (ht m c (by omega)))
   show (if i<m then w i else v i)+U m (c*s m) i=if i<m+1 then w i else v i
   unfold U
   by_cases z:i=m
   ·subst z
    rw[if_neg (by omega),if_pos rfl,if_pos (by omega),Int.mul_comm c]
    omega
   ·rw[if_neg z]
    by_cases q:i<m
    ·rw[if_pos q,if_pos (by omega)];omega
    ·rw[if_neg q,if_neg (by omega)];omega
 exact G.ext hn (λi hi=>by simp[hi]) (key n (Nat.le_refl _))
theorem Good.qL(g:Good n s D){k d:Nat}{v w:eB}(hn:d+k=n)(h:∀ i,i<n->s i∣w i-v i)(hv:G n s D k d v):G n s D k d w :=
 G.qL (λi c hi=>g.turn c hn hi) hn h hv
theorem Good.own(g:Good n s D){d:Nat}(hn:d+(k+1)=n):G n s D (k+1) d (D d):=by
 have hd:d<n:=by omega
 by_cases z:D d d=0
 ·have e:br s D d=s d:=by unfold br;rw[if_pos z]
  have c:=g.JH d k hn
  rw[e] at c
  refine⟨by rw[z];exact Int.dvd_zero _,G.ext (by omega) (λi hi=>?_) c⟩
  rw[z,Int.ediv_self (by have:=g.sp d hd;omega)]
  simp
 ·have e:br s D d=D d d:=by unfold br;rw[if_neg z]
  refine⟨by rw[e];exact Int.dvd_refl _,G.ext (by omega) (λi hi=>?_) (G.zero (k:=k) (d:=d+1) (by omega))⟩
  rw[e,Int.ediv_self z];omega
theorem Good.row(g:Good n s D){d:Nat}(hd:d<n):∀ {k e:Nat},e+k=n->e<=d->G n s D k e (D d):=by
 intro k e hn he
 have h:=g.own (d:=d) (k:=n-d-1) (by omega)
 have:=G.skip (n:=n) (s:=s) (D:=D) (v:=D d) (j:=d-e) (k:=n-d-1+1) (d:=e) (by omega) (λi h1 h2=>g.v5 d hd i (by omega)) (by rw[show e+(d-e)=d by omega];exact h)
 rw[show d-e+(n-d-1+1)=k by omega] at this
 exact this
structure Tk (n:Nat) (s:eB) (D D' L:Nat->eB) (u v g:Nat->Int):Prop where
 gp:∀ d,d<n->0<g d
 bz:∀ d,d<n->u d*br s D d+v d*L d d=g d
 g1:∀ d,d<n->g d∣br s D d
 g2:∀ d,d<n->g d∣L d d
 Ii:∀ d,d<n->∀ i,i<n->D' d i=(u d*D d i+v d*L d i)%s i
 ID:∀ d,d<n->∀ i,i<n->L (d+1) i=(br s D d/g d*L d i+-(L d d/g d)*D d i)%s i
 l0:∀ i,i<n->0<=L 0 i/\L 0 i<s i
variable{a b:Int}
section
variable{D' L:Nat->eB}{u v g:Nat->Int}
theorem fz(a b:Int):b∣a%b-a:=⟨-(a/b),by have:=Int.emod_def a b;rw[Int.mul_neg];omega⟩
theorem yB(a b:Int):b∣a-a%b:=⟨a/b,by have:=Int.emod_def a b;omega⟩
theorem Tk.kept(t:Tk n s D D' L u v g)(G:Good n s D):∀ d,d<=n->∀ i,i<n->0<=L d i/\L d i<s i:=by
 intro d hd i hi
 cases d with
 | zero=>exact t.l0 i hi
 | succ d =>
  rw[t.ID d (by omega) i hi]
  have:=G.sp i hi
  exact⟨Int.emod_nonneg _ (by omega),Int.emod_lt_of_pos _ this⟩
theorem jR(h0:0<=a)(h1:a<b)(h:b∣a):a=0:=by
 obtain⟨c,rfl⟩:=h
 rcases Int.lt_or_le 0 c with hc | hc
 ·have:b*1<=b*c:=Int.mul_le_mul_of_nonneg_left hc (by omega)
  omega
 ·have:b*c<=0:=Int.mul_nonpos_of_nonneg_of_nonpos (by omega) hc
  omega
theorem Tk.zero(t:Tk n s D D' L u v g)(G:Good n s D):∀ d,d<=n->∀ i,i<d->L d i=0:=by
 intro d
 induction d with
 | zero=>intro _ i hi;omega
 | succ d ih =>
  intro hd i hi
  have OW:d<n:=by omega
  have k:=t.kept G (d+1) hd i (by omega)
  refine jR k.1 k.2 ?_
  rw[t.ID d OW i (by omega)]
  rcases Nat.lt_or_ge i d with h | h
  ·rw[ih (by omega) i h,G.v5 d OW i h]
   simp
  ·obtain rfl:i=d:=by omega
   refine Int.dvd_trans ?_ (Int.dvd_refl _)
   obtain⟨c,hc⟩:=G.diag OW
   obtain⟨a,ha⟩:=t.g1 i OW
   obtain⟨b,hb⟩:=t.g2 i OW
   have gp:=t.gp i OW
   have e1:br s D i/g i=a:=by rw[ha];exact Int.mul_ediv_cancel_left a (by omega)
   have e2:L i i/g i=b:=by rw[hb];exact Int.mul_ediv_cancel_left b (by omega)
   rw[e1,e2]
   have e3:a*L i i+-b*D i i=s i*(-b*c):=by
    have:D i i=br s D i+s i*c:=by omega
    rw[this,ha,hb];grind
   rw[e3,Int.mul_emod_right]
   exact Int.dvd_zero _
theorem Tk.step(t:Tk n s D D' L u v g)(G:Good n s D){d:Nat}(hd:d<n):br s D' d=g d:=by
 obtain⟨c,hc⟩:=G.diag hd
 have gp:=t.gp d hd
 have sp:=G.sp d hd
 have st:=G.pos hd
 have le:g d<=br s D d:=Int.le_of_dvd st.1 (t.g1 d hd)
 have e:D' d d=g d%s d:=by
  rw[t.Ii d hd d hd,← t.bz d hd]
  have:D d d=br s D d+s d*c:=by omega
  rw[this,show u d*(br s D d+s d*c)+v d*L d d=(u d*br s D d+v d*L d d)+s d*(u d*c) by grind,Int.add_mul_emod_self_left]
 unfold br
 rw[e]
 by_cases z:g d=s d
 ·rw[z,Int.emod_self,if_pos rfl]
 ·rw[Int.emod_eq_of_lt (by omega) (by omega),if_neg (by omega)]
theorem Tk.main(t:Tk n s D D' L u v g)(Gd:Good n s D):∀ k d,d+k=n->(∀ w,G n s D k d w->G n s D' k d w)/\G n s D' k d (L d)
 | 0,d,hn=>by
  refine⟨λw h=>h,λi hi=>?_⟩
  rw[t.zero Gd d (by omega) i (by omega)];exact Int.dvd_zero _
 | k+1,d,hn=>by
  obtain⟨i1,i2⟩:=t.main Gd k (d+1) (by omega)
  have hd:d<n:=by omega
  have turn:∀ i c,i<n->G n s D' k (d+1) (U i (c*s i)):=λi c hi=>i1 _ (Gd.turn c (by omega) hi)
  have st:=t.step Gd hd
  have gp:=t.gp d hd
  obtain⟨a,ha⟩:=t.g1 d hd
  obtain⟨b,hb⟩:=t.g2 d hd
  have e1:br s D d/g d=a:=by rw[ha];exact Int.mul_ediv_cancel_left a (by omega)
  have e2:L d d/g d=b:=by rw[hb];exact Int.mul_ediv_cancel_left b (by omega)
  have bz:u d*a+v d*b=1:=by
   have:=t.bz d hd
   rw[ha,hb,show u d*(g d*a)+v d*(g d*b)=g d*(u d*a+v d*b) by grind] at this
   have h2:g d*(u d*a+v d*b)=g d*1:=by omega
   exact Int.eq_of_mul_eq_mul_left (by omega) h2
  have w1:∀ i,i<n->∃ c,D' d i=u d*D d i+v d*L d i+s i*c:=λi hi=>by
   obtain⟨c,hc⟩:=fz (u d*D d i+v d*L d i) (s i)
   exact⟨c,by rw[t.Ii d hd i hi];omega⟩
  have w2:∀ i,i<n->∃ c,L (d+1) i=a*L d i+-b*D d i+s i*c:=λi hi=>by
   obtain⟨c,hc⟩:=fz (a*L d i+-b*D d i) (s i)
   exact⟨c,by rw[t.ID d hd i hi,e1,e2];omega⟩
  constructor
  ·intro w h
   obtain⟨h1,h2⟩:=h
   refine⟨by rw[st];exact Int.dvd_trans (t.g1 d hd) h1,?_⟩
   obtain⟨q,hq⟩:=h1
   have sp:=(Gd.pos hd).1
   have q1:w d/br s D d=q:=by rw[hq];exact Int.mul_ediv_cancel_left q (by omega)
   have q2:w d/br s D' d=q*a:=by
    rw[st,hq,ha,show g d*a*q=g d*(q*a) by grind];exact Int.mul_ediv_cancel_left _ (by omega)
   rw[q2]
   rw[q1] at h2
   refine G.qL turn (by omega) (λi hi=>?_) (G.add (by omega) (i1 _ h2) (G.mul (q*-(v d)) (by omega) i2))
   obtain⟨c1,hc1⟩:=w1 i hi
   obtain⟨c2,Oj⟩:=w2 i hi
   refine⟨q*(v d*c2-a*c1),?_⟩
   rw[hc1,Oj];grind
  ·refine⟨by rw[st];exact t.g2 d hd,?_⟩
   rw[st,e2]
   refine G.qL turn (by omega) (λi hi=>?_) (G.mul (u d) (by omega) i2)
   obtain⟨c1,hc1⟩:=w1 i hi
   obtain⟨c2,Oj⟩:=w2 i hi
   refine⟨-(b*c1)-u d*c2,?_⟩
   rw[hc1,Oj];grind
theorem Tk.good(t:Tk n s D D' L u v g)(Gd:Good n s D):Good n s D' where
 sp:=Gd.sp
 ki:=λd hd i hi=>by
  rw[t.Ii d hd i hi]
  have:=Gd.sp i hi
  exact⟨Int.emod_nonneg _ (by omega),Int.emod_lt_of_pos _ this⟩
 v5:=λd hd i hi=>by
  rw[t.Ii d hd i (by omega),Gd.v5 d hd i hi,t.zero Gd d (by omega) i hi];simp
 dv:=λd hd=>by
  rw[t.step Gd hd];exact Int.dvd_trans (t.g1 d hd) (Gd.dv d hd)
 JH:=λd k hn=>by
  have hd:d<n:=by omega
  have h1:=(t.main Gd (k+1) d hn).1 _ (Gd.turn (i:=d) 1 hn hd)
  have h2:=(t.main Gd k (d+1) (by omega)).1 _ (Gd.turn (i:=d) 1 (by omega) hd)
  have h3:=h1.2
  have ud:U d (1*s d) d=s d:=by rw[U,if_pos rfl,Int.one_mul]
  rw[ud] at h3
  refine G.ext (by omega) (λi hi=>?_) (G.add (by omega) h2 (G.mul (-1) (by omega) h3))
  show U d (1*s d) i+-1*(U d (1*s d) i-s d/br s D' d*D' d i)=_
  omega
end
variable{W:Nat->eB}
variable{i:Nat}
section
variable{D':Nat->eB}
theorem Good.Df(Gd:Good n s D)(ki:∀ d,d<n->∀ i,i<n->0<=D' d i/\D' d i<s i)(v5:∀ d,d<n->∀ i,i<d->D' d i=0)(dv:∀ d,d<n->br s D' d∣s d)
  (h:∀ k d,d+k=n->∀ w,G n s D k d w->G n s D' k d w):Good n s D' where
 sp:=Gd.sp
 ki:=ki
 v5:=v5
 dv:=dv
 JH:=λd k hn=>by
  have hd:d<n:=by omega
  have h1:=h (k+1) d hn _ (Gd.turn (i:=d) 1 hn hd)
  have h2:=h k (d+1) (by omega) _ (Gd.turn (i:=d) 1 (by omega) hd)
  have h3:=h1.2
  have ud:U d (1*s d) d=s d:=by rw[U,if_pos rfl,Int.one_mul]
  rw[ud] at h3
  refine G.ext (by omega) (λi hi=>?_) (G.add (by omega) h2 (G.mul (-1) (by omega) h3))
  show U d (1*s d) i+-1*(U d (1*s d) i-s d/br s D' d*D' d i)=_
  omega
structure Dn (n:Nat) (s:eB) (D:Nat->eB) (f:Nat) (W:Nat->eB):Prop where
 w0:∀ i,i<n->0<=W f i/\W f i<s i
 ws:∀ d,f<=d->d<n->∀ i,i<n->W (d+1) i=(1*W d i+-(W d d/br s D d)*D d i)%s i
variable{f:Nat}
theorem Dn.kept(h:Dn n s D f W)(Gd:Good n s D):∀ d,f<=d->d<=n->∀ i,i<n->0<=W d i/\W d i<s i:=by
 intro d hf hd i hi
 rcases Nat.lt_or_ge f d with q | q
 ·obtain⟨e,rfl⟩:∃ e,d=e+1:=⟨d-1,by omega⟩
  rw[h.ws e (by omega) (by omega) i hi]
  have:=Gd.sp i hi
  exact⟨Int.emod_nonneg _ (by omega),Int.emod_lt_of_pos _ this⟩
 ·obtain rfl:d=f:=by omega
  exact h.w0 i hi
theorem Dn.ahead(h:Dn n s D f W)(Gd:Good n s D){d:Nat}(hf:f<=d)(hd:d<n)(hi:i<d):W (d+1) i=W d i:=by
 have k:=h.kept Gd d hf (by omega) i (by omega)
 rw[h.ws d hf hd i (by omega),Gd.v5 d hd i hi,Int.mul_zero,Int.add_zero,Int.one_mul,Int.emod_eq_of_lt k.1 k.2]
theorem Dn.at_(h:Dn n s D f W)(Gd:Good n s D){d:Nat}(hf:f<=d)(hd:d<n):W (d+1) d=W d d%br s D d:=by
 have k:=h.kept Gd d hf (by omega) d hd
 have p:=Gd.pos hd
 rw[h.ws d hf hd d hd]
 have e:=Int.emod_def (W d d) (br s D d)
 have q0:=Int.emod_nonneg (W d d) (show br s D d≠0 by omega)
 have q1:=Int.emod_lt_of_pos (W d d) p.1
 by_cases z:D d d=0
 ·have st:br s D d=s d:=by unfold br;rw[if_pos z]
  rw[z,st,Int.emod_eq_of_lt k.1 k.2,Int.mul_zero,Int.add_zero,Int.one_mul,Int.emod_eq_of_lt k.1 k.2]
 ·have st:br s D d=D d d:=by unfold br;rw[if_neg z]
  rw[← st,show 1*W d d+-(W d d/br s D d)*br s D d=W d d%br s D d by rw[e];grind]
  exact Int.emod_eq_of_lt q0 (by omega)
theorem Dn.low(h:Dn n s D f W)(Gd:Good n s D):∀ d,f<=d->d<=n->∀ e,f<=e->e<d->0<=W d e/\W d e<br s D e:=by
 intro d
 induction d with
 | zero=>intro _ _ e _ he;omega
 | succ d ih =>
  intro hf hd e he hed
  rcases Nat.lt_or_ge e d with q | q
  ·rw[h.ahead Gd (by omega) (by omega) q];exact ih (by omega) (by omega) e he q
  ·obtain rfl:e=d:=by omega
   have p:=Gd.pos (show e<n by omega)
   rw[h.at_ Gd he (by omega)]
   exact⟨Int.emod_nonneg _ (by omega),Int.emod_lt_of_pos _ p.1⟩
theorem Dn.front(h:Dn n s D f W)(Gd:Good n s D):∀ d,f<=d->d<=n->∀ i,i<f->W d i=W f i:=by
 intro d
 induction d with
 | zero=>intro h1 _ i hi;omega
 | succ d ih =>
  intro hf hd i hi
  rcases Nat.lt_or_ge d f with q | q
  ·rw[show d+1=f by omega]
  ·rw[h.ahead Gd q (by omega) (by omega)];exact ih q (by omega) i hi
theorem Dn.run(h:Dn n s D f W)(Gd:Good n s D):∀ k d,f<=d->d+k=n->G n s D k d (W d)->∀ i,i<n->W n i=0
 | 0,d,hf,hn,g,i,hi=>by
  rw[Nat.add_zero] at hn
  subst hn
  have k:=h.kept Gd d hf (Nat.le_refl _) i hi
  exact jR k.1 k.2 (g i hi)
 | k+1,d,hf,hn,g,i,hi=>by
  refine h.run Gd k (d+1) (by omega) (by omega) (Gd.qL (by omega) (λj hj=>?_) g.2) i hi
  rw[h.ws d hf (by omega) j hj]
  have:=fz (1*W d j+-(W d d/br s D d)*D d j) (s j)
  rw[show 1*W d j+-(W d d/br s D d)*D d j=W d j-W d d/br s D d*D d j by grind] at this
  rw[show 1*W d j+-(W d d/br s D d)*D d j=W d j-W d d/br s D d*D d j by grind]
  exact this
theorem Dn.away(h:Dn n s D f W)(Gd:Good n s D):∀ d,f<=d->d<=n->∀ k,f+k=n->G n s D k f λi=>W f i-W d i:=by
 intro d
 induction d with
 | zero =>
  intro hf _ k hn
  obtain rfl:f=0:=by omega
  exact G.ext hn (λi _=>by omega) (G.zero hn)
 | succ d ih =>
  intro hf hd k hn
  rcases Nat.lt_or_ge d f with q | q
  ·rw[show d+1=f by omega]
   exact G.ext hn (λi _=>by omega) (G.zero hn)
  ·refine Gd.qL hn (λi hi=>?_) (G.add hn (ih q (by omega) k hn) (G.mul (W d d/br s D d) hn (Gd.row (show d<n by omega) hn q)))
   rw[h.ws d q (by omega) i hi]
   have:=yB (1*W d i+-(W d d/br s D d)*D d i) (s i)
   obtain⟨c,hc⟩:=this
   exact⟨c,by rw[← hc];grind⟩
theorem G.small(Gd:Good n s D):∀ k d (v:eB),d+k=n->(∀ i,i<n->0<=v i/\v i<s i)->(∀ i,d<=i->i<n->v i<br s D i)->G n s D k d v->∀ i,i<n->v i=0
 | 0,d,v,hn,h0,_,g,i,hi=>jR (h0 i hi).1 (h0 i hi).2 (g i hi)
 | k+1,d,v,hn,h0,h1,g,i,hi=>by
  have z:v d=0:=jR (h0 d (by omega)).1 (h1 d (Nat.le_refl _) (by omega)) g.1
  refine G.small Gd k (d+1) v (by omega) h0 (λj hj=>h1 j (by omega)) (G.ext (by omega) (λj hj=>?_) g.2) i hi
  rw[z];simp
theorem uH(Gd:Good n s D)(W:Nat->Nat->eB)(hW:∀ d,d<n->Dn n s D (d+1) (W d))(h0:∀ d,d<n->∀ i,i<n->W d (d+1) i=D d i)(hD:∀ d,d<n->∀ i,i<n->D' d i=W d n i) :
  Good n s D'/\(∀ d,d<n->br s D' d=br s D d)/\(∀ d,d<n->∀ e,d<e->e<n->D' d e<br s D e)/\(∀ d,d<n->D' d d=0->∀ i,i<n->D' d i=0)/\(∀ k d,d+k=n->∀ w,G n s D k d w->G n s D' k d w):=by
 have dg:∀ d,d<n->∀ i,i<=d->D' d i=D d i:=λd hd i hi=>by
  rw[hD d hd i (by omega),(hW d hd).front Gd n (by omega) (Nat.le_refl _) i (by omega),h0 d hd i (by omega)]
 have st:∀ d,d<n->br s D' d=br s D d:=λd hd=>by
  unfold br;rw[dg d hd d (Nat.le_refl _)]
 have PX:∀ k d,d+k=n->∀ w,G n s D k d w->G n s D' k d w:=by
  intro k
  induction k with
  | zero=>intro d _ w h;exact h
  | succ k ih =>
   intro d hn w h
   have hd:d<n:=by omega
   refine⟨by rw[st d hd];exact h.1,ih (d+1) (by omega) _ ?_⟩
   rw[st d hd]
   refine G.ext (by omega) (λi hi=>?_) (G.add (by omega) h.2 (G.mul (w d/br s D d) (by omega) ((hW d hd).away Gd n (by omega) (Nat.le_refl _) k (by omega))))
   show w i-w d/br s D d*D d i+w d/br s D d*(W d (d+1) i-W d n i)=_
   rw[h0 d hd i hi,hD d hd i hi];grind
 have good:Good n s D':=Gd.Df (λd hd i hi=>by rw[hD d hd i hi];exact(hW d hd).kept Gd n (by omega) (Nat.le_refl _) i hi) (λd hd i hi=>by rw[dg d hd i (by omega)];exact Gd.v5 d hd i hi) (λd hd=>by rw[st d hd];exact Gd.dv d hd) PX
 have lt:∀ d,d<n->∀ e,d<e->e<n->D' d e<br s D e:=λd hd e he hen=>by
  rw[hD d hd e hen];exact((hW d hd).low Gd n (by omega) (Nat.le_refl _) e (by omega) hen).2
 refine⟨good,st,lt,λd hd z=>?_,PX⟩
 have h1:=good.own (d:=d) (k:=n-d-1) (by omega)
 have h2:=h1.2
 refine G.small good (n-d-1) (d+1) (D' d) (by omega) (good.ki d hd) (λi h1 h2=>by rw[st i h2];exact lt d hd i (by omega) h2) (G.ext (by omega) (λi hi=>?_) h2)
 rw[z];simp
end
def dj:Nat->(Nat->Int)->Int
 | 0,_=>0
 | m+1,f=>dj m f+f m
theorem sQ(a b:Int)(f g h:Nat->Int):∀ m,(∀ l,l<m->h l=a*f l+b*g l)->dj m h=a*dj m f+b*dj m g
 | 0,_=>by simp[dj]
 | m+1,e=>by
  rw[dj,dj,dj,sQ a b f g h m λl hl=>e l (by omega),e m (by omega)];grind
theorem fm{f g:Nat->Int}:∀ {m:Nat},(∀ l,l<m->f l=g l)->dj m f=dj m g
 | 0,_=>rfl
 | m+1,e=>by rw[dj,dj,fm λl hl=>e l (by omega),e m (by omega)]
theorem gf:∀ m,dj m (λ_=>0)=0
 | 0=>rfl
 | m+1=>by rw[dj,gf m];rfl
theorem l9(k:Nat)(a:Int):∀ m,k<m->∀ f:Nat->Int,(∀ l,l<m->f l=if l=k then a else 0)->dj m f=a
 | 0,h,_,_=>by omega
 | m+1,h,f,e=>by
  rw[dj]
  by_cases z:k=m
  ·subst z
   rw[fm (g:=λ_=>0) λl hl=>by rw[e l (by omega),if_neg (by omega)],gf,e k (by omega),if_pos rfl];omega
  ·rw[l9 k a m (by omega) f λl hl=>e l (by omega),e m (by omega),if_neg (by omega)];omega
def Led(n:Nat)(s:eB)(m:Nat)(A:Nat->eB)(v P:eB):Prop:=∀ i,i<n->s i∣v i-dj m λl=>P l*A l i
variable{A:Nat->eB}{m:Nat}
theorem Led.mix{v w x P Q R:eB}(h1:Led n s m A v P)(h2:Led n s m A w Q)(hx:∀ i,i<n->s i∣x i-(a*v i+b*w i))(hR:∀ l,l<m->R l=a*P l+b*Q l):Led n s m A x R:=λi hi=>by
 obtain⟨c1,e1⟩:=h1 i hi
 obtain⟨c2,e2⟩:=h2 i hi
 obtain⟨c3,e3⟩:=hx i hi
 rw[sQ a b (λl=>P l*A l i) (λl=>Q l*A l i) (λl=>R l*A l i) m λl hl=>by rw[hR l hl];grind]
 exact⟨a*c1+b*c2+c3,by grind⟩
def aE:Nat->(Nat->Int)->Int
 | 0,_=>1
 | m+1,f=>aE m f*f m
theorem qo{f g h:Nat->Int}:∀ {m:Nat},(∀ l,l<m->f l=g l*h l)->aE m f=aE m g*aE m h
 | 0,_=>rfl
 | m+1,e=>by rw[aE,aE,aE,qo λl hl=>e l (by omega),e m (by omega)];grind
theorem gg{f g:Nat->Int}:∀ {m:Nat},(∀ l,l<m->f l=g l)->aE m f=aE m g
 | 0,_=>rfl
 | m+1,e=>by rw[aE,aE,gg λl hl=>e l (by omega),e m (by omega)]
theorem dH{f:Nat->Int}:∀ {m:Nat},(∀ l,l<m->0<f l)->0<aE m f
 | 0,_=>(by decide:(0:Int)<1)
 | m+1,e=>Int.mul_pos (dH λl hl=>e l (by omega)) (e m (by omega))
def vf(xs:List Int):eB:=λi=>xs.getD i 0
variable{xs:List Int}
theorem aY(h:i<xs.length):vf xs i=xs[i]:=by
 unfold vf;rw[List.getD_eq_getElem?_getD,List.getElem?_eq_getElem h];rfl
theorem ot(h:xs.length<=i):vf xs i=0:=by
 unfold vf;rw[List.getD_eq_getElem?_getD,List.getElem?_eq_none h];rfl
def mM(xs:List Int)(a:Int)(ys:List Int)(b:Int):List Int:=(xs.zip ys).map λz=>a*z.1+b*z.2
def w4(xs sizes:List Int):List Int:=(xs.zip sizes).map λz=>z.1%z.2
variable{ys:List Int}
theorem bS:(mM xs a ys b).length=min xs.length ys.length:=by simp[mM]
theorem hZ:(w4 xs ys).length=min xs.length ys.length:=by simp[w4]
theorem eJ(h1:i<xs.length)(h2:i<ys.length):vf (mM xs a ys b) i=a*vf xs i+b*vf ys i:=by
 rw[aY (by rw[bS];omega),aY h1,aY h2]
 simp[mM]
theorem i8(h1:i<xs.length)(h2:i<ys.length):vf (w4 xs ys) i=vf xs i%vf ys i:=by
 rw[aY (by rw[hZ];omega),aY h1,aY h2]
 simp[w4]
theorem u6(hl:xs.length=ys.length)(h:∀ i,i<xs.length->vf xs i=vf ys i):xs=ys:=by
 refine List.ext_getElem hl λi h1 h2=>?_
 have:=h i h1
 rwa [aY h1,aY h2] at this
theorem iZ(n:Nat)(i:Nat):vf (List.replicate n 0) i=0:=by
 rcases Nat.lt_or_ge i n with h | h
 ·rw[aY (by simpa using h)];simp
 ·rw[ot (by simpa using h)]
def Bd(B:Nat)(xs:List Int):Prop:=∀ x∈xs,x.natAbs<2^B
theorem Bd.mono{B C:Nat}(h:Bd B xs)(hc:B<=C):Bd C xs:=λx hx=>Nat.lt_of_lt_of_le (h x hx) (Nat.pow_le_pow_right (by decide) hc)
theorem Bd.vf{B:Nat}{xs:List Int}(h:Bd B xs)(i:Nat):(vf xs i).natAbs<2^B:=by
 rcases Nat.lt_or_ge i xs.length with q | q
 ·rw[aY q];exact h _ (List.getElem_mem q)
 ·rw[ot q];exact Nat.two_pow_pos B
theorem vo{A B:Nat}(ha:a.natAbs<2^A)(hb:b.natAbs<2^B):(a*b).natAbs<2^(A+B):=by
 rw[Int.natAbs_mul,Nat.pow_add]
 have h0:0<2^A:=Nat.two_pow_pos A
 have h1:0<2^B:=Nat.two_pow_pos B
 exact Nat.mul_lt_mul_of_lt_of_le ha (Nat.le_of_lt hb) h1
theorem FQ{A:Nat}(ha:a.natAbs<2^A)(hb:b.natAbs<2^A):(a+b).natAbs<2^(A+1):=by
 rw[Nat.pow_succ];omega
theorem Bd.mix{A B:Nat}(hx:Bd B xs)(hy:Bd B ys)(ha:a.natAbs<2^A)(hb:b.natAbs<2^A):Bd (A+B+1) (mM xs a ys b):=by
 intro z hz
 obtain⟨w,hw,rfl⟩:=List.mem_map.mp hz
 have:=List.of_mem_zip (a:=w.1) (b:=w.2) hw
 exact FQ (vo ha (hx _ this.1)) (vo hb (hy _ this.2))
abbrev Row:=List Int×List Int
def row(rows:List Row)(d:Nat):Row:=rows.getD d ([],[])
def DD(rows:List Row):Nat->eB:=λd=>vf (row rows d).1
def PP(rows:List Row):Nat->eB:=λd=>vf (row rows d).2
structure Wf (n m:Nat) (rows:List Row):Prop where
 len:rows.length=n
 l1:∀ r∈rows,r.1.length=n
 l2:∀ r∈rows,r.2.length=m
theorem iF{rows:List Row}{d:Nat}(h:d<rows.length):row rows d=rows[d]:=by
 unfold row;rw[List.getD_eq_getElem?_getD,List.getElem?_eq_getElem h];rfl
theorem Wf.pI{rows:List Row}(w:Wf n m rows){d:Nat}(h:d<n):(row rows d).1.length=n:=by
 rw[iF (by rw[w.len];exact h)];exact w.l1 _ (List.getElem_mem _)
theorem Wf.at2{rows:List Row}(w:Wf n m rows){d:Nat}(h:d<n):(row rows d).2.length=m:=by
 rw[iF (by rw[w.len];exact h)];exact w.l2 _ (List.getElem_mem _)
def pe(sizes:List Int)(r:Row)(a:Int)(q:Row)(b:Int):Row:=(w4 (mM r.1 a q.1 b) sizes,mM r.2 a q.2 b)
def aA(c:Int->Int->Int×Int)(sizes:List Int)(rows:List Row)(left:Row):Nat->Row
 | 0=>left
 | d+1 =>
  let l:=aA c sizes rows left d
  let st:=br (vf sizes) (DD rows) d
  let nt:=vf l.1 d
  pe sizes l (st/(Int.gcd st nt:Nat)) (row rows d) (-(nt/(Int.gcd st nt:Nat)))
def du(c:Int->Int->Int×Int)(sizes:List Int)(rows:List Row)(left:Row)(d:Nat):Row :=
 let l:=aA c sizes rows left d
 let st:=br (vf sizes) (DD rows) d
 let nt:=vf l.1 d
 pe sizes (row rows d) (c st nt).1 l (c st nt).2
def cu(c:Int->Int->Int×Int)(sizes:List Int)(rows:List Row)(left:Row)(n:Nat):List Row:=(List.range n).map (du c sizes rows left)
variable{left:Row}{sizes:List Int}{c:Int->Int->Int×Int}
section
variable{rows:List Row}
theorem cO(w:Wf n m rows)(hs:sizes.length=n)(h1:left.1.length=n)(h2:left.2.length=m):∀ d,d<=n->(aA c sizes rows left d).1.length=n/\(aA c sizes rows left d).2.length=m
 | 0,_=>⟨h1,h2⟩
 | d+1,hd=>by
  obtain⟨i1,i2⟩:=cO w hs h1 h2 d (by omega)
  have e1:=w.pI (d:=d) (by omega);have e2:=w.at2 (d:=d) (by omega)
  simp only[aA,pe]
  rw[hZ,bS,bS]
  exact⟨by omega,by omega⟩
theorem jX{d:Nat}(h:d<n):row (cu c sizes rows left n) d=du c sizes rows left d:=by
 rw[iF (by simp[cu,h])];simp[cu]
theorem zk(w:Wf n m rows)(hs:sizes.length=n)(h1:left.1.length=n)(h2:left.2.length=m):Wf n m (cu c sizes rows left n):=by
 have key:∀ d,d<n->(du c sizes rows left d).1.length=n/\(du c sizes rows left d).2.length=m:=λd hd=>by
  obtain⟨i1,i2⟩:=cO (c:=c) w hs h1 h2 d (by omega)
  have e1:=w.pI (d:=d) hd;have e2:=w.at2 (d:=d) hd
  simp only[du,pe]
  rw[hZ,bS,bS]
  exact⟨by omega,by omega⟩
 refine⟨by simp[cu],λr hr=>?_,λr hr=>?_⟩
 ·obtain⟨d,hd,rfl⟩:=List.mem_map.mp hr
  exact(key d (List.mem_range.mp hd)).1
 ·obtain⟨d,hd,rfl⟩:=List.mem_map.mp hr
  exact(key d (List.mem_range.mp hd)).2
theorem fR(h:0<a):0<(Int.gcd a b:Int):=by
 have:=Int.gcd_pos_of_ne_zero_left b (show a≠0 by omega);omega
theorem IZ(w:Wf n m rows)(hs:sizes.length=n)(h1:left.1.length=n)(h2:left.2.length=m)(Gd:Good n (vf sizes) (DD rows))(h0:∀ i,i<n->0<=vf left.1 i/\vf left.1 i<vf sizes i)
  (hc:∀ d,d<n->(c (br (vf sizes) (DD rows) d) (vf (aA c sizes rows left d).1 d)).1*br (vf sizes) (DD rows) d+(c (br (vf sizes) (DD rows) d) (vf (aA c sizes rows left d).1 d)).2*vf (aA c sizes rows left d).1 d=(Int.gcd (br (vf sizes) (DD rows) d) (vf (aA c sizes rows left d).1 d):Nat)) :
  Tk n (vf sizes) (DD rows) (DD (cu c sizes rows left n)) (λd=>vf (aA c sizes rows left d).1) (λd=>(c (br (vf sizes) (DD rows) d) (vf (aA c sizes rows left d).1 d)).1) (λd=>(c (br (vf sizes) (DD rows) d) (vf (aA c sizes rows left d).1 d)).2) (λd=>(Int.gcd (br (vf sizes) (DD rows) d) (vf (aA c sizes rows left d).1 d):Nat)) where
 gp:=λd hd=>fR (Gd.pos hd).1
 bz:=hc
 g1:=λd hd=>Int.gcd_dvd_left ..
 g2:=λd hd=>Int.gcd_dvd_right ..
 Ii:=λd hd i hi=>by
  obtain⟨i1,i2⟩:=cO (c:=c) w hs h1 h2 d (by omega)
  have e1:=w.pI (d:=d) hd
  show vf (row (cu c sizes rows left n) d).1 i=_
  rw[jX hd]
  simp only[du,pe]
  rw[i8 (by rw[bS];omega) (by omega),eJ (by omega) (by omega)]
  rfl
 ID:=λd hd i hi=>by
  obtain⟨i1,i2⟩:=cO (c:=c) w hs h1 h2 d (by omega)
  have e1:=w.pI (d:=d) hd
  simp only[aA,pe]
  rw[i8 (by rw[bS];omega) (by omega),eJ (by omega) (by omega)]
  rfl
 l0:=h0
end
section
variable{rows:List Row}
def CB(c:Int->Int->Int×Int):Prop:=∀ a b:Int,0<a->a<=360->0<=b->b<=360->(c a b).1*a+(c a b).2*b=(Int.gcd a b:Nat)/\(c a b).1.natAbs<2^20/\(c a b).2.natAbs<2^20
theorem jv(h:0<a)(h2:a<=360):0<a/(Int.gcd a b:Nat)/\a/(Int.gcd a b:Nat)<=360:=by
 have g:=fR (b:=b) h
 obtain⟨q,hq⟩:((Int.gcd a b:Nat):Int)∣a:=Int.gcd_dvd_left ..
 have e:a/(Int.gcd a b:Nat)=q:=by
  have:((Int.gcd a b:Nat):Int)≠0:=by omega
  exact Int.ediv_eq_of_eq_mul_right this hq
 rw[e]
 have q0:0<q:=by
  rcases Int.lt_or_le 0 q with z | z
  ·exact z
  ·have:=Int.mul_nonpos_of_nonneg_of_nonpos (Int.le_of_lt g) z;omega
 refine⟨q0,?_⟩
 have:1*q<=(Int.gcd a b:Nat)*q:=Int.mul_le_mul_of_nonneg_right (by omega) (by omega)
 omega
theorem k8(h:0<a)(h1:0<=b)(h2:b<=360):0<=b/(Int.gcd a b:Nat)/\b/(Int.gcd a b:Nat)<=360:=by
 have g:=fR (b:=b) h
 exact⟨Int.ediv_nonneg h1 (by omega),Int.le_trans (Int.ediv_le_self _ h1) h2⟩
def Zf(k m:Nat)(P:eB):Prop:=∀ l,k<=l->l<m->P l=0
structure St (n m:Nat) (sizes:List Int) (A:Nat->eB) (k:Nat) (rows:List Row):Prop where
 wf:Wf n m rows
 hs:sizes.length=n
 sm:∀ i,i<n->vf sizes i<=360
 gd:Good n (vf sizes) (DD rows)
 led:∀ d,d<n->Led n (vf sizes) m A (DD rows d) (PP rows d)
 zf:∀ d,d<n->Zf k m (PP rows d)
 bd:∀ d,d<n->Bd (150*k+1) (row rows d).2
 cl:∀ l,l<k->G n (vf sizes) (DD rows) n 0 (A l)
structure Lv (n m:Nat) (sizes:List Int) (A:Nat->eB) (k:Nat) (left:Row):Prop where
 l1:left.1.length=n
 l2:left.2.length=m
 km:k<m
 at_:∀ i,i<n->vf left.1 i=A k i
 ki:∀ i,i<n->0<=A k i/\A k i<vf sizes i
 un:∀ l,l<m->vf left.2 l=if l=k then 1 else 0
theorem jZ(h:St n m sizes A k rows)(L:Lv n m sizes A k left):∀ d,d<=n->∀ i,i<n->0<=vf (aA c sizes rows left d).1 i/\vf (aA c sizes rows left d).1 i<vf sizes i
 | 0,_,i,hi=>by show 0<=vf left.1 i/\vf left.1 i<vf sizes i;rw[L.at_ i hi];exact L.ki i hi
 | d+1,hd,i,hi=>by
  obtain⟨i1,i2⟩:=cO (c:=c) h.wf h.hs L.l1 L.l2 d (by omega)
  have e1:=h.wf.pI (d:=d) (by omega)
  have hs:=h.hs
  simp only[aA,pe]
  rw[i8 (by rw[bS];omega) (by omega)]
  have:=h.gd.sp i hi
  exact⟨Int.emod_nonneg _ (by omega),Int.emod_lt_of_pos _ this⟩
theorem St.tk(h:St n m sizes A k rows)(L:Lv n m sizes A k left)(cb:CB c):Tk n (vf sizes) (DD rows) (DD (cu c sizes rows left n)) (λd=>vf (aA c sizes rows left d).1) (λd=>(c (br (vf sizes) (DD rows) d) (vf (aA c sizes rows left d).1 d)).1) (λd=>(c (br (vf sizes) (DD rows) d) (vf (aA c sizes rows left d).1 d)).2) (λd=>(Int.gcd (br (vf sizes) (DD rows) d) (vf (aA c sizes rows left d).1 d):Nat)) :=
 IZ h.wf h.hs L.l1 L.l2 h.gd (λi hi=>by rw[L.at_ i hi];exact L.ki i hi) λd hd=>by
  have p:=h.gd.pos hd
  have q:=jZ (c:=c) h L d (by omega) d hd
  have s:=h.sm d hd
  exact(cb _ _ p.1 (by omega) q.1 (by omega)).1
theorem oN(h:St n m sizes A k rows)(L:Lv n m sizes A k left):∀ d,d<=n->Led n (vf sizes) m A (vf (aA c sizes rows left d).1) (vf (aA c sizes rows left d).2)
 | 0,_=>λi hi=>by
  show vf sizes i∣vf left.1 i-dj m λl=>vf left.2 l*A l i
  rw[L.at_ i hi,l9 k (A k i) m L.km (λl=>vf left.2 l*A l i) λl hl=>by
   rw[L.un l hl]
   by_cases z:l=k
   ·subst z;rw[if_pos rfl,if_pos rfl,Int.one_mul]
   ·rw[if_neg z,if_neg z,Int.zero_mul]]
  rw[Int.sub_self];exact Int.dvd_zero _
 | d+1,hd=>by
  obtain⟨i1,i2⟩:=cO (c:=c) h.wf h.hs L.l1 L.l2 d (by omega)
  have e1:=h.wf.pI (d:=d) (by omega);have e2:=h.wf.at2 (d:=d) (by omega)
  have hs:=h.hs
  refine Led.mix (a:=br (vf sizes) (DD rows) d/(Int.gcd (br (vf sizes) (DD rows) d) (vf (aA c sizes rows left d).1 d):Nat)) (b:=-(vf (aA c sizes rows left d).1 d/(Int.gcd (br (vf sizes) (DD rows) d) (vf (aA c sizes rows left d).1 d):Nat))) (oN h L d (by omega)) (h.led d (by omega)) (λi hi=>?_) λl hl=>?_
  ·simp only[aA,pe]
   rw[i8 (by rw[bS];omega) (by omega),eJ (by omega) (by omega)]
   exact fz _ _
  ·simp only[aA,pe]
   rw[eJ (by omega) (by omega)];rfl
theorem qY(h:St n m sizes A k rows)(L:Lv n m sizes A k left):∀ d,d<=n->Zf (k+1) m (vf (aA c sizes rows left d).2)/\vf (aA c sizes rows left d).2 k=aE d λe=>br (vf sizes) (DD rows) e/(Int.gcd (br (vf sizes) (DD rows) e) (vf (aA c sizes rows left e).1 e):Nat)
 | 0,_=>⟨λl h1 h2=>by show vf left.2 l=0;rw[L.un l h2,if_neg (by omega)],by show vf left.2 k=1;rw[L.un k L.km,if_pos rfl]⟩
 | d+1,hd=>by
  obtain⟨i1,i2⟩:=cO (c:=c) h.wf h.hs L.l1 L.l2 d (by omega)
  have e2:=h.wf.at2 (d:=d) (by omega)
  obtain⟨j1,j2⟩:=qY h L d (by omega)
  have z:=h.zf d (by omega)
  have km:=L.km
  constructor
  ·intro l h1 h2
   simp only[aA,pe]
   rw[eJ (by omega) (by omega),j1 l h1 h2,show vf (row rows d).2 l=0 from z l (by omega) h2];simp
  ·rw[aE,← j2]
   simp only[aA,pe]
   rw[eJ (by omega) (by omega),show vf (row rows d).2 k=0 from z k (Nat.le_refl _) km]
   grind
theorem mY(h:St n m sizes A k rows)(L:Lv n m sizes A k left)(hn:n<=6):∀ d,d<=n->Bd (150*k+1+11*d) (aA c sizes rows left d).2
 | 0,_=>λx hx=>by
  have hx:x∈left.2:=hx
  obtain⟨i,hi,rfl⟩:=List.mem_iff_getElem.mp hx
  have hm:i<m:=by rw[← L.l2];exact hi
  have e:=L.un i hm
  rw[aY hi] at e
  show (left.2[i]).natAbs<_
  rw[e]
  have:2^1<=2^(150*k+1+11*0):=Nat.pow_le_pow_right (by decide) (by omega)
  refine Nat.lt_of_lt_of_le ?_ this
  split
  ·decide
  ·decide
 | d+1,hd=>by
  have p:=h.gd.pos (show d<n by omega)
  have s:=h.sm d (by omega)
  have q:=jZ (c:=c) h L d (by omega) d (by omega)
  have a1:=jv (b:=vf (aA c sizes rows left d).1 d) p.1 (by omega)
  have a2:=k8 (b:=vf (aA c sizes rows left d).1 d) p.1 q.1 (by omega)
  have:=Bd.mix (A:=9+1) (mY h L hn d (by omega)) ((h.bd d (by omega)).mono (show 150*k+1<=150*k+1+11*d by omega)) (a:=br (vf sizes) (DD rows) d/(Int.gcd (br (vf sizes) (DD rows) d) (vf (aA c sizes rows left d).1 d):Nat)) (b:=-(vf (aA c sizes rows left d).1 d/(Int.gcd (br (vf sizes) (DD rows) d) (vf (aA c sizes rows left d).1 d):Nat))) (by omega) (by omega)
  exact this.mono (by omega)
theorem St.next(h:St n m sizes A k rows)(L:Lv n m sizes A k left)(cb:CB c)(hn:n<=6):St n m sizes A (k+1) (cu c sizes rows left n):=by
 have T:=h.tk L cb
 have hs:=h.hs
 refine⟨zk h.wf h.hs L.l1 L.l2,h.hs,h.sm,T.good h.gd,λd hd=>?_,λd hd=>?_,λd hd=>?_,λl hl=>?_⟩
 ·obtain⟨i1,i2⟩:=cO (c:=c) h.wf h.hs L.l1 L.l2 d (by omega)
  have e1:=h.wf.pI (d:=d) hd;have e2:=h.wf.at2 (d:=d) hd
  unfold DD PP
  rw[jX hd]
  refine Led.mix (a:=(c (br (vf sizes) (DD rows) d) (vf (aA c sizes rows left d).1 d)).1) (b:=(c (br (vf sizes) (DD rows) d) (vf (aA c sizes rows left d).1 d)).2) (h.led d hd) (oN (c:=c) h L d (by omega)) (λi hi=>?_) λl hl=>?_
  ·simp only[du,pe]
   rw[i8 (by rw[bS];omega) (by omega),eJ (by omega) (by omega)]
   exact fz _ _
  ·simp only[du,pe]
   rw[eJ (by omega) (by omega)];rfl
 ·obtain⟨i1,i2⟩:=cO (c:=c) h.wf h.hs L.l1 L.l2 d (by omega)
  have e2:=h.wf.at2 (d:=d) hd
  intro l h1 h2
  unfold PP
  rw[jX hd]
  simp only[du,pe]
  rw[eJ (by omega) (by omega),(qY (c:=c) h L d (by omega)).1 l h1 h2,show vf (row rows d).2 l=0 from h.zf d hd l (by omega) h2];simp
 ·rw[jX hd]
  have p:=h.gd.pos hd
  have s:=h.sm d hd
  have q:=jZ (c:=c) h L d (by omega) d hd
  have b:=cb (br (vf sizes) (DD rows) d) (vf (aA c sizes rows left d).1 d) p.1 (by omega) q.1 (by omega)
  have:=Bd.mix (A:=20) ((h.bd d hd).mono (show 150*k+1<=150*k+1+11*d by omega)) (mY (c:=c) h L hn d (by omega)) b.2.1 b.2.2
  exact this.mono (by omega)
 ·rcases Nat.lt_or_ge l k with q | q
  ·exact(T.main h.gd n 0 (by omega)).1 _ (h.cl l q)
  ·obtain rfl:l=k:=by omega
   exact G.ext (by omega) (λi hi=>L.at_ i hi) (T.main h.gd n 0 (by omega)).2
end
def aP(idle:List (List Int))(k:Nat)(P:List Int):Nat->List Int
 | 0=>P
 | c+1 =>
  let z:=aP idle k P c
  let r:=idle.getD (k-1-c) []
  mM z 1 r (-(vf z (k-1-c)/vf r (k-1-c)))
def II(idle:List (List Int)):Nat->eB:=λj=>vf (idle.getD j [])
structure yv (n m:Nat) (s:eB) (A:Nat->eB) (k:Nat) (idle:List (List Int)):Prop where
 len:idle.length=k
 l2:∀ j,j<k->(idle.getD j []).length=m
 pos:∀ j,j<k->0<II idle j j
 le:∀ j,j<k->II idle j j<2^60
 zero:∀ j,j<k->∀ l,j<l->l<m->II idle j l=0
 nf:∀ j,j<k->∀ l,l<j->0<=II idle j l/\II idle j l<II idle l l
 qc:∀ j,j<k->Led n s m A (λ_=>0) (II idle j)
variable{idle:List (List Int)}
variable{j:Nat}
section
variable{P:List Int}
theorem yv.bd(h:yv n m s A k idle)(hj:j<k)(hm:k<=m):Bd 60 (idle.getD j []):=λx hx=>by
 obtain⟨l,hl,rfl⟩:=List.mem_iff_getElem.mp hx
 rw[h.l2 j hj] at hl
 have e:II idle j l=(idle.getD j [])[l]'(by rw[h.l2 j hj];exact hl):=aY _
 rw[← e]
 rcases Nat.lt_or_ge l j with q | q
 ·have h1:=h.nf j hj l q
  have h2:=h.le l (by omega)
  omega
 ·rcases Nat.lt_or_ge j l with q2 | q2
  ·rw[h.zero j hj l q2 hl];exact Nat.two_pow_pos _
  ·obtain rfl:l=j:=by omega
   have h1:=h.pos l hj;have h2:=h.le l hj
   omega
theorem span_len(h:yv n m s A k idle)(hP:P.length=m):∀ c,c<=k->(aP idle k P c).length=m
 | 0,_=>hP
 | c+1,hc=>by
  simp only[aP]
  rw[bS,span_len h hP c (by omega),h.l2 _ (by omega)];omega
theorem mZ(h:yv n m s A k idle)(hP:P.length=m){c l:Nat}(hc:c<k)(hl:l<m):vf (aP idle k P (c+1)) l=vf (aP idle k P c) l-vf (aP idle k P c) (k-1-c)/II idle (k-1-c) (k-1-c)*II idle (k-1-c) l:=by
 simp only[aP]
 rw[eJ (by rw[span_len h hP c (by omega)];exact hl) (by rw[h.l2 _ (by omega)];exact hl)]
 unfold II
 grind
theorem uw(h:yv n m s A k idle)(hP:P.length=m):∀ c,c<=k->∀ l,k<=l->l<m->vf (aP idle k P c) l=vf P l
 | 0,_,_,_,_=>rfl
 | c+1,hc,l,h1,h2=>by
  rw[mZ h hP (by omega) h2,h.zero _ (by omega) l (by omega) h2,uw h hP c (by omega) l h1 h2];simp
theorem qI(h:yv n m s A k idle)(hP:P.length=m)(hm:k<=m):∀ c,c<=k->∀ l,k-c<=l->l<k->0<=vf (aP idle k P c) l/\vf (aP idle k P c) l<II idle l l
 | 0,_,l,h1,h2=>by omega
 | c+1,hc,l,h1,h2=>by
  rw[mZ h hP (by omega) (by omega)]
  rcases Nat.lt_or_ge (k-1-c) l with q | q
  ·rw[h.zero _ (by omega) l q (by omega),Int.mul_zero,Int.sub_zero]
   exact qI h hP hm c (by omega) l (by omega) h2
  ·obtain rfl:l=k-1-c:=by omega
   have p:=h.pos (k-1-c) (by omega)
   have e:=Int.emod_def (vf (aP idle k P c) (k-1-c)) (II idle (k-1-c) (k-1-c))
   rw[Int.mul_comm (vf (aP idle k P c) (k-1-c)/_),← e]
   exact⟨Int.emod_nonneg _ (by omega),Int.emod_lt_of_pos _ p⟩
theorem n5(h:yv n m s A k idle)(hP:P.length=m){v:eB}(hv:Led n s m A v (vf P)):∀ c,c<=k->Led n s m A v (vf (aP idle k P c))
 | 0,_=>hv
 | c+1,hc=>by
  refine Led.mix (a:=1) (b:=-(vf (aP idle k P c) (k-1-c)/II idle (k-1-c) (k-1-c))) (n5 h hP hv c (by omega)) (h.qc (k-1-c) (by omega)) (λi hi=>?_) λl hl=>?_
  ·rw[Int.mul_zero,Int.add_zero,Int.one_mul,Int.sub_self];exact Int.dvd_zero _
  ·rw[mZ h hP (by omega) hl];grind
theorem wq(h:yv n m s A k idle)(hP:P.length=m)(hm:k<=m){B:Nat}(hB:60<=B)(hb:Bd B P):∀ c,c<=k->Bd (B+62*c) (aP idle k P c)
 | 0,_=>hb
 | c+1,hc=>by
  have ih:=wq h hP hm hB hb c (by omega)
  intro x hx
  obtain⟨l,hl,rfl⟩:=List.mem_iff_getElem.mp hx
  rw[span_len h hP (c+1) hc] at hl
  rw[← aY,mZ h hP (by omega) hl]
  have p:=h.pos (k-1-c) (by omega)
  have q1:(vf (aP idle k P c) (k-1-c)/II idle (k-1-c) (k-1-c)).natAbs<2^(B+62*c+1):=by
   have h1:=ih.vf (k-1-c)
   have h2:=Int.natAbs_ediv_le_natAbs (vf (aP idle k P c) (k-1-c)) (II idle (k-1-c) (k-1-c))
   rw[Nat.pow_succ];omega
  have q2:(II idle (k-1-c) l).natAbs<2^60:=(h.bd (j:=k-1-c) (by omega) hm).vf l
  have q3:=vo q1 q2
  have q4:=ih.vf l
  have q5:2^(B+62*c)<=2^(B+62*c+1+60):=Nat.pow_le_pow_right (by decide) (by omega)
  have q6:(2:Nat)^(B+62*(c+1))=2^(B+62*c+1+60)*2:=by rw[← Nat.pow_succ];congr 1
  rw[q6];omega
end
section
variable{rows:List Row}
theorem Tk.order{s:eB}{D D' L:Nat->eB}{u v g:Nat->Int}(t:Tk n s D D' L u v g)(Gd:Good n s D):∀ (k d:Nat) (x:Int),d+k=n->G n s D k d (λi=>x*L d i)->aE n (λe=>br s D e/g e)∣x*aE d (λe=>br s D e/g e)
 | 0,d,x,hn,h=>by
  obtain rfl:d=n:=by omega
  exact Int.dvd_mul_left _ _
 | k+1,d,x,hn,h=>by
  have hd:d<n:=by omega
  obtain⟨a,ha⟩:=t.g1 d hd
  obtain⟨b,hb⟩:=t.g2 d hd
  have gp:=t.gp d hd
  have sp:=(Gd.pos hd).1
  have e1:br s D d/g d=a:=by rw[ha];exact Int.mul_ediv_cancel_left a (by omega)
  have e2:L d d/g d=b:=by rw[hb];exact Int.mul_ediv_cancel_left b (by omega)
  have bz:u d*a+v d*b=1:=by
   have:=t.bz d hd
   rw[ha,hb,show u d*(g d*a)+v d*(g d*b)=g d*(u d*a+v d*b) by grind] at this
   have h2:g d*(u d*a+v d*b)=g d*1:=by omega
   exact Int.eq_of_mul_eq_mul_left (by omega) h2
  obtain⟨q,hq⟩:=h.1
  have hax:a∣x:=by
   have h3:g d*(x*b)=g d*(a*q):=by
    have:x*L d d=br s D d*q:=hq
    rw[hb,ha] at this;grind
   have h4:x*b=a*q:=Int.eq_of_mul_eq_mul_left (by omega) h3
   exact⟨u d*x+v d*q,by
    have:x=x*(u d*a+v d*b):=by rw[bz,Int.mul_one]
    rw[this]
    have:x*(u d*a+v d*b)=a*(u d*x)+v d*(x*b):=by grind
    rw[this,h4];grind⟩
  obtain⟨y,hy⟩:=hax
  have MG:q=b*y:=by
   have h3:g d*(a*q)=g d*(a*(b*y)):=by
    have:x*L d d=br s D d*q:=hq
    rw[hb,ha,hy] at this;grind
   have ap:a≠0:=by intro z;rw[z,Int.mul_zero] at ha;omega
   exact Int.eq_of_mul_eq_mul_left ap (Int.eq_of_mul_eq_mul_left (by omega) h3)
  have h2:=h.2
  have q1:x*L d d/br s D d=q:=by
   show x*L d d/br s D d=q
   rw[show x*L d d=br s D d*q from hq];exact Int.mul_ediv_cancel_left q (by omega)
  have:=t.order Gd k (d+1) y (by omega) (Gd.qL (by omega) (λi hi=>?_) h2)
  ·rw[aE,e1] at this
   rw[hy,show a*y*aE d (λe=>br s D e/g e)=y*(aE d (λe=>br s D e/g e)*a) by grind]
   exact this
  ·show s i∣y*L (d+1) i-(x*L d i-x*L d d/br s D d*D d i)
   rw[q1,t.ID d hd i hi,e1,e2]
   obtain⟨z,hz⟩:=fz (a*L d i+-b*D d i) (s i)
   refine⟨y*z,?_⟩
   have:(a*L d i+-b*D d i)%s i=a*L d i+-b*D d i+s i*z:=by omega
   rw[this,hy,MG];grind
theorem G.sum(Gd:Good n (vf sizes) (DD rows)){P:eB}:∀ k',(∀ l,l<k'->G n (vf sizes) (DD rows) n 0 (A l))->G n (vf sizes) (DD rows) n 0 (λi=>dj k' λl=>P l*A l i)
 | 0,_=>G.zero (by omega)
 | k'+1,h=>G.ext (by omega) (λi _=>rfl) (G.add (by omega) (G.sum Gd k' λl hl=>h l (by omega)) (G.mul (P k') (by omega) (h k' (by omega))))
end
def mC(m k:Nat):List Int:=(List.range m).map λl=>if l=k then 1 else 0
theorem sO{l:Nat}(h:l<m):vf (mC m k) l=if l=k then 1 else 0:=by
 rw[aY (by simp[mC,h])];simp[mC]
def AA(Ls:List (List Int)):Nat->eB:=λl=>vf (Ls.getD l [])
def bN(Ls:List (List Int))(m k:Nat):Row:=(Ls.getD k [],mC m k)
def RK(c:Int->Int->Int×Int)(sizes:List Int)(Ls:List (List Int))(n m:Nat):Nat->List Row×List (List Int)
 | 0=>(List.replicate n (List.replicate n 0,List.replicate m 0),[])
 | k+1 =>
  (cu c sizes (RK c sizes Ls n m k).1 (bN Ls m k) n,(RK c sizes Ls n m k).2++[aP (RK c sizes Ls n m k).2 k (aA c sizes (RK c sizes Ls n m k).1 (bN Ls m k) n).2 k])
structure IJ (n m:Nat) (sizes:List Int) (Ls:List (List Int)):Prop where
 len:Ls.length=m
 at_:∀ l,l<m->(Ls.getD l []).length=n
 ki:∀ l,l<m->∀ i,i<n->0<=AA Ls l i/\AA Ls l i<vf sizes i
structure zB (n m:Nat) (sizes:List Int) (Ls:List (List Int)) (k:Nat) (r:List Row×List (List Int)):Prop where
 st:St n m sizes (AA Ls) k r.1
 qc:yv n m (vf sizes) (AA Ls) k r.2
 pr:aE k (λj=>II r.2 j j)*aE n (br (vf sizes) (DD r.1))=aE n (vf sizes)
 ord:∀ j,j<k->∀ P:eB,Zf (j+1) m P->Led n (vf sizes) m (AA Ls) (λ_=>0) P->II r.2 j j∣P j
variable{x:List Int}
section
variable{Ls:List (List Int)}
theorem gZ(h:j<idle.length):II (idle++[x]) j=II idle j:=by
 unfold II
 rw[List.getD_eq_getElem?_getD,List.getElem?_append_left h,← List.getD_eq_getElem?_getD]
theorem jH:II (idle++[x]) idle.length=vf x:=by
 unfold II
 rw[List.getD_eq_getElem?_getD,List.getElem?_append_right (Nat.le_refl _)];simp
theorem Ak(h:j<idle.length):(idle++[x]).getD j []=idle.getD j []:=by
 rw[List.getD_eq_getElem?_getD,List.getElem?_append_left h,← List.getD_eq_getElem?_getD]
theorem AE:(idle++[x]).getD idle.length []=x:=by
 rw[List.getD_eq_getElem?_getD,List.getElem?_append_right (Nat.le_refl _)];simp
theorem oJ{f:Nat->Int}{k:Nat}:∀ {m:Nat},k<m->(∀ l,k<l->l<m->f l=0)->dj m f=dj k f+f k
 | 0,h,_=>by omega
 | m+1,h,e=>by
  rw[dj]
  by_cases z:k=m
  ·subst z;rfl
  ·rw[oJ (m:=m) (by omega) λl h1 h2=>e l h1 (by omega),e m (by omega) (by omega)];omega
theorem tm:∀ {n:Nat} {f:Nat->Int},(∀ i,i<n->0<f i/\f i<=360)->aE n f<=360^n
 | 0,f,_=>by simp[aE]
 | n+1,f,h=>by
  rw[aE,Int.pow_succ]
  exact Int.mul_le_mul (tm λi hi=>h i (by omega)) (h n (by omega)).2 (by have:=(h n (by omega)).1;omega) (Int.pow_nonneg (by decide))
theorem Lb(h:n<=6):(360:Int)^n<=360^6:=by
 have:n=0\/n=1\/n=2\/n=3\/n=4\/n=5\/n=6:=by omega
 rcases this with rfl | rfl | rfl | rfl | rfl | rfl | rfl <;> decide
theorem zB.next{r:List Row×List (List Int)}(h:zB n m sizes Ls k r)(LL:IJ n m sizes Ls)(cb:CB c)(hn:n<=6)(hk:k<m) :
  zB n m sizes Ls (k+1) (cu c sizes r.1 (bN Ls m k) n,r.2++[aP r.2 k (aA c sizes r.1 (bN Ls m k) n).2 k]):=by
 have L:Lv n m sizes (AA Ls) k (bN Ls m k):=⟨LL.at_ k hk,by simp[bN,mC],hk,λi hi=>rfl,LL.ki k hk,λl hl=>sO hl⟩
 have T:=h.st.tk L cb
 have ll:=cO (c:=c) h.st.wf h.st.hs L.l1 L.l2 n (Nat.le_refl _)
 have zf:=qY (c:=c) h.st L n (Nat.le_refl _)
 have led:=oN (c:=c) h.st L n (Nat.le_refl _)
 have l0:=T.zero h.st.gd n (Nat.le_refl _)
 have il:r.2.length=k:=h.qc.len
 have out:=uw h.qc ll.2 k (Nat.le_refl _)
 have jk:vf (aP r.2 k (aA c sizes r.1 (bN Ls m k) n).2 k) k=aE n λe=>br (vf sizes) (DD r.1) e/(Int.gcd (br (vf sizes) (DD r.1) e) (vf (aA c sizes r.1 (bN Ls m k) e).1 e):Nat):=by
  rw[out k (Nat.le_refl _) hk];exact zf.2
 have pos:∀ e,e<n->0<br (vf sizes) (DD r.1) e/(Int.gcd (br (vf sizes) (DD r.1) e) (vf (aA c sizes r.1 (bN Ls m k) e).1 e):Nat):=λe he=>by
  have p:=h.st.gd.pos he
  have s:=h.st.sm e he
  exact(jv p.1 (by omega)).1
 have pr:aE (k+1) (λj=>II (r.2++[aP r.2 k (aA c sizes r.1 (bN Ls m k) n).2 k]) j j)*aE n (br (vf sizes) (DD (cu c sizes r.1 (bN Ls m k) n)))=aE n (vf sizes):=by
  rw[aE,show II (r.2++[aP r.2 k (aA c sizes r.1 (bN Ls m k) n).2 k]) k=vf (aP r.2 k (aA c sizes r.1 (bN Ls m k) n).2 k) by rw[← il];exact jH]
  rw[gg (g:=λj=>II r.2 j j) λj hj=>by rw[gZ (by omega)],← h.pr,jk]
  rw[gg (g:=λd=>((Int.gcd (br (vf sizes) (DD r.1) d) (vf (aA c sizes r.1 (bN Ls m k) d).1 d):Nat):Int)) λd hd=>T.step h.st.gd hd]
  rw[qo (f:=br (vf sizes) (DD r.1)) (g:=λd=>((Int.gcd (br (vf sizes) (DD r.1) d) (vf (aA c sizes r.1 (bN Ls m k) d).1 d):Nat):Int)) (h:=λe=>br (vf sizes) (DD r.1) e/(Int.gcd (br (vf sizes) (DD r.1) e) (vf (aA c sizes r.1 (bN Ls m k) e).1 e):Nat)) λd hd=>(Int.mul_ediv_cancel' (Int.gcd_dvd_left ..)).symm]
  grind
 have jpos:0<vf (aP r.2 k (aA c sizes r.1 (bN Ls m k) n).2 k) k:=by rw[jk];exact dH pos
 have St':=h.st.next L cb hn
 have jle:vf (aP r.2 k (aA c sizes r.1 (bN Ls m k) n).2 k) k<2^60:=by
  have b:aE n (vf sizes)<=360^n:=tm λi hi=>⟨h.st.gd.sp i hi,h.st.sm i hi⟩
  have b2:(360:Int)^n<=360^6:=Lb hn
  have b3:(360:Int)^6<2^60:=by decide
  rw[aE,show II (r.2++[aP r.2 k (aA c sizes r.1 (bN Ls m k) n).2 k]) k=vf (aP r.2 k (aA c sizes r.1 (bN Ls m k) n).2 k) by rw[← il];exact jH] at pr
  have p1:0<aE k (λj=>II (r.2++[aP r.2 k (aA c sizes r.1 (bN Ls m k) n).2 k]) j j):=dH λj hj=>by rw[gZ (by omega)];exact h.qc.pos j hj
  have p2:0<aE n (br (vf sizes) (DD (cu c sizes r.1 (bN Ls m k) n))):=dH λd hd=>(St'.gd.pos hd).1
  generalize aE k (λj=>II (r.2++[aP r.2 k (aA c sizes r.1 (bN Ls m k) n).2 k]) j j)=a at *
  generalize aE n (br (vf sizes) (DD (cu c sizes r.1 (bN Ls m k) n)))=b' at *
  generalize vf (aP r.2 k (aA c sizes r.1 (bN Ls m k) n).2 k) k=x at *
  have e1:1*x<=a*x:=Int.mul_le_mul_of_nonneg_right (by omega) (by omega)
  have e2:a*x*1<=a*x*b':=Int.mul_le_mul_of_nonneg_left (by omega) (by omega)
  omega
 refine⟨St',⟨by simp[il],λj hj=>?_,λj hj=>?_,λj hj=>?_,λj hj l h1 h2=>?_,λj hj l hl=>?_,λj hj=>?_⟩,pr,λj hj P hz hP=>?_⟩
 all_goals
  rcases Nat.lt_or_ge j k with q | q
 ·rw[Ak (by omega)];exact h.qc.l2 j q
 ·obtain rfl:j=r.2.length:=by omega
  rw[AE];exact span_len h.qc ll.2 k (Nat.le_refl _)
 ·rw[gZ (by omega)];exact h.qc.pos j q
 ·obtain rfl:j=r.2.length:=by omega
  rw[jH,il];exact jpos
 ·rw[gZ (by omega)];exact h.qc.le j q
 ·obtain rfl:j=r.2.length:=by omega
  rw[jH,il];exact jle
 ·rw[gZ (by omega)];exact h.qc.zero j q l h1 h2
 ·obtain rfl:j=r.2.length:=by omega
  rw[jH,out l (by omega) h2];exact zf.1 l (by omega) h2
 ·rw[gZ (by omega),gZ (by omega)];exact h.qc.nf j q l hl
 ·obtain rfl:j=r.2.length:=by omega
  rw[jH,gZ (by omega)];exact qI h.qc ll.2 (by omega) k (Nat.le_refl _) l (by omega) (by omega)
 ·rw[gZ (by omega)];exact h.qc.qc j q
 ·obtain rfl:j=r.2.length:=by omega
  rw[jH]
  refine n5 h.qc ll.2 (λi hi=>?_) k (Nat.le_refl _)
  have:=led i hi
  rw[show vf (aA c sizes r.1 (bN Ls m k) n).1 i=0 from l0 i hi] at this
  exact this
 ·rw[gZ (by omega)];exact h.ord j q P hz hP
 ·obtain rfl:j=k:=by omega
  rw[show II (r.2++[aP r.2 j (aA c sizes r.1 (bN Ls m j) n).2 j]) j=vf (aP r.2 j (aA c sizes r.1 (bN Ls m j) n).2 j) by rw[← il];exact jH,jk]
  have:=T.order h.st.gd n 0 (P j) (by omega) ?_
  ·rwa [aE,Int.mul_one] at this
  ·refine h.st.gd.qL (by omega) (λi hi=>?_) (G.mul (-1) (by omega) (G.sum (A:=AA Ls) (P:=P) h.st.gd j h.st.cl))
   have e:=hP i hi
   rw[oJ hk λl h1 h2=>by rw[hz l (by omega) h2,Int.zero_mul]] at e
   obtain⟨x,hx⟩:=e
   have hx:(0:Int)-(dj j (λl=>P l*AA Ls l i)+P j*AA Ls j i)=vf sizes i*x:=hx
   show vf sizes i∣P j*AA Ls j i - -1*dj j λl=>P l*AA Ls l i
   exact⟨-x,by rw[Int.mul_neg];omega⟩
theorem zB.start(hs:sizes.length=n)(hp:∀ i,i<n->0<vf sizes i/\vf sizes i<=360):zB n m sizes Ls 0 (List.replicate n (List.replicate n 0,List.replicate m 0),[]):=by
 have rw0:∀ d,d<n->row (List.replicate n (List.replicate n 0,List.replicate m 0)) d=(List.replicate n 0,List.replicate m 0):=λd hd=>by
  rw[iF (by simpa using hd)];simp
 have D0:∀ d,d<n->∀ i,DD (List.replicate n (List.replicate n 0,List.replicate m 0)) d i=0:=λd hd i=>by
  unfold DD;rw[rw0 d hd];exact iZ n i
 have P0:∀ d,d<n->∀ i,PP (List.replicate n (List.replicate n 0,List.replicate m 0)) d i=0:=λd hd i=>by
  unfold PP;rw[rw0 d hd];exact iZ m i
 have st:∀ d,d<n->br (vf sizes) (DD (List.replicate n (List.replicate n 0,List.replicate m 0))) d=vf sizes d:=λd hd=>by
  unfold br;rw[if_pos (D0 d hd d)]
 refine⟨⟨⟨by simp,λr hr=>by rw[List.eq_of_mem_replicate hr];simp,λr hr=>by rw[List.eq_of_mem_replicate hr];simp⟩,hs,λi hi=>(hp i hi).2,⟨λi hi=>(hp i hi).1,λd hd i hi=>?_,λd hd i hi=>D0 d hd i,λd hd=>by rw[st d hd];exact Int.dvd_refl _,λd k hn=>?_⟩,λd hd i hi=>?_,λd hd l _ _=>P0 d hd l,λd hd=>?_,λl hl=>by omega⟩,⟨rfl,λj hj=>by omega,λj hj=>by omega,λj hj=>by omega,λj hj=>by omega,λj hj=>by omega,λj hj=>by omega⟩,?_,λj hj=>by omega⟩
 ·rw[D0 d hd i];have:=(hp i hi).1;omega
 ·exact G.ext (by omega) (λi hi=>by rw[D0 d (by omega) i,Int.mul_zero]) (G.zero (by omega))
 ·rw[D0 d hd i,fm (g:=λ_=>0) λl hl=>by rw[P0 d hd l,Int.zero_mul],gf];exact Int.dvd_zero _
 ·rw[rw0 d hd]
  intro x hx
  rw[List.eq_of_mem_replicate hx];exact Nat.two_pow_pos _
 ·rw[aE,Int.one_mul];exact gg λd hd=>st d hd
theorem zB.all(hs:sizes.length=n)(hp:∀ i,i<n->0<vf sizes i/\vf sizes i<=360)(LL:IJ n m sizes Ls)(cb:CB c)(hn:n<=6):∀ k,k<=m->zB n m sizes Ls k (RK c sizes Ls n m k)
 | 0,_=>zB.start hs hp
 | k+1,hk=>(zB.all hs hp LL cb hn k (by omega)).next LL cb hn (by omega)
end
theorem mf(h:b∣a)(h1:-b<a)(h2:a<b):a=0:=by
 obtain⟨c,rfl⟩:=h
 rcases Int.lt_trichotomy c 0 with q | q | q
 ·have:b*c<=b*(-1):=Int.mul_le_mul_of_nonneg_left (by omega) (by omega)
  omega
 ·rw[q,Int.mul_zero]
 ·have:b*1<=b*c:=Int.mul_le_mul_of_nonneg_left (by omega) (by omega)
  omega
variable{Q:Int}
section
variable{D:Nat->eB}{w v u:eB}
end
end Rg
namespace uK
open PySem L2 PyProof.Rows Rg
local macro_rules | `(tactic| dsimp? [$ts,*])=>`(tactic| simp only[cI,bg,aB,jL,au,uo,sT,retS,bw,nB,kj,mv,av,M.aS,M.bind_some,M.bind_none,M.AD,M.bind_assoc,af,ak,aj,aa,aq,Dj,Cp,Hg,Fy,FX,E7,F6,Ho,Fz,FV,Fx,G6,GK,G9,Gq,GW,eW,jC,FN,Ef,Cd,tK,Lj,xg,kG,HU,iW,CI,itemsOf,kP,DF,CJ,yi,B_,B7,Bq,Av,y_,DQ,Ct,Az,tN,BN,fx,dX,wu,Gx,List.length_cons,List.length_nil,List.map_cons,List.map_nil,List.cons_append,List.nil_append,List.replicate,List.getElem?_cons_zero,List.getElem?_cons_succ,List.getElem?_nil,List.set_cons_zero,List.set_cons_succ,List.set_nil,Nat.reduceAdd,Nat.reduceSub,if_true,if_false,Bool.not_true,Bool.not_false,Bool.false_eq_true,ite_true,ite_false,reduceIte,reduceCtorEq,Nat.sub_self,kF,dE,cY,Option.map_some,Option.map_none,sG,Ge,FK,D7,B8,DZ,G3,Cm,DE,DR,kd,List.any_cons,List.any_nil,String.reduceBEq,Bool.or_false,Bool.or_true,Bool.true_or,Bool.false_or,Bool.and_true,Bool.and_false,Bool.true_and,Bool.false_and,Dy,DC,Fw,E8,Dp,DN,DS,DY,Au,zI,iP,oj,List.foldl_cons,List.foldl_nil,oQ,ay trivial,$(⟨ts.elemsAndSeps⟩),*])
theorem jY(i:Int):cH [.int i]=M.ok (.bl true):=by rfl
theorem yY(b:Bool):cH [.bl b]=M.ok (.bl false):=by rfl
theorem yC:cH [.cL]=M.ok (.bl false):=by rfl
variable{α:Type}
theorem sD{inj:α->PV}{h:α->Bool}{p:PV}(xs:List α)(n:Int)(hp:p=.tup (xs.map inj)\/p=.lst (xs.map inj))(H:∀ a∈xs,cH [inj a]=M.ok (.bl (h a)))(hz:xs.length<=sizeLine):eh [p,.int n]=M.ok (.bl (decide ((xs.length:Int)=n)&&xs.all h)):=by
 have key:cj (cB 0) none (aj cH (aa (af 0) aq)) (xs.map inj) [none]=M.ok (xs.map λa=>.bl (h a)):=jD xs λa ha=>by dsimp? [H a ha]
 have key2:sM [.lst (xs.map λa=>.bl (h a))]=M.ok (.bl (xs.all h)):=by
  have:=sN (xs.map h)
  rw[List.map_map] at this
  rw[show (λa=>PV.bl (h a))=PV.bl∘h from rfl,this]
  simp[List.all_map]
 unfold eh iz
 rcases hp with rfl | rfl
 all_goals
  dsimp? [List.length_map]
  by_cases e:(xs.length:Int)=n
  ·simp only[e,decide_true,Bool.not_true,M.aS,Bool.false_eq_true,if_false,uo,Bool.true_and]
   dsimp? [List.length_map,ay hz,key,key2]
  ·simp only[e,decide_false,Bool.not_false,M.aS,if_true,sT,Bool.false_and]
   dsimp? []
theorem uS(xs:List Int)(n:Int)(hz:xs.length<=sizeLine):eh [tI xs,.int n]=M.ok (.bl (decide ((xs.length:Int)=n))):=by
 exact(sD (p:=tI xs) (h:=λ_=>true) xs n (.inl rfl) (λa _=>jY a) hz).trans (by rw[List.all_eq_true.mpr λ_ _=>rfl,Bool.and_true])
theorem Fl(xs:List Int)(n:Int)(hz:xs.length<=sizeLine):eh [lI xs,.int n]=M.ok (.bl (decide ((xs.length:Int)=n))):=by
 exact(sD (p:=lI xs) (h:=λ_=>true) xs n (.inr rfl) (λa _=>jY a) hz).trans (by rw[List.all_eq_true.mpr λ_ _=>rfl,Bool.and_true])
theorem Jl{f:List Int->PV}(hf:f=tI\/f=lI)(xs:List Int)(n:Int)(hz:xs.length<=sizeLine):eh [f xs,.int n]=M.ok (.bl (decide ((xs.length:Int)=n))):=by
 rcases hf with rfl | rfl
 ·exact uS xs n hz
 ·exact Fl xs n hz
theorem IF{f:List Int->PV}(hf:f=tI\/f=lI)(xs:List Int):bX (f xs)=some (xs.map PV.int):=by rcases hf with rfl | rfl <;> rfl
theorem within_int(x a b:Int):fF [.int x,.int a,.int b]=M.ok (.bl (decide (a<=x/\x<=b))):=by
 unfold fF fy
 dsimp? [jY]
 by_cases h:a<=x
 ·simp only[h,decide_true,if_true,true_and];dsimp? []
 ·simp only[h,decide_false,false_and];dsimp? []
theorem iu{p:PV}{xs:List PV}(h:bX p=some xs):sA p=M.ok (.int xs.length):=by
 cases p <;> first | (cases h;rfl) | cases h
theorem pk{p:PV}(xs:List Int)(hp:bX p=some (xs.map PV.int))(h1:1<=xs.length)(h6:xs.length<=6)(hx:∀ x∈xs,2<=x/\x<=360):fQ [p]=M.ok .cL:=by
 unfold fQ fN
 have a1:¬ (6:Int)<xs.length:=by omega
 have a2:¬ (xs.length:Int)=0:=by omega
 dsimp? [a1,a2,decide_false,iu hp,List.length_map,rB xs hp]
 refine eP xs.zipIdx (λzs env=>(∃ b c,env=[some (.sh p),b,c])/\∀ z∈zs,2<=z.1/\z.1<=360) ⟨⟨_,_,rfl⟩,λz hz=>hx z.1 (List.fst_mem_of_mem_zipIdx hz)⟩ ?_ ?_
 ·rintro⟨a,i⟩ r env ⟨⟨b,c,rfl⟩,hz⟩
  have ha:=hz (a,i) List.mem_cons_self
  refine⟨_,[some (.sh p),some (.sh (.int i)),some (.sh (.int a))],rfl,?_,⟨_,_,rfl⟩,λz Oc=>hz z (List.mem_cons_of_mem _ Oc)⟩
  dsimp? [within_int,ha,and_self,decide_true]
 ·rintro Mh ⟨⟨b,c,rfl⟩,_⟩;rfl
theorem n9{f:List Int->PV}(hf:f=tI\/f=lI)(n:Nat)(xs:List (List Int))(h8:xs.length<=8)(hx:∀ x∈xs,x.length=n)(hn:n<=100):e_ [.lst (xs.map f),.int n]=M.ok .cL:=by
 unfold e_ eX
 have a1:¬ (8:Int)<xs.length:=by omega
 dsimp? [a1,decide_false,List.length_map,sj]
 refine eP xs.zipIdx (λzs env=>(∃ b c,env=[some (.sh (.lst (xs.map f))),some (.sh (.int n)),b,c])/\∀ z∈zs,z.1.length=n) ⟨⟨_,_,rfl⟩,λz hz=>hx z.1 (List.fst_mem_of_mem_zipIdx hz)⟩ ?_ ?_
 ·rintro⟨a,i⟩ r env ⟨⟨b,c,rfl⟩,hz⟩
  have ha:a.length=n:=hz (a,i) List.mem_cons_self
  refine⟨_,[some (.sh (.lst (xs.map f))),some (.sh (.int n)),some (.sh (.int i)),some (.sh (f a))],rfl,?_,⟨_,_,rfl⟩,λz Oc=>hz z (List.mem_cons_of_mem _ Oc)⟩
  dsimp? [Jl hf a n (aX (by omega)),ha,decide_true]
 ·rintro Mh ⟨⟨b,c,rfl⟩,_⟩;rfl
theorem ui(n:Nat)(p:PV):(List.replicate n [p]).flatten=List.replicate n p:=by
 induction n with
 | zero=>rfl
 | succ n ih=>rw[List.replicate_succ,List.flatten_cons,ih];rfl
theorem mul_one(p:PV)(n:Nat)(h8:n<=1000):bZ (.tup [p]) (.int (n:Int))=M.ok (.tup (List.replicate n p)):=by
 have h2:[p].length*(n:Int).toNat<=sizeLine:=by
  rw[Int.toNat_natCast]
  exact aX (by show 1*n<=1000;omega)
 have h3:(n:Int)<2^63:=Int.lt_of_le_of_lt (Int.ofNat_le.mpr h8) (by decide)
 have h4:-(2^63)<=(n:Int):=Int.le_trans (by decide) (Int.natCast_nonneg n)
 rw[bZ,ay ⟨rfl,h4,h3,h2⟩,Int.toNat_natCast,ui]
theorem jQ(xs:List PV)(h8:xs.length<=8):f7 [.lst xs,.cL]=M.ok (tI (List.replicate xs.length 1)):=by
 unfold f7 fM
 dsimp? [Bg,wo,mul_one (.int 1) xs.length (by omega)]
 rw[tI,List.map_replicate]
def uD(xs sizes:List Int):List Int:=(xs.zip sizes).map λz=>z.1%z.2
theorem oW(p q:PV)(xs sizes:List Int)(hp:bX p=some (xs.map PV.int))(hq:bX q=some (sizes.map PV.int))(hs:∀ s∈sizes,0<s)(hz:xs.length<=1000):iN [p,q]=M.ok (tI (uD xs sizes)):=by
 have key:cj (cA 0 1) none (ak c7 (af 0) (af 1)) ((xs.zip sizes).map λz=>.tup [.int z.1,.int z.2]) [none,none]=M.ok ((xs.zip sizes).map λz=>.int (z.1%z.2)):=by
  refine kN (p:=λz:Int×Int=>PV.int z.1) (q:=λz:Int×Int=>PV.int z.2) (xs.zip sizes) λz hz=>?_
  have:=hs z.2 (List.of_mem_zip (a:=z.1) (b:=z.2) hz).2
  dsimp? [aO this]
 unfold iN jU
 have hl:(xs.zip sizes).length<=sizeLine:=by rw[List.length_zip];exact aX (Nat.le_trans (Nat.min_le_left _ _) hz)
 dsimp? [fw xs sizes hp hq,List.length_map,ay hl,key]
 rw[tI,uD,List.map_map];rfl
theorem uX(a b c:PV):aV (.tup [a,b,c]) (.int 0)=M.ok a:=bB (j:=0) rfl rfl
theorem Ha(a b c:PV):aV (.tup [a,b,c]) (.int 1)=M.ok b:=bB (j:=1) rfl rfl
theorem Fi(a b c:PV):aV (.tup [a,b,c]) (.int 2)=M.ok c:=bB (j:=2) rfl rfl
theorem qf(a b:Int)(ha:a.natAbs<2^60)(hb:b.natAbs<2^60):∃ s t,fk [.int a,.int b]=M.ok (.tup [.int (Int.gcd a b),.int s,.int t])/\s*a+t*b=Int.gcd a b/\s.natAbs<=b.natAbs+1/\t.natAbs<=a.natAbs+(b.natAbs+1)*a.natAbs+b.natAbs+1:=by
 let J:ai->Prop:=λenv=>∃ r s t r' s' t' x y,env=[some (.sh (.int a)),some (.sh (.int b)),some (.sh ((PV.tup [PV.int r,PV.int s,PV.int t]))),some (.sh ((PV.tup [PV.int r',PV.int s',PV.int t']))),x,y]/\Eu.St a b r s t r' s' t'
 let m:ai->Nat:=λenv=>match env with
  | [_,_,_,some (.sh (.tup [.int r,_,_])),_,_]=>r.natAbs
  | _=>0
 have hk:(b.natAbs+1)*a.natAbs<=2^60*2^60:=Nat.mul_le_mul (by omega) (by omega)
 have hk2:(2:Nat)^60*2^60=2^120:=by decide
 have start:J [some (.sh (.int a)),some (.sh (.int b)),some (.sh ((PV.tup [PV.int a,PV.int 1,PV.int 0]))),some (.sh ((PV.tup [PV.int b,PV.int 0,PV.int 1]))),none,none]:=⟨_,_,_,_,_,_,_,_,rfl,Eu.start a b⟩
 have loop:=qw (u:=eW (ak uT (ak aV (af 3) (λ_=>M.ok (.int 0))) (λ_=>M.ok (.int 0)))) (b:=(au (bw 4 (ak cS (ak aV (af 2) (λ_=>M.ok (.int 0))) (ak aV (af 3) (λ_=>M.ok (.int 0)))))
  (au (bw 5 (iU (aa (ak jd (ak aV (af 2) (λ_=>M.ok (.int 0))) (ak bZ (af 4) (ak aV (af 3) (λ_=>M.ok (.int 0))))) (aa (ak jd (ak aV (af 2) (λ_=>M.ok (.int 1))) (ak bZ (af 4) (ak aV (af 3) (λ_=>M.ok (.int 1))))) (aa (ak jd (ak aV (af 2) (λ_=>M.ok (.int 2))) (ak bZ (af 4) (ak aV (af 3) (λ_=>M.ok (.int 2))))) aq)))))
  (au (bw 2 (af 3))
  (au (bw 3 (af 5))
  av))))) J m ?_ _ start
 ·obtain⟨Mh,e1,⟨r,s,t,r',s',t',x,y,rfl,st⟩,e2⟩:=loop
  have hr':r'=0:=by
   revert e2
   dsimp? [uX]
   intro e2
   have:(!decide (r'=0))=false:=by injection e2 with e2;injection e2
   simpa using this
  subst hr'
  obtain⟨d1,d2⟩:=Eu.done st
  have hg:(r.natAbs:Int)=Int.gcd a b:=by
   have h1:r.natAbs∣Int.gcd a b:=Int.dvd_gcd (Int.natAbs_dvd.mpr d1) (Int.natAbs_dvd.mpr d2)
   have h2:((Int.gcd a b:Nat):Int)∣r:=by
    rw[st.c0]
    exact Int.dvd_add (Int.dvd_trans (Int.gcd_dvd_left ..) (Int.dvd_mul_left _ _)) (Int.dvd_trans (Int.gcd_dvd_right ..) (Int.dvd_mul_left _ _))
   have h3:Int.gcd a b∣r.natAbs:=Int.ofNat_dvd_left.mp h2
   rw[Nat.dvd_antisymm h1 h3]
  unfold fk jx
  dsimp? []
  rw[e1]
  dsimp? [uX,Ha,Fi]
  by_cases hneg:r<0
  ·refine⟨-s,-t,?_,?_,by rw[Int.natAbs_neg];exact st.b0,by rw[Int.natAbs_neg];exact st.d0⟩
   ·simp only[hneg,decide_true,if_true];dsimp? []
    rw[show -r=(Int.gcd a b:Int) by omega]
   ·have:=st.c0
    rw[Int.neg_mul,Int.neg_mul];omega
  ·refine⟨s,t,?_,?_,st.b0,st.d0⟩
   ·simp only[hneg,decide_false,Bool.false_eq_true,if_false];dsimp? []
    rw[show r=(Int.gcd a b:Int) by omega]
   ·have:=st.c0;omega
 ·rintro env ⟨r,s,t,r',s',t',x,y,rfl,st⟩
  by_cases h0:r'=0
  ·refine .inl ?_
   dsimp? [uX]
   simp[h0]
  ·refine .inr ⟨?_,?_⟩
   ·dsimp? [uX]
    simp[h0]
   ·obtain⟨OR,lt⟩:=Eu.turn st h0
    have b1:=st.m1;have b0:=st.m0;have c1:=st.b1;have c2:=st.d1;have c3:=OR.m1
    have q1:(r.fdiv r').natAbs<=r.natAbs+1:=by
     obtain⟨f1,f2,f3⟩:=Eu.ql r r' h0
     generalize r.fdiv r'=q at *
     have e:q*r'=r-(r-q*r'):=by omega
     have e2:(q*r').natAbs<=r.natAbs+(r-q*r').natAbs:=by omega
     rw[Int.natAbs_mul] at e2
     have:q.natAbs*1<=q.natAbs*r'.natAbs:=Nat.mul_le_mul_left _ (by omega)
     rcases Nat.lt_or_ge (r.natAbs+1) q.natAbs with h | h
     ·have h5:(r.natAbs+2)*r'.natAbs<=q.natAbs*r'.natAbs:=Nat.mul_le_mul_right _ (by omega)
      have h6:r.natAbs*1<=r.natAbs*r'.natAbs:=Nat.mul_le_mul_left _ (by omega)
      rw[Nat.add_mul] at h5
      omega
     ·exact h
    have q2:(r.fdiv r').natAbs<2^200:=by omega
    refine⟨[some (.sh (.int a)),some (.sh (.int b)),some (.sh ((PV.tup [PV.int r',PV.int s',PV.int t']))),some (.sh ((PV.tup [PV.int (r-r.fdiv r'*r'),PV.int (s-r.fdiv r'*s'),PV.int (t-r.fdiv r'*t')]))),some (.sh (.int (r.fdiv r'))),some (.sh ((PV.tup [PV.int (r-r.fdiv r'*r'),PV.int (s-r.fdiv r'*s'),PV.int (t-r.fdiv r'*t')])))],?_,⟨_,_,_,_,_,_,_,_,rfl,OR⟩,lt⟩
    dsimp? [uX,Ha,Fi,qb h0 (Nat.lt_of_lt_of_le (show r'.natAbs<2^200 by omega) (Nat.pow_le_pow_right (by decide) (by decide))),bC (k:=200) (l:=200) q2 (show r'.natAbs<2^200 by omega),bC (k:=200) (l:=200) q2 (show s'.natAbs<2^200 by omega),bC (k:=200) (l:=200) q2 (show t'.natAbs<2^200 by omega)]
def R(sizes:List Int):Int:=(Lc.IM (sizes.map Int.toNat):Nat)
structure Sz (sizes:List Int):Prop where
 h1:1<=sizes.length
 h6:sizes.length<=6
 hx:∀ x∈sizes,2<=x/\x<=360
structure Acc (sizes r:List Int) (acc:Nat):Prop where
 pos:0<acc
 le:acc<=2^(9*(6-r.length))
 len:r.length<=6
 val:(r.map Int.toNat).foldl Nat.lcm acc=Lc.IM (sizes.map Int.toNat)
 ki:∀ x∈r,2<=x/\x<=360
variable{sizes:List Int}
theorem Acc.start(h:Sz sizes):Acc sizes sizes 1:=⟨by decide,Nat.one_le_two_pow,h.h6,rfl,h.hx⟩
variable{acc:Nat}
theorem Acc.lt{r:List Int}(h:Acc sizes r acc):acc<2^60:=by
 have h2:(2:Nat)^(9*(6-r.length))<=2^54:=Nat.pow_le_pow_right (by decide) (by omega)
 have:=h.le;omega
variable{x:Int}
theorem Acc.turn{r:List Int}(h:Acc sizes (x::r) acc):Acc sizes r (Nat.lcm acc x.toNat)/\(acc:Int)/(Int.gcd acc x:Nat)*x=(Nat.lcm acc x.toNat:Nat)/\(acc:Int)/(Int.gcd acc x:Nat)<=acc/\0<Int.gcd acc x:=by
 have hx:=h.ki x List.mem_cons_self
 have hp:=h.pos
 obtain⟨n,rfl⟩:=Int.eq_ofNat_of_zero_le (show 0<=x by omega)
 have hg:Int.gcd (acc:Int) (n:Int)=Nat.gcd acc n:=rfl
 refine⟨⟨Nat.lcm_pos hp (by omega),?_,?_,h.val,λy hy=>h.ki y (List.mem_cons_of_mem _ hy)⟩,?_,?_,?_⟩
 ·have h1:Nat.lcm acc n<=acc*n:=Nat.le_of_dvd (Nat.mul_pos hp (by omega)) (Nat.lcm_dvd (Nat.dvd_mul_right ..) (Nat.dvd_mul_left ..))
  have h2:acc*n<=2^(9*(6-(r.length+1)))*2^9:=Nat.mul_le_mul h.le (by omega)
  have hl:r.length+1<=6:=h.len
  rw[← Nat.pow_add,show 9*(6-(r.length+1))+9=9*(6-r.length) by omega] at h2
  exact Nat.le_trans h1 h2
 ·have hl:r.length+1<=6:=h.len
  omega
 ·rw[hg,Int.toNat_natCast,← Lc.Aq];norm_cast
 ·rw[hg]
  exact Int.ofNat_le.mpr (Nat.div_le_self acc (Nat.gcd acc n))
 ·rw[hg];exact Nat.gcd_pos_of_pos_left _ hp
theorem gN{p:PV}(sizes:List Int)(hp:bX p=some (sizes.map PV.int))(h:Sz sizes):e9 [p]=M.ok (.int (R sizes)):=by
 unfold e9 eY
 dsimp? [hp]
 refine eP sizes (λr env=>∃ acc x,env=[some (.sh p),some (.sh (.int (acc:Nat))),x]/\Acc sizes r acc) ⟨1,_,rfl,.start h⟩ ?_ ?_
 ·rintro a r env ⟨acc,x,rfl,A⟩
  obtain⟨A2,e1,e2,e3⟩:=A.turn
  have l1:=A.lt
  have ha:=A.ki a List.mem_cons_self
  obtain⟨s,t,ec,_,_,_⟩:=qf (acc:Int) a (by omega) (by omega)
  have g1:Int.gcd acc a<=acc:=Nat.le_of_dvd A.pos (Int.ofNat_dvd.mp (Int.gcd_dvd_left ..))
  have d0:0<=(acc:Int)/(Int.gcd acc a:Nat):=Int.ediv_nonneg (by omega) (by omega)
  refine⟨_,[some (.sh p),some (.sh (.int (Nat.lcm acc a.toNat:Nat))),some (.sh (.int a))],rfl,?_,_,_,rfl,A2⟩
  dsimp? [ec,uX,bF (i:=(acc:Int)) (show (0:Int)<(Int.gcd acc a:Nat) by omega) (show ((Int.gcd acc a:Nat):Int)<2^64 by omega),bC (k:=64) (l:=64) (show ((acc:Int)/(Int.gcd acc a:Nat)).natAbs<2^64 by omega) (show a.natAbs<2^64 by omega),e1]
 ·rintro Mh ⟨acc,x,rfl,A⟩
  dsimp? []
  have:=A.val
  rw[R,← this];rfl
def rh(sizes:List Int)(levers:List (List Int)):List (Str×PV):=[("dial_sizes", tI sizes),("lever_settings", .tup (levers.map tI)),("lever_prices", tI (List.replicate levers.length 1)),("least_round", .int (R sizes))]
def dM(sizes:List Int)(levers:List (List Int)):PV:=.obj aC (rh sizes levers)
structure HC (sizes xs:List Int):Prop where
 len:xs.length=sizes.length
 ki:∀ z∈xs.zip sizes,0<=z.1/\z.1<z.2
theorem ua(f:Str)(p:PV):∀ fs:List (Str×PV),(q_ f p fs).length<=fs.length+1
 | []=>by simp[q_]
 | (g,q)::r=>by
  have:=ua f p r
  unfold q_
  split
  ·simp
  ·simp;omega
variable{n:Nat}
theorem jf{f:Str}{p:PV}{fs:List (Str×PV)}(h:fs.length<=n):(q_ f p fs).length<=n+1:=Nat.le_trans (ua f p fs) (by omega)
theorem iI(a C:Addr)(f:Str)(p:PV)(fs:List (Str×PV))(r:ai)(h:fs.length<1000):Al 0 C f p (some (.bd a C fs)::r)=M.ok (.nx (some (.bd a C (q_ f p fs))::r)):=by
 show cC _ _=_
 rw[ay ⟨rfl,h⟩];rfl
theorem CG{p:PV}{f:List Int->PV}(hf:f=tI\/f=lI)(sizes:List Int)(levers:List (List Int))(hp:bX p=some (sizes.map PV.int))(h:Sz sizes)(h8:levers.length<=8)(hl:∀ l∈levers,l.length=sizes.length):jz aC gL [.cL] [p,.lst (levers.map f)]=M.ok (dM sizes (levers.map λl=>uD l sizes)):=by
 have key:∀ a,gL a ([p,.lst (levers.map f)]++[.cL])=M.ok (rh sizes (levers.map λl=>uD l sizes)):=by
  intro a
  have e1:cj (cB 0) none (aj iN (aa (af 0) (aa (af 1) aq))) (levers.map f) [none,some (.sh p)]=M.ok (levers.map λl=>tI (uD l sizes)):=by
   refine jD levers λl hm=>?_
   have hs:=hl l hm
   have:=oW (f l) p l sizes (IF hf l) hp (λs hs=>by have:=h.hx s hs;omega) (by rw[hs];have:=h.h6;omega)
   dsimp? [this]
  unfold gL iD
  simp only[qJ]
  rw[ay (show ([p,PV.lst (levers.map f)]++[PV.cL]).length+1=4 from rfl)]
  simp only[w5,xi]
  dsimp? [hp,iu hp,pk sizes hp h.h1 h.h6 h.hx,n9 hf sizes.length levers h8 hl (by have:=h.h6;omega),kK,hp,iu hp,List.length_map,ay (aX (show levers.length<=1000 by omega)),e1,jQ _ (show (levers.map f).length<=8 by rw[List.length_map];exact h8),gN sizes hp h]
  rw[iI _ _ _ _ _ _ (by simp)]
  dsimp? [kK,hp,iu hp,List.length_map,ay (aX (show levers.length<=1000 by omega)),e1,jQ _ (show (levers.map f).length<=8 by rw[List.length_map];exact h8),gN sizes hp h]
  rw[iI _ _ _ _ _ _ (Nat.lt_of_le_of_lt (jf (Nat.zero_le 0)) (by decide))]
  dsimp? [kK,hp,iu hp,List.length_map,ay (aX (show levers.length<=1000 by omega)),e1,jQ _ (show (levers.map f).length<=8 by rw[List.length_map];exact h8),gN sizes hp h]
  rw[iI _ _ _ _ _ _ (Nat.lt_of_le_of_lt (jf (jf (Nat.zero_le 0))) (by decide))]
  dsimp? [kK,hp,iu hp,List.length_map,ay (aX (show levers.length<=1000 by omega)),e1,jQ _ (show (levers.map f).length<=8 by rw[List.length_map];exact h8),gN sizes hp h]
  rw[iI _ _ _ _ _ _ (Nat.lt_of_le_of_lt (jf (jf (jf (Nat.zero_le 0)))) (by decide))]
  dsimp? []
  show cC _ _=_
  rw[ay ⟨rfl,rfl⟩]
  rw[rh,List.map_map,List.length_map]
  rfl
 unfold jz
 rw[AU key];rfl
theorem Bf(sizes:List Int)(levers:List (List Int)):(rh sizes levers).lookup (Str.ofString "dial_sizes")=some (tI sizes):=rfl
theorem xX(sizes:List Int)(levers:List (List Int)):(rh sizes levers).lookup (Str.ofString "lever_settings")=some (.tup (levers.map tI)):=rfl
theorem IK(sizes:List Int)(levers:List (List Int)):(rh sizes levers).lookup (Str.ofString "sizes")=none:=rfl
theorem HY(sizes:List Int)(levers:List (List Int)):(rh sizes levers).lookup (Str.ofString "levers")=none:=rfl
theorem tY(sizes:List Int)(levers:List (List Int)):bA [dM sizes levers]=M.ok (tI sizes):=by
 unfold bA bW
 dsimp? [iJ,dM,beq_self_eq_true,Bf]
theorem qy(sizes:List Int)(levers:List (List Int)):bq [dM sizes levers]=M.ok (.tup (levers.map tI)):=by
 unfold bq bK
 dsimp? [iJ,dM,beq_self_eq_true,xX]
variable{levers:List (List Int)}
theorem nr{g:ai->M PV}{env:ai}(h:g env=M.ok (dM sizes levers)):cN aC "sizes" bA g aq env=M.ok (tI sizes):=by
 have:=tY sizes levers
 rw[cN,h,M.aS]
 show cC _ (M.bind (aq env) _)=_
 rw[ay ⟨rfl,IK sizes levers⟩]
 exact this
theorem oO{g:ai->M PV}{env:ai}(h:g env=M.ok (dM sizes levers)):cN aC "levers" bq g aq env=M.ok (.tup (levers.map tI)):=by
 have:=qy sizes levers
 rw[cN,h,M.aS]
 show cC _ (M.bind (aq env) _)=_
 rw[ay ⟨rfl,HY sizes levers⟩]
 exact this
def Cw(sizes xs:List Int):Bool:=decide ((xs.length:Int)=sizes.length)&&(xs.zip sizes).all λz=>decide (0<=z.1/\z.1<z.2)
variable{xs:List Int}
theorem DL:Cw sizes xs=true ↔ HC sizes xs:=by
 unfold Cw
 constructor
 ·intro h
  simp only[Bool.and_eq_true,decide_eq_true_eq,List.all_eq_true] at h
  exact⟨by omega,h.2⟩
 ·intro h
  simp only[Bool.and_eq_true,decide_eq_true_eq,List.all_eq_true]
  exact⟨by rw[h.len],h.ki⟩
theorem BG(x s:Int):∀ env:ai,env=[some (.sh (.int x)),some (.sh (.int s))]->iW BU BS (λ_=>M.ok (.int 0)) (af 0) (af 1) env=M.ok (.bl (decide (0<=x/\x<s))):=by
 rintro env rfl
 dsimp? []
 by_cases h:0<=x
 ·simp only[h,decide_true,if_true,true_and]
  try dsimp? []
 ·simp only[h,decide_false,false_and]
  try dsimp? []
theorem GA(h:α->Bool)(xs:List α):sM [.lst (xs.map λa=>.bl (h a))]=M.ok (.bl (xs.all h)):=by
 have:=sN (xs.map h)
 rw[List.map_map] at this
 rw[show (λa=>PV.bl (h a))=PV.bl∘h from rfl,this]
 simp[List.all_map]
theorem vn(h:Sz sizes)(xs:List Int)(hz:xs.length<=1000):fL [dM sizes levers,tI xs]=M.ok (.bl (Cw sizes xs)):=by
 have key:cj (cA 0 1) none (iW BU BS (λ_=>M.ok (.int 0)) (af 0) (af 1)) ((xs.zip sizes).map λz=>.tup [.int z.1,.int z.2]) [none,none]=M.ok ((xs.zip sizes).map λz=>.bl (decide (0<=z.1/\z.1<z.2))) :=
  kN (p:=λz:Int×Int=>PV.int z.1) (q:=λz:Int×Int=>PV.int z.2) (xs.zip sizes) λz hz=>BG z.1 z.2 _ rfl
 have hl:(xs.zip sizes).length<=sizeLine:=by rw[List.length_zip];exact aX (Nat.le_trans (Nat.min_le_left _ _) hz)
 unfold fL fY
 dsimp? [nr (sizes:=sizes) (levers:=levers) (g:=af 0) (env:=[some (.sh (dM sizes levers)),some (.sh (tI xs)),none]) rfl,uS xs sizes.length (aX hz)]
 unfold Cw
 by_cases e:(xs.length:Int)=sizes.length
 ·simp only[e,decide_true,Bool.not_true,Bool.false_eq_true,if_false,Bool.true_and]
  dsimp? [fw (p:=tI xs) (q:=tI sizes) xs sizes rfl rfl,List.length_map,ay hl,key,GA]
 ·simp only[e,decide_false,Bool.not_false,if_true,Bool.false_and]
  dsimp? []
theorem r0(h:Sz sizes)(hs:HC sizes xs):cX [dM sizes levers,tI xs]=M.ok .cL:=by
 unfold cX cV
 dsimp? [vn (levers:=levers) h xs (by rw[hs.len];have:=h.h6;omega),DL.mpr hs]
variable{ys:List Int}
theorem v_{z:Int×Int}(h:z∈xs.zip ys):z.1∈xs/\z.2∈ys:=List.of_mem_zip (a:=z.1) (b:=z.2) h
theorem rN(xs sizes:List Int):uD xs sizes=w4 xs sizes:=rfl
def cf(a b:Int):Int×Int:=open Classical in if h:∃ p:Int×Int,fk [.int a,.int b]=M.ok (.tup [.int (Int.gcd a b),.int p.1,.int p.2])/\p.1*a+p.2*b=Int.gcd a b/\p.1.natAbs<=b.natAbs+1/\p.2.natAbs<=a.natAbs+(b.natAbs+1)*a.natAbs+b.natAbs+1 then h.choose else (0,0)
theorem ED(a b:Int)(ha:a.natAbs<2^60)(hb:b.natAbs<2^60):fk [.int a,.int b]=M.ok (.tup [.int (Int.gcd a b),.int (cf a b).1,.int (cf a b).2])/\(cf a b).1*a+(cf a b).2*b=Int.gcd a b/\(cf a b).1.natAbs<=b.natAbs+1/\(cf a b).2.natAbs<=a.natAbs+(b.natAbs+1)*a.natAbs+b.natAbs+1:=by
 have h:∃ p:Int×Int,fk [.int a,.int b]=M.ok (.tup [.int (Int.gcd a b),.int p.1,.int p.2])/\p.1*a+p.2*b=Int.gcd a b/\p.1.natAbs<=b.natAbs+1/\p.2.natAbs<=a.natAbs+(b.natAbs+1)*a.natAbs+b.natAbs+1:=by
  obtain⟨s,t,h⟩:=qf a b ha hb
  exact⟨(s,t),h⟩
 unfold cf
 rw[dif_pos h]
 exact h.choose_spec
theorem zu:CB cf:=λa b h1 h2 h3 h4=>by
 obtain⟨_,e,b1,b2⟩:=ED a b (by omega) (by omega)
 refine⟨e,by omega,?_⟩
 have:(b.natAbs+1)*a.natAbs<=361*360:=Nat.mul_le_mul (by omega) (by omega)
 omega
def mk(r:Row):PV:=.tup [tI r.1,tI r.2]
theorem uh(r:Row):aV (mk r) (.int 0)=M.ok (tI r.1):=bB (p:=mk r) (j:=0) rfl rfl
theorem AM(r:Row):aV (mk r) (.int 1)=M.ok (tI r.2):=bB (p:=mk r) (j:=1) rfl rfl
variable{i:Nat}
theorem l5(h:i<xs.length):aV (tI xs) (.int (i:Int))=M.ok (.int (vf xs i)) :=
 bB (p:=tI xs) rfl (by rw[List.getElem?_map,List.getElem?_eq_getElem h,aY h];rfl)
theorem tQ{rows:List Row}{d:Nat}(h:d<rows.length):aV (.lst (rows.map mk)) (.int (d:Int))=M.ok (mk (row rows d)) :=
 bB (p:=.lst (rows.map mk)) rfl (by rw[List.getElem?_map,List.getElem?_eq_getElem h,iF h];rfl)
theorem oH{A B:Nat}(p q:PV)(xs ys:List Int)(a b:Int)(hp:bX p=some (xs.map PV.int))(hq:bX q=some (ys.map PV.int))(hx:Bd B xs)(hy:Bd B ys)(ha:a.natAbs<2^A)(hb:b.natAbs<2^A)(hB:B<=9000)(hA:A<=9000)(hz:xs.length<=1000):j7 [p,.int a,q,.int b]=M.ok (tI (mM xs a ys b)):=by
 have key:cj (cA 0 1) none (ak cP (ak bZ (af 2) (af 0)) (ak bZ (af 3) (af 1))) ((xs.zip ys).map λz=>.tup [.int z.1,.int z.2]) [none,none,some (.sh (.int a)),some (.sh (.int b))]=M.ok ((xs.zip ys).map λz=>.int (a*z.1+b*z.2)):=by
  refine kN (p:=λz:Int×Int=>PV.int z.1) (q:=λz:Int×Int=>PV.int z.2) (xs.zip ys) λz hz=>?_
  have m:=List.of_mem_zip (a:=z.1) (b:=z.2) hz
  dsimp? [bC (k:=A) (l:=B) ha (hx _ m.1) hA hB,bC (k:=A) (l:=B) hb (hy _ m.2) hA hB]
 have hl:(xs.zip ys).length<=sizeLine:=by rw[List.length_zip];exact aX (Nat.le_trans (Nat.min_le_left _ _) hz)
 unfold j7 lu
 dsimp? [fw xs ys hp hq,List.length_map,ay hl,key]
 rw[tI,mM,List.map_map];rfl
variable{r:Row}
theorem vI{A B:Nat}{q:Row}{a b:Int}(hs:∀ s∈sizes,0<s)(h1:Bd B r.1)(h2:Bd B r.2)(h3:Bd B q.1)(h4:Bd B q.2)(ha:a.natAbs<2^A)(hb:b.natAbs<2^A)(hB:B<=9000)(hA:A<=9000)(z1:r.1.length<=100)(z2:r.2.length<=100):dc [tI sizes,mk r,.int a,mk q,.int b]=M.ok (mk (pe sizes r a q b)):=by
 unfold dc dS
 dsimp? [uh,AM,oH (tI r.1) (tI q.1) r.1 q.1 a b rfl rfl h1 h3 ha hb hB hA (by omega),oH (tI r.2) (tI q.2) r.2 q.2 a b rfl rfl h2 h4 ha hb hB hA (by omega),oW (tI (mM r.1 a q.1 b)) (tI sizes) (mM r.1 a q.1 b) sizes rfl rfl hs (by rw[bS];omega)]
 rfl
variable{m:Nat}
theorem wb{rows:List Row}{d:Nat}(w:Wf n m rows)(hs:sizes.length=n)(hd:d<n):fE [tI sizes,.lst (rows.map mk),.int (d:Int)]=M.ok (.int (br (vf sizes) (DD rows) d)):=by
 unfold fE fG
 have e1:=w.pI hd
 dsimp? [tQ (rows:=rows) (d:=d) (by rw[w.len];exact hd),uh,l5 (xs:=(row rows d).1) (i:=d) (by omega)]
 unfold br
 by_cases z:DD rows d d=0
 ·have z':vf (row rows d).1 d=0:=z
  simp only[z',z,decide_true,if_true]
  dsimp? [l5 (xs:=sizes) (i:=d) (by omega)]
 ·have z':¬ vf (row rows d).1 d=0:=z
  simp only[z',z,decide_false,Bool.false_eq_true,if_false]
  dsimp? []
  rfl
theorem drop_cons{xs:List α}{d:Nat}{a:α}{r:List α}(h:xs.drop d=a::r):d<xs.length/\xs[d]?=some a/\xs.drop (d+1)=r:=by
 have hd:d<xs.length:=by
  rcases Nat.lt_or_ge d xs.length with q | q
  ·exact q
  ·rw[List.drop_eq_nil_of_le q] at h;cases h
 rw[List.drop_eq_getElem_cons hd] at h
 injection h with h1 h2
 exact⟨hd,by rw[List.getElem?_eq_getElem hd,h1],h2⟩
theorem eU(env:ai):gI aq env=M.ok []:=by
 simp only[gI,aq,M.aS]
 exact if_pos (Nat.zero_le _)
theorem wc{f:ai->M PV}{env:ai}{xs:List PV}{p:PV}(h:env[i]?=some (some (.ow xs)))(hf:f env=M.ok p)(hz:xs.length<1000):kO i f env=M.ok (.nx (env.set i (some (.ow (xs++[p]))))):=by
 unfold kO
 rw[h]
 show M.bind (f env) _=_
 rw[hf,M.aS,if_pos (lN (Nat.le_of_lt hz))]
theorem rm(hl:xs.length=n)(h:∀ i,i<n->0<=vf xs i/\vf xs i<vf sizes i)(hs:∀ i,i<n->vf sizes i<=360):Bd 9 xs:=λx hx=>by
 obtain⟨i,hi,rfl⟩:=List.mem_iff_getElem.mp hx
 have h1:=h i (by omega);have h2:=hs i (by omega)
 rw[aY hi] at h1
 omega
theorem yU{a b:Int}(h1:-1000<=a)(h2:a<=1000)(h3:-1000<=b)(h4:b<=1000):yE [.int a,.int b]=M.ok ((List.range (b-a).toNat).map λ(i:Nat)=>.int (a+(i:Int))):=by
 have h:-(2^62)<=a/\a<2^62/\-(2^62)<=b/\b<2^62:=by omega
 show cC (-(2^62)<=a/\a<2^62/\-(2^62)<=b/\b<2^62) _=_
 rw[ay h]
variable{A:Nat->eB}{k:Nat}
section
variable{rows:List Row}{left:Row}
theorem St.Ap(h:St n m sizes A k rows){d:Nat}(hd:d<n):Bd 9 (row rows d).1:=rm (h.wf.pI hd) (λi hi=>h.gd.ki d hd i hi) h.sm
theorem zj(h:St n m sizes A k rows):∀ s∈sizes,0<s:=λs hs=>by
 obtain⟨i,hi,rfl⟩:=List.mem_iff_getElem.mp hs
 have:=h.gd.sp i (by rw[← h.hs];exact hi)
 rwa [aY hi] at this
theorem A7(h:St n m sizes A k rows)(L:Lv n m sizes A k left)(hn:n<=6)(hm:m<=8):iO [tI sizes,.lst (rows.map mk),mk left]=M.ok (.tup [.lst ((cu cf sizes rows left n).map mk),tI (aA cf sizes rows left n).2]):=by
 have rl:=h.wf.len
 have hkm:=L.km
 unfold iO iV
 dsimp? [eU,sj]
 refine eP rows.zipIdx (λzs env=>∃ d x4 x5 x6 x7 x8,d<=n/\rows.zipIdx.drop d=zs/\env=[some (.sh (tI sizes)),some (.sh (.lst (rows.map mk))),some (.sh (mk (aA cf sizes rows left d))),some (.ow ((cu cf sizes rows left d).map mk)),x4,x5,x6,x7,x8]) ⟨0,none,none,none,none,none,Nat.zero_le _,rfl,rfl⟩ ?_ ?_
 ·rintro⟨a,i⟩ zs env ⟨d,x4,x5,x6,x7,x8,hd,NS,rfl⟩
  obtain⟨h1,h2,h3⟩:=drop_cons NS
  rw[List.length_zipIdx,rl] at h1
  have h4:a=row rows d/\i=d:=by
   rw[List.getElem?_zipIdx] at h2
   rw[iF (by rw[rl];exact h1)]
   rw[List.getElem?_eq_getElem (by rw[rl];exact h1)] at h2
   simp at h2
   exact⟨h2.1.symm,h2.2.symm⟩
  obtain⟨rfl,rfl⟩:=h4
  have ll:=cO (c:=cf) h.wf h.hs L.l1 L.l2 i (by omega)
  have lk:=jZ (c:=cf) h L i (by omega)
  have lb:=mY (c:=cf) h L hn i (by omega)
  have st:=h.gd.pos h1
  have sm:=h.sm i h1
  have nt:=lk i h1
  have e1:=h.wf.pI h1;have e2:=h.wf.at2 h1
  generalize Mv:br (vf sizes) (DD rows) i=MY at *
  generalize hnt:vf (aA cf sizes rows left i).1 i=nt' at *
  obtain⟨c1,c2,c3,c4⟩:=ED MY nt' (by omega) (by omega)
  have cb:=zu MY nt' st.1 (by omega) nt.1 (by omega)
  have gp:=fR (b:=nt') st.1
  have gl:(Int.gcd MY nt':Int)<=MY:=Int.le_of_dvd st.1 (Int.gcd_dvd_left ..)
  have a1:=jv (b:=nt') st.1 (by omega)
  have a2:=k8 (b:=nt') st.1 nt.1 (by omega)
  have B1:Bd 1300 (row rows i).1:=(St.Ap h h1).mono (by omega)
  have B2:Bd 1300 (row rows i).2:=(h.bd i h1).mono (by omega)
  have B3:Bd 1300 (aA cf sizes rows left i).1:=(rm ll.1 lk h.sm).mono (by omega)
  have B4:Bd 1300 (aA cf sizes rows left i).2:=lb.mono (by omega)
  have w1:=vI (A:=20) (sizes:=sizes) (zj h) B1 B2 B3 B4 cb.2.1 cb.2.2 (by decide) (by decide) (by omega) (by omega)
  have w2:=vI (A:=20) (sizes:=sizes) (a:=MY/(Int.gcd MY nt':Nat)) (b:=-(nt'/(Int.gcd MY nt':Nat))) (zj h) B3 B4 B1 B2 (by omega) (by omega) (by decide) (by decide) (by omega) (by omega)
  have ew:du cf sizes rows left i=pe sizes (row rows i) (cf MY nt').1 (aA cf sizes rows left i) (cf MY nt').2:=by
   simp only[du,Mv,hnt]
  have el:aA cf sizes rows left (i+1)=pe sizes (aA cf sizes rows left i) (MY/(Int.gcd MY nt':Nat)) (row rows i) (-(nt'/(Int.gcd MY nt':Nat))):=by
   simp only[aA,Mv,hnt]
  refine⟨_,[some (.sh (tI sizes)),some (.sh (.lst (rows.map mk))),some (.sh (mk (aA cf sizes rows left (i+1)))),some (.ow ((cu cf sizes rows left (i+1)).map mk)),some (.sh (.int i)),some (.sh (mk (row rows i))),some (.sh (.int MY)),some (.sh (.int nt')),some (.sh (.tup [.int (Int.gcd MY nt'),.int (cf MY nt').1,.int (cf MY nt').2]))],rfl,?_,i+1,_,_,_,_,_,by omega,h3,rfl⟩
  have sok:=wb h.wf h.hs h1
  rw[Mv] at sok
  have nok:=l5 (xs:=(aA cf sizes rows left i).1) (i:=i) (by omega)
  rw[hnt] at nok
  dsimp? [sok,uh,nok,c1]
  rw[wc (i:=3) rfl (p:=mk (du cf sizes rows left i)) (by dsimp? [Ha,Fi,w1,ew]) (by simp[cu];omega)]
  dsimp? [uX,bF (i:=MY) gp (by omega),bF (i:=nt') gp (by omega),w2,el]
  rw[cu,cu,List.range_succ,List.map_append,List.map_append]
  rfl
 ·rintro env ⟨d,x4,x5,x6,x7,x8,hd,NS,rfl⟩
  have OW:d=n:=by
   have:=congrArg List.length NS
   rw[List.length_drop,List.length_zipIdx,rl] at this
   simp at this
   omega
  subst OW
  dsimp? [AM]
def a_(sizes:List Int)(rows:List Row)(r:Row)(f:Nat):Nat->Row
 | 0=>r
 | c+1 =>
  let l:=a_ sizes rows r f c
  pe sizes l 1 (row rows (f+c)) (-(vf l.1 (f+c)/br (vf sizes) (DD rows) (f+c)))
theorem iM(h:St n m sizes A k rows){r:Row}{f:Nat}(h1:r.1.length=n)(h2:r.2.length=m):∀ c,f+c<=n->(a_ sizes rows r f c).1.length=n/\(a_ sizes rows r f c).2.length=m
 | 0,_=>⟨h1,h2⟩
 | c+1,hc=>by
  obtain⟨i1,i2⟩:=iM h (f:=f) h1 h2 c (by omega)
  have e1:=h.wf.pI (d:=f+c) (by omega);have e2:=h.wf.at2 (d:=f+c) (by omega)
  have hs:=h.hs
  simp only[a_,pe]
  rw[hZ,bS,bS]
  exact⟨by omega,by omega⟩
theorem oI(h:St n m sizes A k rows){f:Nat}(h1:r.1.length=n)(h2:r.2.length=m)(h0:∀ i,i<n->0<=vf r.1 i/\vf r.1 i<vf sizes i):Dn n (vf sizes) (DD rows) f (λd=>vf (a_ sizes rows r f (d-f)).1) where
 w0:=λi hi=>by rw[Nat.sub_self];exact h0 i hi
 ws:=λd hf hd i hi=>by
  obtain⟨c,rfl⟩:∃ c,d=f+c:=⟨d-f,by omega⟩
  obtain⟨i1,i2⟩:=iM h (f:=f) h1 h2 c (by omega)
  have e1:=h.wf.pI (d:=f+c) (by omega)
  have hs:=h.hs
  show vf (a_ sizes rows r f (f+c+1-f)).1 i=_
  rw[show f+c+1-f=c+1 by omega,show f+c-f=c by omega]
  simp only[a_,pe]
  rw[i8 (by rw[bS];omega) (by omega),eJ (by omega) (by omega)]
  rfl
theorem sy(h:St n m sizes A k rows){r:Row}{f:Nat}(h1:r.1.length=n)(h2:r.2.length=m){P₀:eB}{B:eB}(hl:Led n (vf sizes) m A (λi=>vf r.1 i-B i) (λl=>vf r.2 l-P₀ l)):∀ c,f+c<=n->Led n (vf sizes) m A (λi=>vf (a_ sizes rows r f c).1 i-B i) (λl=>vf (a_ sizes rows r f c).2 l-P₀ l)
 | 0,_=>hl
 | c+1,hc=>by
  obtain⟨i1,i2⟩:=iM h (f:=f) h1 h2 c (by omega)
  have e1:=h.wf.pI (d:=f+c) (by omega);have e2:=h.wf.at2 (d:=f+c) (by omega)
  have hs:=h.hs
  refine Led.mix (a:=1) (b:=-(vf (a_ sizes rows r f c).1 (f+c)/br (vf sizes) (DD rows) (f+c))) (sy h (f:=f) h1 h2 hl c (by omega)) (h.led (f+c) (by omega)) (λi hi=>?_) λl hl=>?_
  ·simp only[a_,pe]
   rw[i8 (by rw[bS];omega) (by omega),eJ (by omega) (by omega)]
   obtain⟨z,hz⟩:=fz (1*vf (a_ sizes rows r f c).1 i+-(vf (a_ sizes rows r f c).1 (f+c)/br (vf sizes) (DD rows) (f+c))*vf (row rows (f+c)).1 i) (vf sizes i)
   refine⟨z,?_⟩
   rw[← hz]
   unfold DD
   grind
  ·simp only[a_,pe]
   rw[eJ (by omega) (by omega)]
   unfold PP
   grind
theorem rA(h:St n m sizes A k rows){r:Row}{f B:Nat}(h1:r.1.length=n)(h2:r.2.length=m)(h0:∀ i,i<n->0<=vf r.1 i/\vf r.1 i<vf sizes i)(hB:150*k+1<=B)(hb:Bd B r.2):∀ c,f+c<=n->Bd (B+11*c) (a_ sizes rows r f c).2
 | 0,_=>hb
 | c+1,hc=>by
  have k0:=(oI h (f:=f) h1 h2 h0).kept h.gd (f+c) (by omega) (by omega) (f+c) (by omega)
  rw[show f+c-f=c by omega] at k0
  have sm:=h.sm (f+c) (by omega)
  have p:=h.gd.pos (d:=f+c) (by omega)
  have q:=Int.ediv_le_self (br (vf sizes) (DD rows) (f+c)) k0.1
  have q0:=Int.ediv_nonneg k0.1 (Int.le_of_lt p.1)
  have:=Bd.mix (A:=10) (rA h (f:=f) h1 h2 h0 hB hb c (by omega)) ((h.bd (f+c) (by omega)).mono (show 150*k+1<=B+11*c by omega)) (a:=1) (b:=-(vf (a_ sizes rows r f c).1 (f+c)/br (vf sizes) (DD rows) (f+c))) (by decide) (by omega)
  exact this.mono (by omega)
theorem ny(h:St n m sizes A k rows){f B:Nat}(hn:n<=6)(hm:m<=8)(h1:r.1.length=n)(h2:r.2.length=m)(h0:∀ i,i<n->0<=vf r.1 i/\vf r.1 i<vf sizes i)(hB:150*k+1<=B)(hB2:B<=8000)(hb:Bd B r.2)(hf:f<=n):eN [tI sizes,.lst (rows.map mk),mk r,.int (f:Int)]=M.ok (mk (a_ sizes rows r f (n-f))):=by
 have hs:=h.hs
 have rl:=h.wf.len
 unfold eN hV
 have ki:yE [.int (f:Int),.int (sizes.length:Int)]=M.ok ((List.range (n-f)).map λ(i:Nat)=>.int ((f+i:Nat):Int)):=by
  rw[yU (by omega) (by omega) (by omega) (by omega),hs,show ((n:Int)-(f:Int)).toNat=n-f by omega]
  simp
 dsimp? [ki]
 refine eP (List.range (n-f)) (λzs env=>∃ c x4 x5,c<=n-f/\(List.range (n-f)).drop c=zs/\env=[some (.sh (tI sizes)),some (.sh (.lst (rows.map mk))),some (.sh (mk (a_ sizes rows r f c))),some (.sh (.int (f:Int))),x4,x5]) ⟨0,none,none,Nat.zero_le _,rfl,rfl⟩ ?_ ?_
 ·rintro i zs env ⟨c,x4,x5,hc,NS,rfl⟩
  obtain⟨c1,c2,c3⟩:=drop_cons NS
  rw[List.length_range] at c1
  obtain rfl:i=c:=by
   rw[List.getElem?_range c1] at c2;exact(Option.some.inj c2).symm
  have OX:f+i<n:=by omega
  have ll:=iM h (f:=f) h1 h2 i (by omega)
  have lk:=(oI h (f:=f) h1 h2 h0).kept h.gd (f+i) (by omega) (by omega)
  rw[show f+i-f=i by omega] at lk
  have k0:=lk (f+i) OX
  have sm:=h.sm (f+i) OX
  have p:=h.gd.pos OX
  have e1:=h.wf.pI OX;have e2:=h.wf.at2 OX
  have B1:Bd 8200 (row rows (f+i)).1:=(St.Ap h OX).mono (by omega)
  have B2:Bd 8200 (row rows (f+i)).2:=(h.bd _ OX).mono (by omega)
  have B3:Bd 8200 (a_ sizes rows r f i).1:=(rm ll.1 lk h.sm).mono (by omega)
  have B4:Bd 8200 (a_ sizes rows r f i).2:=(rA h (f:=f) h1 h2 h0 hB hb i (by omega)).mono (by omega)
  have q:=Int.ediv_le_self (br (vf sizes) (DD rows) (f+i)) k0.1
  have q0:=Int.ediv_nonneg k0.1 (Int.le_of_lt p.1)
  have w:=vI (A:=20) (sizes:=sizes) (a:=1) (b:=-(vf (a_ sizes rows r f i).1 (f+i)/br (vf sizes) (DD rows) (f+i))) (zj h) B3 B4 B1 B2 (by decide) (by omega) (by decide) (by decide) (by omega) (by omega)
  refine⟨_,[some (.sh (tI sizes)),some (.sh (.lst (rows.map mk))),some (.sh (mk (a_ sizes rows r f (i+1)))),some (.sh (.int (f:Int))),some (.sh (.int ((f+i:Nat):Int))),some (.sh (.int (vf (a_ sizes rows r f i).1 (f+i)/br (vf sizes) (DD rows) (f+i))))],rfl,?_,i+1,_,_,by omega,c3,rfl⟩
  dsimp? [uh,l5 (xs:=(a_ sizes rows r f i).1) (i:=f+i) (by omega),wb h.wf h.hs OX,bF (i:=vf (a_ sizes rows r f i).1 (f+i)) p.1 (by omega),tQ (rows:=rows) (d:=f+i) (by omega),w]
  rfl
 ·rintro env ⟨c,x4,x5,hc,NS,rfl⟩
  have:c=n-f:=by
   have:=congrArg List.length NS
   rw[List.length_drop,List.length_range] at this
   simp at this
   omega
  subst this
  dsimp? []
end
theorem B0(m k:Nat)(hm:m<=1000):iG [.int (m:Int),.int (k:Int)]=M.ok (tI (mC m k)):=by
 have key:cj (cB 0) none (xg (eW (ak pd (af 0) (af 1))) (λ_=>M.ok (.int 1)) (λ_=>M.ok (.int 0))) ((List.range m).map λ(i:Nat)=>.int (i:Int)) [none,some (.sh (.int (k:Int)))]=M.ok ((List.range m).map λ(i:Nat)=>.int (if i=k then 1 else 0)):=by
  refine jD (inj:=λ(i:Nat)=>PV.int (i:Int)) (List.range m) λi hi=>?_
  dsimp? []
  by_cases z:i=k
  ·subst z;simp only[decide_true,if_true]
  ·have z':¬ (i:Int)=(k:Int):=by omega
   simp only[z,z',decide_false,Bool.false_eq_true,if_false]
 unfold iG ja
 dsimp? [iB (n:=(m:Int)) (by omega) (by omega),Int.toNat_natCast,List.length_map,List.length_range,ay (aX hm),key]
 rw[tI,mC,List.map_map];rfl
theorem qA{n:Int}(h:0<=n):Builtin.Range.rangeSize (n-1) (-1) (-1)=n:=by
 unfold Builtin.Range.rangeSize
 rw[if_neg (by decide)]
 split
 ·rw[show -(-1:Int)=1 from rfl,Int.ediv_one];omega
 ·omega
theorem D4{n:Int}(h:0<=n)(h2:n<=1000):C3 (n-1) (-1) (-1)=true:=by
 unfold C3 Builtin.Range.small
 have f:∀ x:Int,-(2^40)<x->x<2^40->Builtin.Range.rangeFitsLong x=true:=λx h1 h2=>by
  unfold Builtin.Range.rangeFitsLong
  simp only[Bool.and_eq_true,decide_eq_true_eq]
  omega
 simp only[qA h,f (n-1) (by omega) (by omega),f (-1) (by decide) (by decide),f n (by omega) (by omega),f (n-1+n*-1) (by omega) (by omega),Bool.and_true,Bool.true_and,Bool.and_self,Bool.and_eq_true,decide_eq_true_eq]
 refine⟨by decide,?_⟩
 rw[if_neg (by decide),f (-1+(-1+1)) (by decide) (by decide),Bool.or_true]
theorem BE(k:Nat)(hk:k<=1000):Ba [.int ((k:Int)-1),.int (-1),.int (-1)]=M.ok ((List.range k).map λ(i:Nat)=>.int ((k:Int)-1+(i:Int)*-1)):=by
 show cC (C3 ((k:Int)-1) (-1) (-1)=true) _=_
 rw[ay (D4 (by omega) (by omega)),qA (by omega),Int.toNat_natCast]
variable{j:Nat}{idle:List (List Int)}
theorem Cc(h:j<idle.length):aV (.lst (idle.map tI)) (.int (j:Int))=M.ok (tI (idle.getD j [])) :=
 bB (p:=.lst (idle.map tI)) rfl (by rw[List.getElem?_map,List.getElem?_eq_getElem h,List.getD_eq_getElem?_getD,List.getElem?_eq_getElem h];rfl)
theorem t_{B:Nat}{s:eB}{P:List Int}(h:yv n m s A k idle)(hP:P.length=m)(hm:m<=8)(hk:k<=m)(hB:60<=B)(hB2:B<=8000)(hb:Bd B P):gv [tI P,.lst (idle.map tI)]=M.ok (tI (aP idle k P k)):=by
 have il:=h.len
 unfold gv gq
 dsimp? [List.length_map,il,BE k (by omega)]
 refine eP (List.range k) (λzs env=>∃ c x2 x3,c<=k/\(List.range k).drop c=zs/\env=[some (.sh (tI (aP idle k P c))),some (.sh (.lst (idle.map tI))),x2,x3]) ⟨0,none,none,Nat.zero_le _,rfl,rfl⟩ ?_ ?_
 ·rintro i zs env ⟨c,x2,x3,hc,NS,rfl⟩
  obtain⟨c1,c2,c3⟩:=drop_cons NS
  rw[List.length_range] at c1
  obtain rfl:i=c:=by
   rw[List.getElem?_range c1] at c2;exact(Option.some.inj c2).symm
  have hj:k-1-i<k:=by omega
  have ej:(k:Int)-1+(i:Int)*-1=((k-1-i:Nat):Int):=by omega
  have sl:=span_len h hP i (by omega)
  have rl:=h.l2 (k-1-i) hj
  have p:=h.pos (k-1-i) hj
  have pl60:=h.le (k-1-i) hj
  have zb:=wq h hP hk hB hb i (by omega)
  have B1:Bd 8600 (aP idle k P i):=zb.mono (by omega)
  have B2:Bd 8600 (idle.getD (k-1-i) []):=(h.bd hj hk).mono (by omega)
  have q:(-(vf (aP idle k P i) (k-1-i)/vf (idle.getD (k-1-i) []) (k-1-i))).natAbs<2^8600:=by
   rw[Int.natAbs_neg]
   exact Nat.lt_of_le_of_lt (Int.natAbs_ediv_le_natAbs ..) (B1.vf _)
  have w:=oH (A:=8600) (tI (aP idle k P i)) (tI (idle.getD (k-1-i) [])) (aP idle k P i) (idle.getD (k-1-i) []) 1 (-(vf (aP idle k P i) (k-1-i)/vf (idle.getD (k-1-i) []) (k-1-i))) rfl rfl B1 B2 (Nat.one_lt_two_pow (by decide)) q (by decide) (by decide) (by omega)
  refine⟨_,[some (.sh (tI (aP idle k P (i+1)))),some (.sh (.lst (idle.map tI))),some (.sh (.int ((k-1-i:Nat):Int))),some (.sh (tI (idle.getD (k-1-i) [])))],rfl,?_,i+1,_,_,by omega,c3,rfl⟩
  rw[ej]
  dsimp? [Cc (idle:=idle) (j:=k-1-i) (by omega),l5 (xs:=aP idle k P i) (i:=k-1-i) (by omega),l5 (xs:=idle.getD (k-1-i) []) (i:=k-1-i) (by omega),bF (i:=vf (aP idle k P i) (k-1-i)) (j:=vf (idle.getD (k-1-i) []) (k-1-i)) p (by show II idle (k-1-i) (k-1-i)<2^64;omega),w]
  rfl
 ·rintro env ⟨c,x2,x3,hc,NS,rfl⟩
  have:c=k:=by
   have:=congrArg List.length NS
   rw[List.length_drop,List.length_range] at this
   simp at this
   omega
  subst this
  dsimp? []
variable{Ls:List (List Int)}
theorem j0(h:sizes.length<=6):gy [dM sizes Ls]=M.ok (tI (List.replicate sizes.length 0)):=by
 unfold gy iq
 dsimp? [nr (sizes:=sizes) (levers:=Ls) (g:=af 0) (env:=[some (.sh (dM sizes Ls))]) rfl,mul_one (.int 0) sizes.length (by omega)]
 rw[tI,List.map_replicate]
theorem my(hm:Ls.length<=8)(xs:List Int):eS [dM sizes Ls,tI xs]=M.ok (mk (xs,List.replicate Ls.length 0)):=by
 unfold eS gj
 dsimp? [oO (sizes:=sizes) (levers:=Ls) (g:=af 0) (env:=[some (.sh (dM sizes Ls)),some (.sh (tI xs))]) rfl,List.length_map,mul_one (.int 0) Ls.length (by omega)]
 rw[mk,tI,tI,List.map_replicate]
theorem C5(hm:Ls.length<=8)(hk:k<Ls.length):fe [dM sizes Ls,.int (k:Int)]=M.ok (mk (bN Ls Ls.length k)):=by
 have e:aV (.tup (Ls.map tI)) (.int (k:Int))=M.ok (tI (Ls.getD k [])):=bB (p:=.tup (Ls.map tI)) rfl (by rw[List.getElem?_map,List.getElem?_eq_getElem hk,List.getD_eq_getElem?_getD,List.getElem?_eq_getElem hk];rfl)
 unfold fe fb
 dsimp? [oO (sizes:=sizes) (levers:=Ls) (g:=af 0) (env:=[some (.sh (dM sizes Ls)),some (.sh (.int (k:Int))),none]) rfl,List.length_map,e,B0 Ls.length k (by omega)]
 rfl
theorem zY:∀ xs:List Int,nO (tI xs)=true:=by
 intro xs
 have:∀ ys:List Int,l8 (ys.map PV.int)=true:=by
  intro ys
  induction ys with
  | nil=>rfl
  | cons a r ih=>simp[l8,nO,ih]
 exact this xs
theorem HZ(x y:PV):aV (.tup [x,y]) (.int 0)=M.ok x:=bB (j:=0) rfl rfl
theorem IH(x y:PV):aV (.tup [x,y]) (.int 1)=M.ok y:=bB (j:=1) rfl rfl
def lM(sizes:List Int)(rows:List Row)(n:Nat):List Row:=(List.range n).map λd=>a_ sizes rows (row rows d) (d+1) (n-(d+1))
def uk(V:PV)(rows:List Row)(idle:List (List Int)):List (Str×PV):=[("vault", V),("made_rows", .lst (rows.map mk)),("idle_rows", .lst (idle.map tI))]
theorem zo(hn1:1<=sizes.length)(hn:sizes.length<=6)(hm:Ls.length<=8)(hp:∀ i,i<sizes.length->0<vf sizes i/\vf sizes i<=360)(LL:IJ sizes.length Ls.length sizes Ls) :
  jz aJ gU [] [dM sizes Ls]=M.ok (.obj aJ (uk (dM sizes Ls) (lM sizes (RK cf sizes Ls sizes.length Ls.length Ls.length).1 sizes.length) (RK cf sizes Ls sizes.length Ls.length Ls.length).2)):=by
 have all:=λk hk=>zB.all (c:=cf) rfl hp LL zu hn k hk
 have key:∀ a,gU a ([dM sizes Ls]++[])=M.ok (uk (dM sizes Ls) (lM sizes (RK cf sizes Ls sizes.length Ls.length Ls.length).1 sizes.length) (RK cf sizes Ls sizes.length Ls.length Ls.length).2):=by
  intro a
  have e1:cj (cB 0) none (aj eS (aa (af 1) (aa (aj gy (aa (af 1) aq)) aq))) (sizes.map PV.int) [none,some (.sh (dM sizes Ls))]=M.ok ((List.replicate sizes.length ((List.replicate sizes.length (0:Int)),(List.replicate Ls.length (0:Int)))).map mk):=by
   rw[jD (h:=λ_=>mk (List.replicate sizes.length 0,List.replicate Ls.length 0)) sizes λx _=>by dsimp? [j0 (Ls:=Ls) hn,my (sizes:=sizes) hm (List.replicate sizes.length 0)]]
   congr 1
   rw[List.map_const',List.map_replicate]
  have e2:cj (cA 0 1) none (aj eN (aa (af 2) (aa (af 3) (aa (af 1) (aa (ak cP (af 0) (λ_=>M.ok (.int 1))) aq))))) ((RK cf sizes Ls sizes.length Ls.length Ls.length).1.zipIdx.map λz=>.tup [.int (z.2:Int),mk z.1]) [none,none,some (.sh (tI sizes)),some (.sh (.lst ((RK cf sizes Ls sizes.length Ls.length Ls.length).1.map mk)))]=M.ok ((lM sizes (RK cf sizes Ls sizes.length Ls.length Ls.length).1 sizes.length).map mk):=by
   have I:=all Ls.length (Nat.le_refl _)
   generalize RK cf sizes Ls sizes.length Ls.length Ls.length=rk at *
   have rl:=I.st.wf.len
   rw[kN (p:=λz:Row×Nat=>PV.int (z.2:Int)) (q:=λz:Row×Nat=>mk z.1) (h:=λz:Row×Nat=>mk (a_ sizes rk.1 z.1 (z.2+1) (sizes.length-(z.2+1)))) rk.1.zipIdx λz hz=>?_]
   ·congr 1
    rw[lM,List.map_map]
    refine List.ext_getElem (by simp[rl]) λi h1 h2=>?_
    have hi:i<rk.1.length:=by simpa using h1
    simp[iF hi]
   ·obtain⟨i,hi,e⟩:=List.mem_iff_getElem.mp hz
    rw[List.length_zipIdx] at hi
    rw[List.getElem_zipIdx] at e
    have ez:z=(row rk.1 i,i):=by rw[← e,iF hi];simp
    subst ez
    have hin:i<sizes.length:=by omega
    have:=ny (f:=i+1) (B:=150*Ls.length+1) I.st hn hm (I.st.wf.pI hin) (I.st.wf.at2 hin) (λj hj=>I.st.gd.ki i hin j hj) (Nat.le_refl _) (by omega) (I.st.bd i hin) (by omega)
    rw[show ((i+1:Nat):Int)=(i:Int)+1 by omega] at this
    dsimp? [this]
  have zl:sizes.length<=sizeLine:=aX (by omega)
  have I:=all Ls.length (Nat.le_refl _)
  have rl:=I.st.wf.len
  unfold gU i6
  simp only[qJ]
  rw[ay (show ([dM sizes Ls]++([]:List PV)).length+1=2 from rfl)]
  simp only[w5,xi]
  dsimp? [nr (sizes:=sizes) (levers:=Ls) (g:=af 1) (env:=[some (.bd a aJ []),some (.sh (dM sizes Ls)),none,none,none,none,none]) rfl,List.length_map,ay zl,e1,eU,oO (sizes:=sizes) (levers:=Ls) (g:=af 1) (env:=[some (.bd a aJ []),some (.sh (dM sizes Ls)),some (.sh (tI sizes)),some (.sh (.lst ((List.replicate sizes.length ((List.replicate sizes.length (0:Int)),(List.replicate Ls.length (0:Int)))).map mk))),some (.ow []),none,none]) rfl,iB (n:=(Ls.length:Int)) (by omega) (by omega),Int.toNat_natCast]
  refine eP (List.range Ls.length) (λzs env=>∃ k x5 x6,k<=Ls.length/\(List.range Ls.length).drop k=zs/\env=[some (.bd a aJ []),some (.sh (dM sizes Ls)),some (.sh (tI sizes)),some (.sh (.lst ((RK cf sizes Ls sizes.length Ls.length k).1.map mk))),some (.ow ((RK cf sizes Ls sizes.length Ls.length k).2.map tI)),x5,x6]) ⟨0,none,none,Nat.zero_le _,rfl,rfl⟩ ?_ ?_
  ·rintro i zs env ⟨k,x5,x6,hk,NS,rfl⟩
   obtain⟨c1,c2,c3⟩:=drop_cons NS
   rw[List.length_range] at c1
   obtain rfl:i=k:=by
    rw[List.getElem?_range c1] at c2;exact(Option.some.inj c2).symm
   have J:=all i hk
   have L:Lv sizes.length Ls.length sizes (AA Ls) i (bN Ls Ls.length i):=⟨LL.at_ i c1,by simp[bN,mC],c1,λj hj=>rfl,LL.ki i c1,λl hl=>sO hl⟩
   have tk:=A7 J.st L hn hm
   have ll:=cO (c:=cf) J.st.wf J.st.hs L.l1 L.l2 sizes.length (Nat.le_refl _)
   have lb:=mY (c:=cf) J.st L hn sizes.length (Nat.le_refl _)
   have sp:=t_ (B:=1400) J.qc ll.2 hm (by omega) (by decide) (by decide) (lb.mono (by omega))
   have il:=J.qc.len
   refine⟨_,[some (.bd a aJ []),some (.sh (dM sizes Ls)),some (.sh (tI sizes)),some (.sh (.lst ((RK cf sizes Ls sizes.length Ls.length (i+1)).1.map mk))),some (.ow ((RK cf sizes Ls sizes.length Ls.length (i+1)).2.map tI)),some (.sh (.int (i:Int))),some (.sh (.tup [.lst ((cu cf sizes (RK cf sizes Ls sizes.length Ls.length i).1 (bN Ls Ls.length i) sizes.length).map mk),tI (aA cf sizes (RK cf sizes Ls sizes.length Ls.length i).1 (bN Ls Ls.length i) sizes.length).2]))],rfl,?_,i+1,_,_,by omega,c3,rfl⟩
   dsimp? [C5 (sizes:=sizes) hm c1,tk,HZ]
   rw[wc (i:=4) rfl (p:=tI (aP (RK cf sizes Ls sizes.length Ls.length i).2 i (aA cf sizes (RK cf sizes Ls sizes.length Ls.length i).1 (bN Ls Ls.length i) sizes.length).2 i)) (by
    dsimp? [lE,ownAt,IH,sp]
    exact ay (zY _)) (by simp[il];omega)]
   dsimp? [RK,List.map_append]
  ·rintro env ⟨k,x5,x6,hk,NS,rfl⟩
   have:k=Ls.length:=by
    have:=congrArg List.length NS
    rw[List.length_drop,List.length_range] at this
    simp at this
    omega
   subst this
   dsimp? [kK]
   rw[iI _ _ _ _ _ _ (by simp)]
   dsimp? [kK,sj,List.length_map,List.length_zipIdx,rl,ay zl,e2]
   rw[iI _ _ _ _ _ _ (Nat.lt_of_le_of_lt (jf (Nat.zero_le 0)) (by decide))]
   dsimp? [kK]
   rw[iI _ _ _ _ _ _ (Nat.lt_of_le_of_lt (jf (jf (Nat.zero_le 0))) (by decide))]
   dsimp? []
   show cC _ _=_
   rw[ay ⟨rfl,rfl⟩]
   rfl
 unfold jz
 rw[AU key];rfl
section
variable{rows:List Row}
theorem kU{d:Nat}(h:d<n):row (lM sizes rows n) d=a_ sizes rows (row rows d) (d+1) (n-(d+1)):=by
 rw[iF (by simp[lM,h])];simp[lM]
theorem Hn(h:St n m sizes A m rows)(hn:n<=6)(hA:∀ i,A m i=0):St n m sizes A (m+1) (lM sizes rows n):=by
 have hl:∀ d,d<n->(a_ sizes rows (row rows d) (d+1) (n-(d+1))).1.length=n/\(a_ sizes rows (row rows d) (d+1) (n-(d+1))).2.length=m:=λd hd=>iM h (h.wf.pI hd) (h.wf.at2 hd) _ (by omega)
 have lg:=uH (D':=DD (lM sizes rows n)) h.gd (λd e=>vf (a_ sizes rows (row rows d) (d+1) (e-(d+1))).1) (λd hd=>oI h (h.wf.pI hd) (h.wf.at2 hd) λi hi=>h.gd.ki d hd i hi) (λd hd i hi=>by
  show vf (a_ sizes rows (row rows d) (d+1) (d+1-(d+1))).1 i=_
  rw[Nat.sub_self];rfl) λd hd i hi=>by
  unfold DD;rw[kU hd]
 refine⟨⟨by simp[lM],λr hr=>?_,λr hr=>?_⟩,h.hs,h.sm,lg.1,λd hd=>?_,λd hd l h1 h2=>by omega,λd hd=>?_,λl hl=>?_⟩
 ·obtain⟨d,hd,rfl⟩:=List.mem_map.mp hr
  exact(hl d (List.mem_range.mp hd)).1
 ·obtain⟨d,hd,rfl⟩:=List.mem_map.mp hr
  exact(hl d (List.mem_range.mp hd)).2
 ·unfold DD PP
  rw[kU hd]
  have:=sy h (f:=d+1) (h.wf.pI hd) (h.wf.at2 hd) (P₀:=λ_=>0) (B:=λ_=>0) (by
   have q:=h.led d hd
   intro i hi
   have:=q i hi
   simp only[Int.sub_zero];exact this) (n-(d+1)) (by omega)
  intro i hi
  have:=this i hi
  simp only[Int.sub_zero] at this
  exact this
 ·rw[kU hd]
  exact(rA h (f:=d+1) (h.wf.pI hd) (h.wf.at2 hd) (λi hi=>h.gd.ki d hd i hi) (Nat.le_refl _) (h.bd d hd) (n-(d+1)) (by omega)).mono (by omega)
 ·rcases Nat.lt_or_ge l m with q | q
  ·exact lg.2.2.2.2 n 0 (by omega) _ (h.cl l q)
  ·obtain rfl:l=m:=by omega
   exact G.ext (by omega) (λi _=>(hA i).symm) (G.zero (by omega))
end
def vN(sizes:List Int)(Ls:List (List Int))(R:List Row)(idle:List (List Int)):PV:=.obj aJ (uk (dM sizes Ls) R idle)
section
variable{R:List Row}
theorem JW:(uk (dM sizes Ls) R idle).lookup (Str.ofString "vault")=some (dM sizes Ls):=rfl
theorem JM:(uk (dM sizes Ls) R idle).lookup (Str.ofString "made_rows")=some (.lst (R.map mk)):=rfl
theorem Lf:(uk (dM sizes Ls) R idle).lookup (Str.ofString "idle_rows")=some (.lst (idle.map tI)):=rfl
theorem J6:(uk (dM sizes Ls) R idle).lookup (Str.ofString "brought_down")=none:=rfl
theorem Kh{g:ai->M PV}{env:ai}(h:g env=M.ok (vN sizes Ls R idle)):iJ (λc=>c==aJ) "vault" g env=M.ok (dM sizes Ls):=by
 rw[iJ,h,M.aS]
 show cC _ (eD (List.lookup _ _))=_
 rw[ay (beq_self_eq_true _),JW];rfl
theorem Md{g:ai->M PV}{env:ai}(h:g env=M.ok (vN sizes Ls R idle)):iJ (λc=>c==aJ) "made_rows" g env=M.ok (.lst (R.map mk)):=by
 rw[iJ,h,M.aS]
 show cC _ (eD (List.lookup _ _))=_
 rw[ay (beq_self_eq_true _),JM];rfl
theorem LQ{g:ai->M PV}{env:ai}(h:g env=M.ok (vN sizes Ls R idle)):iJ (λc=>c==aJ) "idle_rows" g env=M.ok (.lst (idle.map tI)):=by
 rw[iJ,h,M.aS]
 show cC _ (eD (List.lookup _ _))=_
 rw[ay (beq_self_eq_true _),Lf];rfl
theorem CT(S:Sz sizes)(hm:Ls.length<=8)(h:St sizes.length Ls.length sizes A k R)(hk:k<=9)(hx:HC sizes xs)(h0:∀ i,i<sizes.length->0<=vf xs i/\vf xs i<vf sizes i) :
  bL [vN sizes Ls R idle,tI xs]=M.ok (mk (a_ sizes R (xs,List.replicate Ls.length 0) 0 sizes.length)):=by
 have lo:=ny (f:=0) (B:=150*k+1) (r:=(xs,List.replicate Ls.length 0)) h S.h6 hm hx.len (by simp) h0 (Nat.le_refl _) (by omega) (λx hx=>by rw[List.eq_of_mem_replicate hx];exact Nat.two_pow_pos _) (Nat.zero_le _)
 rw[Nat.sub_zero] at lo
 unfold bL cp
 dsimp? [Kh (sizes:=sizes) (Ls:=Ls) (R:=R) (idle:=idle) (g:=af 0) (env:=[some (.sh (vN sizes Ls R idle)),some (.sh (tI xs))]) rfl,Md (sizes:=sizes) (Ls:=Ls) (R:=R) (idle:=idle) (g:=af 0) (env:=[some (.sh (vN sizes Ls R idle)),some (.sh (tI xs))]) rfl,r0 (levers:=Ls) S hx,my (sizes:=sizes) hm xs,nr (sizes:=sizes) (levers:=Ls) (g:=iJ (λc=>c==aJ) "vault" (af 0)) (env:=[some (.sh (vN sizes Ls R idle)),some (.sh (tI xs))]) (Kh (R:=R) (idle:=idle) rfl),show eN [tI sizes,.lst (R.map mk),mk (xs,List.replicate Ls.length 0),.int 0]=_ from lo]
end
def nL(xs:List Int):List Int:=xs.map λx=>-x
theorem Hq(xs:List Int)(i:Nat):vf (nL xs) i=-vf xs i:=by
 rcases Nat.lt_or_ge i xs.length with h | h
 ·rw[aY (by simpa [nL] using h),aY h];simp[nL]
 ·rw[ot (by simpa [nL] using h),ot h];rfl
theorem GJ{B:Nat}(h:Bd B xs):Bd B (nL xs):=λx hx=>by
 obtain⟨y,hy,rfl⟩:=List.mem_map.mp hx
 rw[Int.natAbs_neg];exact h y hy
section
variable{R:List Row}
def told(sizes:List Int)(Ls:List (List Int))(R:List Row)(idle:List (List Int))(xs:List Int):List Int:=aP idle Ls.length (nL (a_ sizes R (xs,List.replicate Ls.length 0) 0 sizes.length).2) Ls.length
theorem AB(S:Sz sizes)(hm:Ls.length<=8)(h:St sizes.length Ls.length sizes A k R)(hk:k<=9)(I:yv sizes.length Ls.length (vf sizes) A Ls.length idle)(hx:HC sizes xs)(h0:∀ i,i<sizes.length->0<=vf xs i/\vf xs i<vf sizes i)(hg:G sizes.length (vf sizes) (DD R) sizes.length 0 (vf xs)) :
  c_ [vN sizes Ls R idle,tI xs]=M.ok (tI (told sizes Ls R idle xs))/\(told sizes Ls R idle xs).length=Ls.length/\Led sizes.length (vf sizes) Ls.length A (vf xs) (vf (told sizes Ls R idle xs))/\∀ l,l<Ls.length->0<=vf (told sizes Ls R idle xs) l/\vf (told sizes Ls R idle xs) l<II idle l l:=by
 have l6:=S.h6
 have r2:(List.replicate Ls.length (0:Int)).length=Ls.length:=by simp
 have ll:=iM h (f:=0) (r:=(xs,List.replicate Ls.length 0)) hx.len r2 sizes.length (by omega)
 have dn:=oI h (f:=0) (r:=(xs,List.replicate Ls.length 0)) hx.len r2 h0
 have z:=dn.run h.gd sizes.length 0 (Nat.le_refl _) (by omega) (by rw[Nat.sub_self];exact hg)
 rw[Nat.sub_zero] at z
 have nz:(a_ sizes R (xs,List.replicate Ls.length 0) 0 sizes.length).1=List.replicate sizes.length 0:=u6 (by rw[ll.1];simp) λi hi=>by rw[z i (by omega),iZ]
 have b:=rA h (f:=0) (B:=150*k+1) (r:=(xs,List.replicate Ls.length 0)) hx.len r2 h0 (Nat.le_refl _) (λx hx=>by rw[List.eq_of_mem_replicate hx];exact Nat.two_pow_pos _) sizes.length (by omega)
 have nl:(nL (a_ sizes R (xs,List.replicate Ls.length 0) 0 sizes.length).2).length=Ls.length:=by rw[nL,List.length_map];exact ll.2
 have sp:=t_ (B:=1500) I nl hm (Nat.le_refl _) (by decide) (by decide) (GJ (b.mono (by omega)))
 have led:=sy h (f:=0) (r:=(xs,List.replicate Ls.length 0)) hx.len r2 (P₀:=λ_=>0) (B:=vf xs) (by
  intro i hi
  rw[fm (g:=λ_=>0) λl hl=>by
   show (vf (List.replicate Ls.length 0) l-0)*A l i=0
   rw[iZ];simp,gf]
  show vf sizes i∣vf xs i-vf xs i-0
  rw[Int.sub_self];exact Int.dvd_zero _) sizes.length (by omega)
 have OO:Led sizes.length (vf sizes) Ls.length A (vf xs) (vf (nL (a_ sizes R (xs,List.replicate Ls.length 0) 0 sizes.length).2)):=by
  refine Led.mix (a:=-1) (b:=0) led led (λi hi=>?_) λl hl=>?_
  ·rw[z i hi]
   exact⟨0,by omega⟩
  ·rw[Hq];omega
 refine⟨?_,span_len I nl _ (Nat.le_refl _),n5 I nl OO _ (Nat.le_refl _),λl hl=>qI I nl (Nat.le_refl _) _ (Nat.le_refl _) l (by omega) hl⟩
 have dk:=CT (idle:=idle) S hm h hk hx h0
 have md:∀ y,cN aJ "brought_down" bL (af 0) (aa (af 1) aq) [some (.sh (vN sizes Ls R idle)),some (.sh (tI xs)),y]=M.ok (mk (a_ sizes R (xs,List.replicate Ls.length 0) 0 sizes.length)):=λy=>by
  show M.bind (M.ok (vN sizes Ls R idle)) _=_
  rw[M.aS]
  show cC _ (M.bind (M.ok [tI xs]) _)=_
  rw[ay ⟨rfl,J6⟩,M.aS]
  exact dk
 have cm:cj (cB 0) none (kG (af 0)) ((a_ sizes R (xs,List.replicate Ls.length 0) 0 sizes.length).2.map PV.int) [none]=M.ok ((a_ sizes R (xs,List.replicate Ls.length 0) 0 sizes.length).2.map λx=>.int (-x)):=jD _ λx _=>by dsimp? []
 have lz:(a_ sizes R (xs,List.replicate Ls.length 0) 0 sizes.length).2.length<=sizeLine:=by rw[ll.2];exact aX (by omega)
 have en:PV.tup ((a_ sizes R (xs,List.replicate Ls.length 0) 0 sizes.length).2.map λx=>PV.int (-x))=tI (nL (a_ sizes R (xs,List.replicate Ls.length 0) 0 sizes.length).2):=by rw[tI,nL,List.map_map];rfl
 unfold c_ c9
 dsimp? [md,uh,AM,Kh (sizes:=sizes) (Ls:=Ls) (R:=R) (idle:=idle) (g:=af 0) (env:=[some (.sh (vN sizes Ls R idle)),some (.sh (tI xs)),some (.sh (mk (a_ sizes R (xs,List.replicate Ls.length 0) 0 sizes.length)))]) rfl,j0 (Ls:=Ls) l6,nz,AI,decide_true,LQ (sizes:=sizes) (Ls:=Ls) (R:=R) (idle:=idle) (g:=af 0) (env:=[some (.sh (vN sizes Ls R idle)),some (.sh (tI xs)),some (.sh (mk (a_ sizes R (xs,List.replicate Ls.length 0) 0 sizes.length)))]) rfl,List.length_map,ay lz,cm,en,sp]
 rfl
end
theorem Di(ns:List Int)(k:Nat):∃ c,bV [.jh (ns.map PV.int),.int (k:Int)]=M.ok (.int c):=by
 unfold bV fg
 by_cases h:k<ns.length
 ·refine⟨ns[k],?_⟩
  have h':(k:Int)<((ns.length:Nat):Int):=by omega
  have e:=bB (p:=.jh (ns.map PV.int)) (xs:=ns.map PV.int) (j:=k) (x:=.int ns[k]) rfl (by rw[List.getElem?_map,List.getElem?_eq_getElem h];rfl)
  dsimp? [List.length_map,h',decide_true,e]
 ·refine⟨0,?_⟩
  have h':¬ (k:Int)<((ns.length:Nat):Int):=by omega
  dsimp? [List.length_map,h',decide_false]
theorem A0(p:PV)(n:Nat)(h8:n<=1000):bZ (.lst [p]) (.int (n:Int))=M.ok (.lst (List.replicate n p)):=by
 have h2:[p].length*(n:Int).toNat<=sizeLine:=by
  rw[Int.toNat_natCast]
  exact aX (by show 1*n<=1000;omega)
 have h3:(n:Int)<2^63:=Int.lt_of_le_of_lt (Int.ofNat_le.mpr h8) (by decide)
 have h4:-(2^63)<=(n:Int):=Int.le_trans (by decide) (Int.natCast_nonneg n)
 rw[bZ,ay ⟨h4,h3,h2⟩,Int.toNat_natCast,ui]
theorem pick(l:List Int)(c:Int)(n:Nat)(hn:l.length=n)(h0:0<n):∃ x,x∈l/\aV (.lst (l.map PV.int)) (.int (c%(n:Int)))=M.ok (.int x):=by
 have h1:0<=c%(n:Int):=Int.emod_nonneg _ (by omega)
 have h2:c%(n:Int)<n:=Int.emod_lt_of_pos _ (by omega)
 obtain⟨j,hj⟩:=Int.eq_ofNat_of_zero_le h1
 have hj':j<l.length:=by omega
 refine⟨l[j],List.getElem_mem _,?_⟩
 rw[hj]
 exact bB (p:=.lst (l.map PV.int)) (j:=j) rfl (by rw[List.getElem?_map,List.getElem?_eq_getElem hj'];rfl)
theorem Gi(h:i<xs.length):aV (lI xs) (.int (i:Int))=M.ok (.int (vf xs i)) :=
 bB (p:=lI xs) rfl (by rw[List.getElem?_map,List.getElem?_eq_getElem h,aY h];rfl)
variable{l:Nat}{β:Type}
theorem getD_at(f:α->β){xs:List α}{a:α}{b:β}(h:l<xs.length):(xs.map f).getD l b=f (xs.getD l a):=by
 rw[List.getD_eq_getElem?_getD,List.getD_eq_getElem?_getD,List.getElem?_map,List.getElem?_eq_getElem h];rfl
theorem getD_mem{xs:List α}{a:α}(h:l<xs.length):xs.getD l a∈xs:=by
 rw[List.getD_eq_getElem?_getD,List.getElem?_eq_getElem h];exact List.getElem_mem h
theorem Bk{raw:List (List Int)}(S:Sz sizes)(hr:∀ l∈raw,l.length=sizes.length/\Bd 200 l):IJ sizes.length raw.length sizes (raw.map λl=>uD l sizes)/\∀ l,l<raw.length->∀ i,i<sizes.length->AA (raw.map λl=>uD l sizes) l i=vf (raw.getD l []) i%vf sizes i:=by
 have e:∀ l,l<raw.length->∀ i,i<sizes.length->AA (raw.map λl=>uD l sizes) l i=vf (raw.getD l []) i%vf sizes i:=λl hl i hi=>by
  unfold AA
  rw[getD_at (a:=[]) _ hl,rN,i8 (by rw[(hr _ (getD_mem hl)).1];exact hi) hi]
 refine⟨⟨by simp,λl hl=>?_,λl hl i hi=>?_⟩,e⟩
 ·rw[getD_at (a:=[]) _ hl,rN,hZ,(hr _ (getD_mem hl)).1];omega
 ·rw[e l hl i hi]
  have:=S.hx _ (List.getElem_mem hi)
  rw[← aY hi] at this
  exact⟨Int.emod_nonneg _ (by omega),Int.emod_lt_of_pos _ (by omega)⟩
theorem nX(S:Sz sizes):∀ i,i<sizes.length->0<vf sizes i/\vf sizes i<=360:=λi hi=>by
 have:=S.hx _ (List.getElem_mem hi)
 rw[← aY hi] at this
 omega
theorem za(h:xs.length=sizes.length)(h0:∀ i,i<sizes.length->0<=vf xs i/\vf xs i<vf sizes i):HC sizes xs:=⟨h,λz hz=>by
 obtain⟨i,hi,rfl⟩:=List.mem_iff_getElem.mp hz
 rw[List.length_zip] at hi
 have:=h0 i (by omega)
 rw[aY (by omega),aY (by omega)] at this
 simpa using this⟩
def wR(ns:List Int)(a b:Nat):List Int:=(ns.drop (HT.dh ns.length 0 (some (a:Int)))).take (HT.dh ns.length ns.length (some (b:Int))-HT.dh ns.length 0 (some (a:Int)))
theorem Dh(ns:List Int)(a b:Nat):JA (.jh (ns.map PV.int)) (some (a:Int)) (some (b:Int))=M.ok (.lst ((wR ns a b).map PV.int)):=by
 show M.ok (PV.lst (pS (ns.map PV.int) _ _))=_
 rw[pS,wR,List.map_take,List.map_drop,List.length_map]
theorem vg(xs:List Int):(xs.map λ_=>PV.int 0)=(List.replicate xs.length 0).map PV.int:=by
 rw[List.map_replicate];simp[List.map_const']
theorem Fg(Ls:List (List Int))(i:Nat):AA Ls Ls.length i=0:=by
 unfold AA
 rw[List.getD_eq_getElem?_getD,List.getElem?_eq_none (Nat.le_refl _)]
 exact ot (Nat.zero_le _)
section
variable{R:List Row}
theorem IB{m:Str}{sem:List PV->M PV}{x:M (List PV)}(h:(uk (dM sizes Ls) R idle).lookup m=none):s_ aJ m sem (vN sizes Ls R idle) x=x.bind λps=>sem (vN sizes Ls R idle::ps):=lP h
theorem L5:s_ aC "sizes" bA (dM sizes Ls) (M.ok [])=M.ok (tI sizes):=(lP (fl:=rh sizes Ls) rfl).trans (tY sizes Ls)
def lst(sizes:List Int)(Ls:List (List Int))(R:List Row)(xs:List Int):List Int:=(a_ sizes R (xs,List.replicate Ls.length 0) 0 sizes.length).1
def rY(idle:List (List Int)):List Int:=idle.zipIdx.map λz=>vf z.1 z.2
theorem m7:(rY idle).length=idle.length:=by simp[rY]
theorem AN(h:i<idle.length):vf (rY idle) i=II idle i i:=by
 rw[aY (by rw[m7];exact h)]
 simp only[rY,List.getElem_map,List.getElem_zipIdx,Nat.zero_add]
 unfold II
 rw[List.getD_eq_getElem?_getD,List.getElem?_eq_getElem h];rfl
end
variable{v:eB}
section
variable{raw:List (List Int)}{R:List Row}
theorem Hl(S:Sz sizes):∀ s∈sizes,0<s:=λs hs=>by have:=S.hx s hs;omega
theorem jJ(S:Sz sizes):∀ i,i<sizes.length->0<=vf (List.replicate sizes.length 0) i/\vf (List.replicate sizes.length 0) i<vf sizes i:=λi hi=>by rw[iZ];have:=nX S i hi;omega
theorem wN{F F':List Int}(h:F.length=sizes.length)(h':F'.length=sizes.length)(k:∀ i,i<sizes.length->0<=vf F i/\vf F i<vf sizes i)(k':∀ i,i<sizes.length->0<=vf F' i/\vf F' i<vf sizes i)(d:∀ i,i<sizes.length->vf sizes i∣vf F i-vf F' i):F=F' :=
 u6 (h.trans h'.symm) λi hi=>by
  have:=k i (by omega);have:=k' i (by omega)
  have:=mf (d i (by omega)) (by omega) (by omega)
  omega
theorem Jg{P:eB}(h:St sizes.length Ls.length sizes (AA Ls) k R)(hk:Ls.length<=k)(led:Led sizes.length (vf sizes) Ls.length (AA Ls) v P):G sizes.length (vf sizes) (DD R) sizes.length 0 v:=by
 have g:=G.sum (A:=AA Ls) (P:=P) h.gd Ls.length λl hl=>h.cl l (by omega)
 exact h.gd.qL (by omega) (λi hi=>led i hi) g
theorem ET(I:yv sizes.length Ls.length (vf sizes) A Ls.length idle){T:List Int}(hT:T.length=Ls.length)(nf:∀ l,l<Ls.length->0<=vf T l/\vf T l<II idle l l):Bd 200 T:=λx hx=>by
 obtain⟨i,hi,rfl⟩:=List.mem_iff_getElem.mp hx
 have h2:=nf i (by omega)
 rw[aY hi] at h2
 have h3:=I.le i (by omega)
 omega
theorem vp(S:Sz sizes){F:List Int}(h:F.length=sizes.length)(k:∀ i,i<sizes.length->0<=vf F i/\vf F i<vf sizes i):Bd 200 F:=λx hx=>by
 obtain⟨i,hi,rfl⟩:=List.mem_iff_getElem.mp hx
 have h2:=k i (by omega)
 rw[aY hi] at h2
 have:=nX S i (by omega)
 omega
structure nK (ns:List Int) (sizes:List Int) (raw Ls:List (List Int)) (R:List Row) (idle:List (List Int)):Prop where
 S:Sz sizes
 hr:∀ l∈raw,l.length=sizes.length/\Bd 200 l
 eL:Ls=raw.map λl=>uD l sizes
 hm:raw.length=Ls.length
 m8:Ls.length<=8
 eA:∀ l,l<raw.length->∀ i,i<sizes.length->AA Ls l i=vf (raw.getD l []) i%vf sizes i
 LL:IJ sizes.length Ls.length sizes Ls
 st:St sizes.length Ls.length sizes (AA Ls) (Ls.length+1) R
 I:yv sizes.length Ls.length (vf sizes) (AA Ls) Ls.length idle
 pr:aE Ls.length (λj=>II idle j j)*aE sizes.length (br (vf sizes) (DD R))=aE sizes.length (vf sizes)
 ord:∀ j,j<Ls.length->∀ P:eB,Zf (j+1) Ls.length P->Led sizes.length (vf sizes) Ls.length (AA Ls) (λ_=>0) P->II idle j j∣P j
 low:∀ d,d<sizes.length->∀ e,d<e->e<sizes.length->DD R d e<br (vf sizes) (DD R) e
 nul:∀ d,d<sizes.length->DD R d d=0->∀ i,i<sizes.length->DD R d i=0
 Lk:∀ {p:PV} {f:List Int->PV},(f=tI\/f=lI)->bX p=some (sizes.map PV.int)->jz aC gL [.cL] [p,.lst (raw.map f)]=M.ok (dM sizes Ls)
 JG:jz aJ gU [] [dM sizes Ls]=M.ok (vN sizes Ls R idle)
theorem nK.get(ns:List Int)(S:Sz sizes){raw:List (List Int)}(r8:raw.length<=8)(hr:∀ l∈raw,l.length=sizes.length/\Bd 200 l):∃ Ls R idle,nK ns sizes raw Ls R idle:=by
 have l6:=S.h6
 have sp:=nX S
 obtain⟨LL,eA⟩:=Bk S hr
 have Lk:=λ{p:PV} {f:List Int->PV} (hf:f=tI\/f=lI) hp=>CG (p:=p) hf sizes raw hp S r8 λl h=>(hr l h).1
 have hm:raw.length=(raw.map λl=>uD l sizes).length:=by simp
 generalize hLs:(raw.map λl=>uD l sizes)=Ls at *
 rw[hm] at LL r8
 have K:=zB.all (c:=cf) rfl sp LL zu l6 Ls.length (Nat.le_refl _)
 have JG:=zo S.h1 l6 r8 sp LL
 generalize RK cf sizes Ls sizes.length Ls.length Ls.length=rk at *
 have h:=K.st
 have hl:∀ d,d<sizes.length->(a_ sizes rk.1 (row rk.1 d) (d+1) (sizes.length-(d+1))).1.length=sizes.length:=λd hd=>(iM h (h.wf.pI hd) (h.wf.at2 hd) _ (by omega)).1
 have lg:=uH (D':=DD (lM sizes rk.1 sizes.length)) h.gd (λd e=>vf (a_ sizes rk.1 (row rk.1 d) (d+1) (e-(d+1))).1) (λd hd=>oI h (h.wf.pI hd) (h.wf.at2 hd) λi hi=>h.gd.ki d hd i hi) (λd hd i hi=>by
  show vf (a_ sizes rk.1 (row rk.1 d) (d+1) (d+1-(d+1))).1 i=_
  rw[Nat.sub_self];rfl) (λd hd i hi=>by unfold DD;rw[kU hd])
 refine⟨Ls,lM sizes rk.1 sizes.length,rk.2,S,hr,hLs.symm,hm,r8,eA,LL,Hn K.st l6 (Fg Ls),K.qc,?_,K.ord,?_,?_,Lk,JG⟩
 ·rw[gg (f:=br (vf sizes) (DD (lM sizes rk.1 sizes.length))) (g:=br (vf sizes) (DD rk.1)) lg.2.1]
  exact K.pr
 ·intro d hd e h1 h2
  rw[lg.2.1 e h2]
  exact lg.2.2.1 d hd e h1 h2
 ·exact lg.2.2.2.1
end
theorem uB(xs:List Int):∀ m,m<=xs.length->(xs.take m).sum=dj m (vf xs)
 | 0,_=>by simp[dj]
 | m+1,h=>by
  rw[dj,← uB xs m (by omega),List.take_succ_eq_append_getElem (by omega),List.sum_append,aY (by omega)];simp
theorem zE(xs:List Int):xs.sum=dj xs.length (vf xs):=by
 rw[← uB xs _ (Nat.le_refl _),List.take_length]
variable{T:List Row}{ns:List Int}
section
variable{raw:List (List Int)}
theorem o_(x:Int):BL (M.ok (.int x))=M.ok (.int x):=Eq.trans rfl rfl
end
section
variable{raw:List (List Int)}
theorem KH:s_ aC "levers" bq (dM sizes Ls) (M.ok [])=M.ok (.tup (Ls.map tI)):=(lP (fl:=rh sizes Ls) rfl).trans (qy sizes Ls)
def ad(sizes xs ys:List Int)(t:Int):List Int:=uD ((xs.zip ys).map λz=>z.1+t*z.2) sizes
theorem zF{t:Int}(S:Sz sizes)(h1:xs.length=sizes.length)(h2:ys.length=sizes.length):(ad sizes xs ys t).length=sizes.length/\∀ i,i<sizes.length->vf (ad sizes xs ys t) i=(vf xs i+t*vf ys i)%vf sizes i:=by
 have hl:((xs.zip ys).map λz=>z.1+t*z.2).length=sizes.length:=by simp;omega
 refine⟨by rw[ad,rN,hZ,hl];simp,λi hi=>?_⟩
 rw[ad,rN,i8 (by rw[hl];exact hi) hi,aY (by rw[hl];exact hi),aY (xs:=xs) (by omega),aY (xs:=ys) (by omega)]
 simp
theorem xo{t:Int}(S:Sz sizes)(h1:xs.length=sizes.length)(hy:Bd 200 ys)(ht:t.natAbs<2^200):mV [dM sizes Ls,tI xs,tI ys,.int t]=M.ok (tI (ad sizes xs ys t)):=by
 have l6:=S.h6
 have k1:cj (cA 0 1) none (ak cP (af 0) (ak bZ (af 2) (af 1))) ((xs.zip ys).map λz=>.tup [.int z.1,.int z.2]) [none,none,some (.sh (.int t))]=M.ok ((xs.zip ys).map λz=>.int (z.1+t*z.2)):=by
  refine kN (p:=λz:Int×Int=>PV.int z.1) (q:=λz:Int×Int=>PV.int z.2) (xs.zip ys) λz hz=>?_
  dsimp? [bC (k:=200) (l:=200) ht (hy _ (v_ hz).2)]
 have z1:(xs.zip ys).length<=sizeLine:=by rw[List.length_zip];exact aX (Nat.le_trans (Nat.min_le_left _ _) (by omega))
 have e0:bX (.lst ((xs.zip ys).map λz=>PV.int (z.1+t*z.2)))=some (((xs.zip ys).map λz=>z.1+t*z.2).map PV.int):=by
  rw[tN,List.map_map];rfl
 have r:=oW (.lst ((xs.zip ys).map λz=>PV.int (z.1+t*z.2))) (tI sizes) _ sizes e0 rfl (Hl S) (by rw[List.length_map,List.length_zip];omega)
 unfold mV nh
 dsimp? [fw (p:=tI xs) (q:=tI ys) xs ys rfl rfl,List.length_map,ay z1,k1,iA,L5,r]
 rfl
end
section
variable{raw:List (List Int)}
def Kp(sizes xs:List Int):Prop:=xs.length=sizes.length/\∀ i,i<sizes.length->0<=vf xs i/\vf xs i<vf sizes i
theorem Kp.LD(h:Kp sizes xs):HC sizes xs:=za h.1 h.2
theorem EJ(S:Sz sizes){t:Int}(h1:xs.length=sizes.length)(h2:ys.length=sizes.length):Kp sizes (ad sizes xs ys t)/\∀ i,i<sizes.length->vf sizes i∣vf (ad sizes xs ys t) i-(vf xs i+t*vf ys i):=by
 obtain⟨a,b⟩:=zF (t:=t) S h1 h2
 refine⟨⟨a,λi hi=>?_⟩,λi hi=>?_⟩
 ·have:=nX S i hi
  rw[b i hi]
  exact⟨Int.emod_nonneg _ (by omega),Int.emod_lt_of_pos _ this.1⟩
 ·rw[b i hi]
  have:=Int.emod_def (vf xs i+t*vf ys i) (vf sizes i)
  exact⟨-((vf xs i+t*vf ys i)/vf sizes i),by rw[this];grind⟩
theorem vA{P:List Int}(hP:P.length=Ls.length)(m8:Ls.length<=8):bD [dM sizes Ls,tI P]=M.ok (.bl true):=by
 unfold bD cW
 dsimp? [iA,KH,List.length_map,uS P Ls.length (aX (by omega)),hP,decide_true]
theorem sY(Q:nK ns sizes raw Ls T idle){P:List Int}(hx:Kp sizes xs)(hP:P.length=Ls.length)(hb:Bd 200 P):iX (ig [dM sizes Ls,tI xs,tI P]) λp=>∃ F:List Int,p=tI F/\Kp sizes F/\Led sizes.length (vf sizes) Ls.length (AA Ls) (λi=>vf F i-vf xs i) (vf P):=by
 have S:=Q.S
 have m8:=Q.m8
 have np:de [dM sizes Ls,tI P]=M.ok .cL:=by
  unfold de dR
  dsimp? [vA hP m8]
 unfold ig jM
 dsimp? [r0 (levers:=Ls) S hx.LD,np,iA,KH,fw (p:=.tup (Ls.map tI)) (q:=tI P) (f:=tI) (g:=PV.int) Ls P rfl rfl]
 refine iX.loop (xs:=Ls.zip P) (inj:=λz=>.tup [tI z.1,.int z.2]) (λzs env=>∃ (c:Nat) (F:List Int) (y4 y5:Option SV),env=[some (.sh (dM sizes Ls)),some (.sh (tI xs)),some (.sh (tI P)),some (.sh (tI F)),y4,y5]/\zs=(Ls.zip P).drop c/\c<=Ls.length/\Kp sizes F/\∀ i,i<sizes.length->vf sizes i∣(vf F i-vf xs i)-dj c λl=>vf P l*AA Ls l i) ⟨0,xs,_,_,rfl,rfl,by omega,hx,λi hi=>⟨0,by simp[dj]⟩⟩ ?_ ?_
 ·rintro z r env ⟨c,F,y4,y5,rfl,hz,hc,hF,Fd⟩
  obtain⟨c1,c2,c3⟩:=drop_cons hz.symm
  have O0:c<Ls.length:=by rw[List.length_zip] at c1;omega
  rw[List.getElem?_eq_getElem c1] at c2
  have c2:=Option.some.inj c2
  rw[List.getElem_zip] at c2
  have eA:Ls.getD c []=z.1:=by rw[List.getD_eq_getElem?_getD,List.getElem?_eq_getElem O0,Option.getD_some,← c2]
  have et:vf P c=z.2:=by rw[aY (by omega),← c2]
  have a1:=Q.LL.at_ c O0
  have a2:=Q.LL.ki c O0
  have eV:AA Ls c=vf z.1:=by unfold AA;rw[eA]
  rw[eV] at a2
  rw[eA] at a1
  have zb:z.2.natAbs<2^200:=hb z.2 (by rw[← c2];exact List.getElem_mem _)
  obtain⟨k1,k2⟩:=EJ (t:=z.2) S hF.1 a1
  dsimp? [cA,xo (Ls:=Ls) (xs:=F) (ys:=z.1) (t:=z.2) S hF.1 (vp S a1 a2) zb]
  refine⟨_,rfl,c+1,_,_,_,rfl,c3.symm,by omega,k1,λi hi=>?_⟩
  obtain⟨x,hx⟩:=Fd i hi
  obtain⟨y,hy⟩:=k2 i hi
  exact⟨x+y,by rw[dj,et,eV,Int.mul_add,← hx,← hy];omega⟩
 ·rintro env ⟨c,F,y4,y5,rfl,hz,hc,hF,Fd⟩
  have ec:c=Ls.length:=by
   have:=congrArg List.length hz
   rw[List.length_drop,List.length_zip] at this
   simp at this;omega
  subst ec
  dsimp? []
  exact⟨_,rfl,F,rfl,hF,Fd⟩
end
theorem KC(c k:Int)(hk:k.natAbs<2^31):∃ m:Int,aT [.int c,.int k]=M.ok (.int m)/\0<=m/\m<2^31:=by
 unfold aT cK
 have a1:=Int.emod_nonneg (c+7919*k+12345) (show (2147483629:Int)≠0 by decide)
 have a2:=Int.emod_lt_of_pos (c+7919*k+12345) (show (0:Int)<2147483629 by decide)
 generalize hn:(c+7919*k+12345)%2147483629=n at *
 have b1:=Int.emod_nonneg (n*n+48271*k) (show (2147483629:Int)≠0 by decide)
 have b2:=Int.emod_lt_of_pos (n*n+48271*k) (show (0:Int)<2147483629 by decide)
 generalize hm:(n*n+48271*k)%2147483629=m at *
 have c1:=Int.emod_nonneg (m*m) (show (2147483587:Int)≠0 by decide)
 have c2:=Int.emod_lt_of_pos (m*m) (show (0:Int)<2147483587 by decide)
 exact⟨m*m%2147483587,by dsimp? [bC (i:=7919) (j:=k) (k:=31) (l:=31) (by decide) hk,aO (i:=c+7919*k+12345) (j:=2147483629) (by decide),hn,bC (i:=n) (j:=n) (k:=31) (l:=31) (by omega) (by omega),bC (i:=48271) (j:=k) (k:=31) (l:=31) (by decide) hk,aO (i:=n*n+48271*k) (j:=2147483629) (by decide),hm,bC (i:=m) (j:=m) (k:=31) (l:=31) (by omega) (by omega),aO (i:=m*m) (j:=2147483587) (by decide)],c1,by omega⟩
def mx(c k:Int):Int:=open Classical in if h:∃ m:Int,aT [.int c,.int k]=M.ok (.int m)/\0<=m/\m<2^31 then h.choose else 0
theorem yI(c k:Int)(hk:k.natAbs<2^31):aT [.int c,.int k]=M.ok (.int (mx c k))/\0<=mx c k/\mx c k<2^31:=by
 have h:=KC c k hk
 have e:mx c k=h.choose:=dif_pos h
 rw[e]
 exact h.choose_spec
theorem xC(c:Int)(p:PV)(bases:List Int)(hp:bX p=some (bases.map PV.int))(hb:∀ b∈bases,0<b/\b<2^60)(hl:bases.length<=100):iX (ff [.int c,p]) λq=>∃ xs:List Int,q=lI xs/\xs.length=bases.length/\∀ i,i<bases.length->0<=vf xs i/\vf xs i<vf bases i:=by
 unfold ff e7
 dsimp? [eU,hp]
 refine iX.loop (xs:=bases) (inj:=PV.int) (λzs env=>∃ (c:Int) (ss:List Int) (y:Option SV),env=[some (.sh (.int c)),some (.sh p),some (.ow (ss.map PV.int)),y]/\zs=bases.drop ss.length/\ss.length<=bases.length/\∀ i,i<ss.length->0<=vf ss i/\vf ss i<vf bases i) ⟨c,[],none,rfl,rfl,by simp,λi hi=>by simp at hi⟩ ?_ ?_
 ·rintro s r env ⟨c,ss,y,rfl,hd,O6,hs⟩
  obtain⟨c1,c2,c3⟩:=drop_cons hd.symm
  rw[List.getElem?_eq_getElem c1] at c2
  have e2:bases[ss.length]=s:=Option.some.inj c2
  have hz:=hb s (by rw[← e2];exact List.getElem_mem _)
  have hk:(ss.map PV.int).length<1000:=by simp;omega
  have m0:=Int.emod_nonneg c (show s≠0 by omega)
  have m1:=Int.emod_lt_of_pos c hz.1
  dsimp? [cB,aO (i:=c) (j:=s) hz.1,jV,ownAt,jO hk,gb,bF (i:=c) (j:=s) hz.1 (by omega)]
  refine⟨_,rfl,_,ss++[c%s],_,rfl,by rw[List.length_append];exact c3.symm,by simp;omega,λi hi=>?_⟩
  have OY:i<=ss.length:=by simp at hi;omega
  rw[aY hi]
  rcases Nat.lt_or_eq_of_le OY with q | q
  ·rw[List.getElem_append_left q,← aY q];exact hs i q
  ·subst q
   rw[List.getElem_append_right (Nat.le_refl _),aY c1,e2]
   simp;omega
 ·rintro env ⟨c,ss,y,rfl,hd,O6,hs⟩
  have:=congrArg List.length hd
  rw[List.length_drop] at this
  simp at this
  exact⟨_,rfl,ss,rfl,by omega,λi hi=>hs i (by omega)⟩
theorem EC(h1:1<=xs.length)(h6:xs.length<=6)(hx:∀ x∈xs,2<=x/\x<=360):Sz xs:=⟨h1,h6,hx⟩
theorem Ie:pN (.int 10) (.int 24)=M.ok (.int (10^24)):=by
 rfl
theorem AJ(S:Sz sizes)(c:Int):iX (c8 [.int c,lI sizes]) λp=>∃ xs:List Int,p=lI xs/\xs.length=sizes.length/\Bd 200 xs:=by
 have l6:=S.h6
 unfold c8 fW
 have m2:=aO (i:=c) (j:=2) (by decide)
 by_cases h:c%2=1
 ·obtain⟨_,ed,xs,rfl,xl,xb⟩:=xC (c/2) (lI sizes) sizes rfl (λb hb=>by have:=S.hx b hb;omega) (by omega)
  dsimp? [m2,h,decide_true,bF (i:=c) (j:=2) (by decide) (by decide),ed]
  refine⟨_,rfl,xs,rfl,xl,λx hx=>?_⟩
  obtain⟨i,hi,rfl⟩:=List.mem_iff_getElem.mp hx
  have a:=xb i (by omega)
  have b:=nX S i (by omega)
  rw[aY hi] at a
  omega
 ·obtain⟨e5,p1,p2⟩:=yI c 5 (by decide)
  obtain⟨e6,q1,q2⟩:=yI c 6 (by decide)
  obtain⟨y,hy,ey⟩:=pick [1,1,2,3,4,6] (mx c 5) 6 rfl (by decide)
  rw[show ((6:Nat):Int)=6 from rfl] at ey
  simp only[List.map_cons,List.map_nil] at ey
  have hy':1<=y/\y<=6:=by simp at hy;omega
  obtain⟨t,ht,et⟩:=pick [0,1,10^24] (mx c 6) 3 rfl (by decide)
  rw[show ((3:Nat):Int)=3 from rfl] at et
  simp only[List.map_cons,List.map_nil] at et
  have ht':0<=t/\t<=10^24:=by
   rcases List.mem_cons.mp ht with rfl | ht
   ·decide
   rcases List.mem_cons.mp ht with rfl | ht
   ·decide
   rw[List.mem_singleton.mp ht];decide
  dsimp? [m2,h,decide_false,e5,aO (i:=mx c 5) (j:=6) (by decide)]
  rw[ey]
  dsimp? [Ie,e6,aO (i:=mx c 6) (j:=3) (by decide)]
  rw[et]
  dsimp? [eU,iB (n:=(sizes.length:Int)) (by omega) (by omega),Int.toNat_natCast]
  refine iX.loop (xs:=List.range sizes.length) (inj:=λ(i:Nat)=>.int (i:Int)) (λzs env=>∃ (ss:List Int) (y5 y6 y7:Option SV),env=[some (.sh (.int c)),some (.sh (lI sizes)),some (.sh (.int y)),some (.sh (.int t)),some (.ow (ss.map PV.int)),y5,y6,y7]/\ss.length+zs.length=sizes.length/\Bd 200 ss/\∀ z∈zs,z<sizes.length) ⟨[],none,none,none,rfl,by simp,(λ_ h=>nomatch h),λz hz=>List.mem_range.mp hz⟩ ?_ ?_
  ·rintro i r env ⟨ss,y5,y6,y7,rfl,hl,hs,hm⟩
   have hi:=hm i List.mem_cons_self
   have O_:=S.hx sizes[i] (List.getElem_mem hi)
   obtain⟨ea,a1,a2⟩:=yI c (40+(i:Int)) (by omega)
   obtain⟨eb,b1,b2⟩:=yI c (60+(i:Int)) (by omega)
   generalize mx c (40+(i:Int))=a at *
   generalize mx c (60+(i:Int))=b at *
   have O6:(ss.map PV.int).length<1000:=by simp at hl ⊢;omega
   obtain⟨k,ek,hk⟩:∃ k:Int,qd (λi j=>if j<i then j else i) [.int (a%4),.int 1]=M.ok (.int k)/\0<=k/\k<=1:=⟨if 1<a%4 then 1 else a%4,rfl,by split <;> omega,by split <;> omega⟩
   have t1:(b%2001-1000).natAbs<2^31:=by omega
   have t2:t.natAbs<2^100:=by omega
   have t3:((b%2001-1000)*t).natAbs<2^120:=by
    rw[Int.natAbs_mul]
    have:(b%2001-1000).natAbs*t.natAbs<=2^11*2^100:=Nat.mul_le_mul (by omega) (by omega)
    exact Nat.lt_of_le_of_lt this (by decide)
   have t4:(k*y).natAbs<2^31:=by
    rcases(show k=0\/k=1 by omega) with rfl | rfl
    ·simp
    ·simp;omega
   have t5:(sizes[i]*((b%2001-1000)*t)).natAbs<2^150:=by
    rw[Int.natAbs_mul]
    have:sizes[i].natAbs*((b%2001-1000)*t).natAbs<=2^11*2^120:=Nat.mul_le_mul (by omega) (by omega)
    exact Nat.lt_of_le_of_lt this (by decide)
   have t6:(k*y*(a/4%360)).natAbs<2^62:=by
    rw[Int.natAbs_mul]
    have:(k*y).natAbs*(a/4%360).natAbs<=2^31*2^10:=Nat.mul_le_mul (by omega) (by omega)
    exact Nat.lt_of_le_of_lt this (by decide)
   have ix:aV (lI sizes) (.int (i:Int))=M.ok (.int sizes[i]):=by rw[Gi hi,aY hi]
   dsimp? [cB,ea,eb,aO (i:=b) (j:=2001) (by decide),bC (i:=b%2001-1000) (j:=t) (k:=31) (l:=100) t1 t2,aO (i:=a) (j:=4) (by decide),ek,bC (i:=k) (j:=y) (k:=31) (l:=31) (by omega) (by omega),bF (i:=a) (j:=4) (by decide) (by decide),aO (i:=a/4) (j:=360) (by decide),bC (i:=k*y) (j:=a/4%360) (k:=31) (l:=31) t4 (by omega),ix,bC (i:=sizes[i]) (j:=(b%2001-1000)*t) (k:=31) (l:=120) (by omega) t3,jV,ownAt,jO O6,gb]
   refine⟨_,rfl,ss++[k*y*(a/4%360)+sizes[i]*((b%2001-1000)*t)],_,_,_,rfl,by simp at hl ⊢;omega,λs h'=>?_,λz hz=>hm z (List.mem_cons_of_mem _ hz)⟩
   rcases List.mem_append.mp h' with q | q
   ·exact hs s q
   ·rw[List.mem_singleton.mp q]
    have:=Int.natAbs_add_le (k*y*(a/4%360)) (sizes[i]*((b%2001-1000)*t))
    omega
  ·rintro env ⟨ss,y5,y6,y7,rfl,hl,hs,_⟩
   exact⟨_,rfl,ss,rfl,by simpa using hl,hs⟩
theorem Dr{l:List Int}(S:Sz sizes)(hl:l.length=sizes.length):fu [lI l,lI sizes]=M.ok (tI (uD l sizes)):=by
 have l6:=S.h6
 have k1:cj (cA 0 1) none (ak c7 (af 0) (af 1)) ((l.zip sizes).map λz=>.tup [.int z.1,.int z.2]) [none,none]=M.ok ((l.zip sizes).map λz=>.int (z.1%z.2)):=by
  refine kN (p:=λz:Int×Int=>PV.int z.1) (q:=λz:Int×Int=>PV.int z.2) (l.zip sizes) λz hz=>?_
  have:=S.hx _ (v_ hz).2
  dsimp? [aO (i:=z.1) (j:=z.2) (by omega)]
 have z1:(l.zip sizes).length<=sizeLine:=by rw[List.length_zip];exact aX (by omega)
 unfold fu gG
 dsimp? [fw (p:=lI l) (q:=lI sizes) l sizes rfl rfl,List.length_map,ay z1,k1]
 rw[tI,uD,List.map_map];rfl
def sm(sizes A B:List Int):List Int:=(A.zip (B.zip sizes)).map λz=>(z.1+z.2.1)%z.2.2
theorem FW(S:Sz sizes)(A B:List Int):aB 3 cJ [.tup (A.map .int),.tup (B.map .int),.lst (sizes.map .int)]=M.ok (.tup ((sm sizes A B).map .int)):=by
 have l6:=S.h6
 have k1:cj (pY 0 1 2) none (ak c7 (ak cP (af 0) (af 1)) (af 2)) ((A.zip (B.zip sizes)).map λz=>.tup [.int z.1,.int z.2.1,.int z.2.2]) [none,none,none]=M.ok ((A.zip (B.zip sizes)).map λz=>.int ((z.1+z.2.1)%z.2.2)):=by
  refine Hm (p:=λz:Int×Int×Int=>PV.int z.1) (q:=λz:Int×Int×Int=>PV.int z.2.1) (s:=λz:Int×Int×Int=>PV.int z.2.2) (A.zip (B.zip sizes)) λz hz=>?_
  have:0<z.2.2:=by have:=S.hx z.2.2 (List.of_mem_zip (List.of_mem_zip (a:=z.1) (b:=z.2) hz).2).2;exact Int.lt_of_lt_of_le (by decide) this.1
  dsimp? [aO (i:=z.1+z.2.1) (j:=z.2.2) this]
 have z1:(A.zip (B.zip sizes)).length<=sizeLine:=by rw[List.length_zip,List.length_zip];exact aX (by omega)
 unfold cJ
 dsimp? [BR (p:=.tup (A.map .int)) (q:=.tup (B.map .int)) (r:=.lst (sizes.map .int)) A B sizes rfl rfl rfl,List.length_map,ay z1,k1]
 rw[sm,List.map_map];rfl
theorem zz(S:Sz sizes)(p:PV):cF (jL 11 [p,.lst (sizes.map .int)])=M.ok (.tup ((List.replicate sizes.length (0:Int)).map .int)):=by
 have l6:=S.h6
 have k1:cj (cB 0) none (λ_=>M.ok (.int 0)) (sizes.map PV.int) [none]=M.ok (sizes.map λ_=>.int 0):=jD (inj:=PV.int) sizes λx hx=>rfl
 have z1:sizes.length<=sizeLine:=aX (by omega)
 unfold cF
 dsimp? [List.length_map,ay z1,k1,vg]
variable{c:Nat}
section
variable{raw:List (List Int)}
theorem lr(S:Sz sizes){A B:List Int}(h1:A.length=sizes.length)(h2:B.length=sizes.length):Kp sizes (sm sizes A B)/\∀ i,i<sizes.length->vf sizes i∣vf (sm sizes A B) i-(vf A i+vf B i):=by
 have len:(sm sizes A B).length=sizes.length:=by simp[sm,h1,h2]
 have at_:∀ i,i<sizes.length->vf (sm sizes A B) i=(vf A i+vf B i)%vf sizes i:=λi hi=>by
  rw[aY (by omega),aY (by omega),aY (by omega),aY hi]
  simp[sm]
 refine⟨⟨len,λi hi=>?_⟩,λi hi=>by rw[at_ i hi];exact fz _ _⟩
 have:=nX S i hi
 rw[at_ i hi]
 exact⟨Int.emod_nonneg _ (by omega),Int.emod_lt_of_pos _ (by omega)⟩
theorem mi(S:Sz sizes){r:List Int}(h:Kp sizes r):∀ j,Kp sizes (uF (sm sizes) r j)/\∀ i,i<sizes.length->vf sizes i∣vf (uF (sm sizes) r j) i-((j:Int)+1)*vf r i
 | 0=>⟨h,λi hi=>⟨0,by show vf r i-_=_;simp⟩⟩
 | j+1=>by
  obtain⟨k,d⟩:=mi S h j
  obtain⟨k2,d2⟩:=lr S k.1 h.1
  refine⟨k2,λi hi=>?_⟩
  obtain⟨a,ea⟩:=d i hi
  obtain⟨b,eb⟩:=d2 i hi
  refine⟨a+b,?_⟩
  show vf (sm sizes (uF (sm sizes) r j) r) i-_=_
  have:((j+1:Nat):Int)=(j:Int)+1:=by omega
  rw[this]
  grind
theorem l7(S:Sz sizes){r:List Int}(h:Kp sizes r):∀ j,Kp sizes (EI (sm sizes) (List.replicate sizes.length 0) r j)/\∀ i,i<sizes.length->vf sizes i∣vf (EI (sm sizes) (List.replicate sizes.length 0) r j) i-(j:Int)*vf r i
 | 0=>⟨⟨by simp[EI],jJ S⟩,λi hi=>⟨0,by show vf (List.replicate sizes.length 0) i-_=_;rw[iZ];simp⟩⟩
 | j+1=>by
  obtain⟨k,d⟩:=l7 S h j
  obtain⟨k2,d2⟩:=lr S k.1 h.1
  refine⟨k2,λi hi=>?_⟩
  obtain⟨a,ea⟩:=d i hi
  obtain⟨b,eb⟩:=d2 i hi
  refine⟨a+b,?_⟩
  show vf (sm sizes (EI (sm sizes) (List.replicate sizes.length 0) r j) r) i-_=_
  have:((j+1:Nat):Int)=(j:Int)+1:=by omega
  rw[this]
  grind
def Rc(sizes:List Int)(Ls:List (List Int))(c:Nat)(B:List Int):Prop:=Kp sizes B/\∃ P:eB,Zf c Ls.length P/\Led sizes.length (vf sizes) Ls.length (AA Ls) (vf B) P
theorem nK.kp(Q:nK ns sizes raw Ls T idle)(hc:c<Ls.length):Kp sizes (Ls.getD c []):=⟨Q.LL.at_ c hc,Q.LL.ki c hc⟩
theorem ni(Q:nK ns sizes raw Ls T idle)(hc:c<Ls.length):Led sizes.length (vf sizes) Ls.length (AA Ls) (AA Ls c) (λl=>if l=c then 1 else 0):=λi hi=>by
 rw[l9 c (AA Ls c i) Ls.length hc (λl=>(if l=c then 1 else 0)*AA Ls l i) λl hl=>by
  by_cases z:l=c
  ·subst z;simp
  ·simp[z]]
 exact⟨0,by omega⟩
theorem Rc.zero(Q:nK ns sizes raw Ls T idle)(B:List Int):Rc sizes Ls 0 B ↔ B=List.replicate sizes.length 0:=by
 constructor
 ·rintro⟨k,P,zf,led⟩
  refine wN k.1 (by simp) k.2 (jJ Q.S) λi hi=>?_
  have:=led i hi
  rw[fm (g:=λ_=>0) λl hl=>by rw[zf l (Nat.zero_le _) hl,Int.zero_mul],gf] at this
  rw[iZ]
  exact this
 ·rintro rfl
  refine⟨⟨by simp,jJ Q.S⟩,λ_=>0,λ_ _ _=>rfl,λi hi=>?_⟩
  rw[fm (g:=λ_=>0) λl hl=>Int.zero_mul _,gf,iZ]
  exact⟨0,by omega⟩
theorem Rc.before(Q:nK ns sizes raw Ls T idle)(hc:c<Ls.length)(hj:(j:Int)+1<II idle c c):¬ Rc sizes Ls c (uF (sm sizes) (Ls.getD c []) j):=by
 rintro⟨k,P,zf,led⟩
 obtain⟨_,d⟩:=mi Q.S (Q.kp hc) j
 have:=Q.ord c hc (λl=>1*P l+(-((j:Int)+1))*(if l=c then 1 else 0)) (λl a b=>by
  show 1*P l+(-((j:Int)+1))*(if l=c then 1 else 0)=0
  rw[zf l (by omega) b,if_neg (by omega)];omega) (Led.mix (a:=1) (b:=-((j:Int)+1)) led (ni Q hc) (λi hi=>by
   obtain⟨x,hx⟩:=d i hi
   exact⟨-x,by show 0-(1*_+-((j:Int)+1)*AA Ls c i)=_;unfold AA;grind⟩) λl hl=>rfl)
 simp only[if_pos,zf c (Nat.le_refl _) hc] at this
 have h0:=mf (a:=(j:Int)+1) (b:=II idle c c) (by
  obtain⟨x,hx⟩:=this
  exact⟨-x,by grind⟩) (by omega) hj
 omega
theorem Rc.at_(Q:nK ns sizes raw Ls T idle)(hc:c<Ls.length)(hm:(m:Int)+1=II idle c c):Rc sizes Ls c (uF (sm sizes) (Ls.getD c []) m):=by
 obtain⟨k,d⟩:=mi Q.S (Q.kp hc) m
 refine⟨k,λl=>(-1)*II idle c l+II idle c c*(if l=c then 1 else 0),λl a b=>?_,Led.mix (a:=-1) (b:=II idle c c) (Q.I.qc c hc) (ni Q hc) (λi hi=>?_) λl hl=>rfl⟩
 ·show (-1)*II idle c l+II idle c c*(if l=c then 1 else 0)=0
  by_cases z:l=c
  ·subst z;simp;omega
  ·rw[if_neg z,Q.I.zero c hc l (by omega) b];omega
 ·obtain⟨x,hx⟩:=d i hi
  refine⟨x,?_⟩
  show _-(-1*0+II idle c c*AA Ls c i)=_
  unfold AA
  rw[← hm]
  grind
theorem Rc.next(Q:nK ns sizes raw Ls T idle)(hc:c<Ls.length)(hm:(m:Int)+1=II idle c c)(B:List Int):Nx (sm sizes) (List.replicate sizes.length 0) (Ls.getD c []) m (Rc sizes Ls c) B ↔ Rc sizes Ls (c+1) B:=by
 have kr:=Q.kp hc
 constructor
 ·rintro(⟨k,P,zf,led⟩ | ⟨A,j,⟨k,P,zf,led⟩,hj,rfl⟩)
  ·exact⟨k,P,λl a b=>zf l (by omega) b,led⟩
  ·obtain⟨k2,d2⟩:=l7 Q.S kr (j+1)
   obtain⟨k3,d3⟩:=lr Q.S k.1 k2.1
   refine⟨k3,λl=>1*P l+((j+1:Nat):Int)*(if l=c then 1 else 0),λl a b=>?_,Led.mix (a:=1) (b:=((j+1:Nat):Int)) led (ni Q hc) (λi hi=>?_) λl hl=>rfl⟩
   ·show 1*P l+((j+1:Nat):Int)*(if l=c then 1 else 0)=0
    rw[zf l (by omega) b,if_neg (by omega)];omega
   ·obtain⟨x,hx⟩:=d2 i hi
    obtain⟨y,hy⟩:=d3 i hi
    exact⟨x+y,by unfold AA;grind⟩
 ·rintro⟨k,P,zf,led⟩
  have ip:=Q.I.pos c hc
  obtain⟨j,hj⟩:=Int.eq_ofNat_of_zero_le (Int.emod_nonneg (P c) (show II idle c c≠0 by omega))
  have jl:=Int.emod_lt_of_pos (P c) ip
  have ed:=Int.emod_add_mul_ediv (P c) (II idle c c)
  have OO:Led sizes.length (vf sizes) Ls.length (AA Ls) (vf B) (λl=>1*P l+(-(P c/II idle c c))*II idle c l):=Led.mix (a:=1) (b:=-(P c/II idle c c)) led (Q.I.qc c hc) (λi hi=>⟨0,by show vf B i-(1*vf B i+_*0)=_;omega⟩) λl hl=>rfl
  have pc:1*P c+(-(P c/II idle c c))*II idle c c=(j:Int):=by rw[← hj];grind
  have pz:∀ l,c<l->l<Ls.length->1*P l+(-(P c/II idle c c))*II idle c l=0:=λl a b=>by rw[zf l (by omega) b,Q.I.zero c hc l a b];omega
  cases j with
  | zero =>
   refine .inl ⟨k,_,λl a b=>?_,OO⟩
   rcases Nat.eq_or_lt_of_le a with z | z
   ·subst z;exact pc
   ·exact pz l z b
  | succ j =>
   obtain⟨ka,da⟩:=EJ (t:=-((j+1:Nat):Int)) Q.S k.1 kr.1
   obtain⟨k2,d2⟩:=l7 Q.S kr (j+1)
   obtain⟨k3,d3⟩:=lr Q.S ka.1 k2.1
   refine .inr ⟨ad sizes B (Ls.getD c []) (-((j+1:Nat):Int)),j,⟨ka,λl=>1*(1*P l+(-(P c/II idle c c))*II idle c l)+(-((j+1:Nat):Int))*(if l=c then 1 else 0),λl a b=>?_,Led.mix (a:=1) (b:=-((j+1:Nat):Int)) OO (ni Q hc) (λi hi=>?_) λl hl=>rfl⟩,by omega,?_⟩
   ·rcases Nat.eq_or_lt_of_le a with z | z
    ·subst z
     show 1*(1*P c+(-(P c/II idle c c))*II idle c c)+(-((j+1:Nat):Int))*(if c=c then 1 else 0)=0
     rw[pc,if_pos rfl];omega
    ·show 1*(1*P l+(-(P c/II idle c c))*II idle c l)+(-((j+1:Nat):Int))*(if l=c then 1 else 0)=0
     rw[pz l z b,if_neg (by omega)];omega
   ·obtain⟨x,hx⟩:=da i hi
    exact⟨x,by unfold AA;grind⟩
   ·refine(wN k3.1 k.1 k3.2 k.2 λi hi=>?_).symm
    obtain⟨x,hx⟩:=da i hi
    obtain⟨y,hy⟩:=d2 i hi
    obtain⟨z,hz⟩:=d3 i hi
    exact⟨x+y+z,by grind⟩
end
section
variable{raw:List (List Int)}
theorem AG {f : Nat -> Int} {m : Nat} (h : ∀ j, j < m -> 0 < f j) : ∀ k c, c + k = m -> aE c f <= aE m f
  | 0, c, e => by obtain rfl : c = m := by omega
                  exact Int.le_refl _
  | k + 1, c, e => by
    have a := AG h k (c + 1) (by omega)
    have b := dH (f := f) (m := c) λj hj => h j (by omega)
    have d := h c (by omega)
    rw [aE] at a
    have : aE c f * 1 <= aE c f * f c := Int.mul_le_mul_of_nonneg_left (by omega) (by omega)
    omega
theorem tR(Q:nK ns sizes raw Ls T idle)(hp:aE sizes.length (vf sizes)<=240):∀ c,c<=Ls.length->0<aE c (λj=>II idle j j)/\aE c (λj=>II idle j j)<=240:=λc hc=>by
 have a:=AG (f:=λj=>II idle j j) (m:=Ls.length) Q.I.pos (Ls.length-c) c (by omega)
 have b:=dH (f:=λj=>II idle j j) (m:=c) λj hj=>Q.I.pos j (by omega)
 have d:=dH (f:=br (vf sizes) (DD T)) (m:=sizes.length) λj hj=>(Q.st.gd.pos hj).1
 have e:=Q.pr
 have g:=dH (f:=λj=>II idle j j) (m:=Ls.length) Q.I.pos
 refine⟨b,?_⟩
 have:aE Ls.length (λj=>II idle j j)*1<=aE Ls.length (λj=>II idle j j)*aE sizes.length (br (vf sizes) (DD T)):=Int.mul_le_mul_of_nonneg_left (by omega) (by omega)
 omega
theorem wz(Q:nK ns sizes raw Ls T idle)(hp:aE sizes.length (vf sizes)<=240):∀ k c,c+k=Ls.length->Runs (sm sizes) (List.replicate sizes.length 0) (Rc sizes Ls c) (aE c (λj=>II idle j j)).toNat (Ls.drop c) ((rY idle).drop c)
 | 0,c,e=>by
  have l:(rY idle).length=Ls.length:=m7.trans Q.I.len
  rw[List.drop_eq_nil_of_le (by omega),List.drop_eq_nil_of_le (by omega)]
  exact rfl
 | k+1,c,e=>by
  have l:(rY idle).length=Ls.length:=m7.trans Q.I.len
  have hc:c<Ls.length:=by omega
  have li:=Q.I.len
  have Oj:c<(rY idle).length:=by omega
  rw[List.drop_eq_getElem_cons hc,List.drop_eq_getElem_cons Oj]
  have eg:Ls[c]=Ls.getD c []:=by rw[List.getD_eq_getElem?_getD,List.getElem?_eq_getElem hc];rfl
  have es:(rY idle)[c]=II idle c c:=by rw[← aY,AN (by omega)]
  have ip:=Q.I.pos c hc
  obtain⟨m,hm⟩:=Int.eq_ofNat_of_zero_le (show 0<=II idle c c-1 by omega)
  have hm':(m:Int)+1=II idle c c:=by omega
  obtain⟨a1,a2⟩:=tR Q hp c (by omega)
  obtain⟨b1,b2⟩:=tR Q hp (c+1) (by omega)
  have eL:(aE c (λj=>II idle j j)).toNat*(m+1)=(aE (c+1) (λj=>II idle j j)).toNat:=by
   obtain⟨x,hx⟩:=Int.eq_ofNat_of_zero_le (Int.le_of_lt a1)
   show (aE c λj=>II idle j j).toNat*(m+1)=((aE c λj=>II idle j j)*II idle c c).toNat
   rw[hx,← hm',show ((m:Int)+1)=((m+1:Nat):Int) by omega,← Int.natCast_mul,Int.toNat_natCast,Int.toNat_natCast]
  have ml:m+1<=240:=by
   have:(aE c (λj=>II idle j j)).toNat*(m+1)<=240:=by rw[eL];omega
   have q:1*(m+1)<=(aE c (λj=>II idle j j)).toNat*(m+1):=Nat.mul_le_mul_right _ (by omega)
   omega
  have b24:sizeLine=2^24:=rfl
  refine⟨m,_,by rw[es,hm'],λj hj=>?_,?_,by omega,by rw[eL];omega,?_⟩
  ·rw[eg];exact Rc.before Q hc (by omega)
  ·rw[eg];exact Rc.at_ Q hc hm'
  ·rw[eL,eg,show Nx (sm sizes) (List.replicate sizes.length 0) (Ls.getD c []) m (Rc sizes Ls c)=Rc sizes Ls (c+1) from funext λB=>propext (Rc.next Q hc hm' B)]
   exact wz Q hp k (c+1) (by omega)
theorem zU(Q:nK ns sizes raw Ls T idle)(hp:aE sizes.length (vf sizes)<=240):fO [.lst (Ls.map tI),lI sizes]=M.ok (lI (rY idle)):=by
 have m8:=Q.m8
 have b24:sizeLine=2^24:=rfl
 unfold fO
 rw[show bg 2 (sR (aB 3 cJ) cF) [.lst (Ls.map tI),lI sizes]=_ from vY rfl]
 refine CV ⟨Ls,sizes,List.replicate sizes.length 0,sm sizes,rfl,FW Q.S,zz Q.S _,by omega,?_⟩
 have:=wz Q hp Ls.length 0 (by omega)
 rw[List.drop_zero,List.drop_zero,show Rc sizes Ls 0=λA=>A=List.replicate sizes.length 0 from funext λB=>propext (Rc.zero Q B)] at this
 exact this
end
def Lx(xs:List Int):Prop:=Sz xs/\aE xs.length (vf xs)<=240
theorem j4(xs:List Int)(x:Int):aE (xs++[x]).length (vf (xs++[x]))=aE xs.length (vf xs)*x:=by
 rw[List.length_append,List.length_singleton,aE]
 rw[gg (g:=vf xs) λl hl=>by rw[aY (by simp;omega),aY hl,List.getElem_append_left hl],aY (by simp)]
 simp
theorem sW(ss:List Int)(x:Int):aV (.lst ((ss++[x]).map .int)) (.int (-1))=M.ok (.int x):=by
 show eD (nv ((ss++[x]).map PV.int) (-1))=_
 have e:nv ((ss++[x]).map PV.int) (-1)=some (.int x):=by
  have e1:xa ((ss++[x]).map PV.int).length (-1)=some ss.length:=by
   unfold xa
   rw[if_neg (by decide),if_pos (by simp;omega)]
   congr 1
   simp
   omega
  unfold nv
  rw[e1]
  simp
 rw[e];rfl
variable{N:Nat}
theorem v8(hN:N.log2<67108864)(h:x.natAbs<=N):bZ (.int x) (.int 4)=M.ok (.int (x*4)):=by
 have a:x.natAbs.log2<67108864:=by
  by_cases z:x.natAbs=0
  ·rw[z];decide
  ·exact(Nat.log2_lt z).mpr (Nat.lt_of_le_of_lt h (jF hN))
 rw[bZ,ay ⟨a,by decide⟩]
theorem kI{P room:Int}(h:P*room<=240)(hP:0<P)(hx:2<=x)(hr:x<=room):P*x*(room/x)<=240/\1<=room/x/\room/x<=room:=by
 have d:=Int.emod_add_mul_ediv room x
 have m:=Int.emod_nonneg room (show x≠0 by omega)
 have a:1<=room/x:=(Int.le_ediv_iff_mul_le (by omega)).mpr (by omega)
 refine⟨?_,a,Int.ediv_le_self _ (by omega)⟩
 have:P*(x*(room/x))<=P*room:=Int.mul_le_mul_of_nonneg_left (by omega) (by omega)
 rw[Int.mul_assoc]
 omega
theorem nZ(c d:Int)(hd:1<=d):(c/4/d).natAbs<=c.natAbs+1/\(c/4/d*4+c%4).natAbs<=c.natAbs+6/\(c/4/d*4+c%4)%4=c%4:=by
 have e:=Int.emod_add_mul_ediv (c/4) d
 have m0:=Int.emod_nonneg (c/4) (show d≠0 by omega)
 have m1:=Int.emod_lt_of_pos (c/4) (show 0<d by omega)
 have a:(c/4/d).natAbs<=(c/4).natAbs:=by
  rcases Int.le_total 0 (c/4) with h | h
  ·have:=Int.ediv_le_self d h
   have:=Int.ediv_nonneg h (show 0<=d by omega)
   omega
  ·have h1:c/4<=c/4/d:=(Int.le_ediv_iff_mul_le (by omega)).mpr (by
    have:c/4*d<=c/4*1:=Int.mul_le_mul_of_nonpos_left h (by omega)
    omega)
   have h2:c/4/d<=0:=by
    have:=Int.ediv_le_ediv (show 0<d by omega) h
    simpa using this
   omega
 omega
theorem iX.Ik{R:β->Prop}{u:ai->M Bool}{b:ai->M Out}{k:Out->M β}(J:ai->Prop)(m:ai->Nat){env:ai}(h:J env)
  (H:∀ env,J env->(u env=M.ok false)\/(u env=M.ok true/\∃ Mh,b env=M.ok (.nx Mh)/\J Mh/\m Mh<m env)) (hk:∀ Mh,J Mh->iX (k (.nx Mh)) R):iX (M.bind (kM u b env) k) R:=by
 obtain⟨Mh,e,h',_⟩:=qw J m H env h
 rw[e,M.aS];exact hk Mh h'
theorem LC(x:Int):vf [x] 0=x:=rfl
theorem CF(c:Int)(hN:(N+100).log2<67108864)(hc:c.natAbs<=N):iX (cT [.int c,.int 240]) λp=>∃ xs:List Int,p=lI xs/\Lx xs:=by
 have m0:=Int.emod_nonneg (c/4) (show (240-1:Int)≠0 by decide)
 have m1:=Int.emod_lt_of_pos (c/4) (show (0:Int)<240-1 by decide)
 obtain⟨r1,r2,r3⟩:=nZ c (240-1) (by decide)
 have c0:=Int.emod_nonneg c (show (4:Int)≠0 by decide)
 have c1:=Int.emod_lt_of_pos c (show (0:Int)<4 by decide)
 unfold cT cQ
 have ix0:aV (.lst [.int (2+c/4%(240-1))]) (.int 0)=M.ok (.int (2+c/4%(240-1))):=rfl
 have d1:∀ (x:PV) (env:ai),gI (aa (λ_=>M.ok x) aq) env=M.ok [x]:=λ_ _=>rfl
 have z1:1<=sizeLine:=by decide
 have b:=kI (P:=1) (room:=240) (x:=2+c/4%(240-1)) (by decide) (by decide) (by omega) (by omega)
 dsimp? [gI,z1,bF (i:=c) (j:=4) (by decide) (by decide),aO (i:=c/4) (j:=240-1) (by decide),lE,ownAt,oQ,ix0,bF (i:=240) (j:=2+c/4%(240-1)) (by omega) (by omega),o_,bF (i:=c/4) (j:=240-1) (by decide) (by decide),v8 hN (show (c/4/(240-1)).natAbs<=N+100 by omega),aO (i:=c) (j:=4) (by decide)]
 have x2:2<=2+c/4%(240-1)/\2+c/4%(240-1)<=240:=by omega
 generalize 2+c/4%(240-1)=x at *
 generalize hr:c/4/(240-1)*4+c%4=rest at *
 refine iX.Ik (λenv=>∃ (rest room:Int) (ss:List Int),env=[some (.sh (.int rest)),some (.sh (.int 240)),some (.ow (ss.map PV.int)),some (.sh (.int room))]/\1<=ss.length/\(ss.length:Int)+rest%4<=4/\rest.natAbs<=N+8*ss.length/\(∀ x∈ss,2<=x/\x<=240)/\1<=room/\room<=240/\0<aE ss.length (vf ss)/\aE ss.length (vf ss)*room<=240) (λenv=>match env with
  | some (.sh (.int r))::_=>(r%4).toNat
  | _=>0) ⟨rest,240/x,[x],rfl,Nat.le_refl _,by simp;omega,by simp;omega,λy hy=>by rw[List.mem_singleton.mp hy];omega,by omega,by omega,by simp[aE,LC];omega,by simpa [aE,LC] using b.1⟩ ?_ ?_
 ·rintro env ⟨rest,room,ss,rfl,l1,l2,l3,hx,p1,p2,p3,p4⟩
  have q0:=Int.emod_nonneg rest (show (4:Int)≠0 by decide)
  have q1:=Int.emod_lt_of_pos rest (show (0:Int)<4 by decide)
  by_cases h1:0<rest%4
  ·by_cases h2:1<room
   ·have n0:=Int.emod_nonneg (rest/4) (show room-1≠0 by omega)
    have n1:=Int.emod_lt_of_pos (rest/4) (show 0<room-1 by omega)
    obtain⟨s1,s2,s3⟩:=nZ rest (room-1) (by omega)
    have b:=kI (P:=aE ss.length (vf ss)) (room:=room) (x:=2+rest/4%(room-1)) p4 p3 (by omega) (by omega)
    have hk:(ss.map PV.int).length<1000:=by simp;omega
    refine .inr ⟨by dsimp? [aO (i:=rest) (j:=4) (by decide),h1,h2,decide_true],[some (.sh (.int (rest/4/(room-1)*4+rest%4-1))),some (.sh (.int 240)),some (.ow ((ss++[2+rest/4%(room-1)]).map PV.int)),some (.sh (.int (room/(2+rest/4%(room-1)))))],?_,⟨_,_,ss++[2+rest/4%(room-1)],rfl,by simp,?_,?_,λy hy=>?_,b.2.1,by omega,?_,?_⟩,?_⟩
    ·dsimp? [jV,ownAt,bF (i:=rest) (j:=4) (by decide) (by decide),aO (i:=rest/4) (j:=room-1) (by omega),jO hk,gb,bF (i:=rest/4) (j:=room-1) (by omega) (by omega),v8 hN (show (rest/4/(room-1)).natAbs<=N+100 by omega),aO (i:=rest) (j:=4) (by decide),lE,oQ,sW,bF (i:=room) (j:=2+rest/4%(room-1)) (by omega) (by omega),o_]
    ·simp;omega
    ·simp;omega
    ·rcases List.mem_append.mp hy with z | z
     ·exact hx y z
     ·rw[List.mem_singleton.mp z];omega
    ·rw[j4];exact Int.mul_pos p3 (by omega)
    ·rw[j4];exact b.1
    ·show ((rest/4/(room-1)*4+rest%4-1)%4).toNat<(rest%4).toNat
     omega
   ·exact .inl (by dsimp? [aO (i:=rest) (j:=4) (by decide),h1,h2,decide_true,decide_false])
  ·exact .inl (by dsimp? [aO (i:=rest) (j:=4) (by decide),h1,decide_false])
 ·rintro env ⟨rest,room,ss,rfl,l1,l2,l3,hx,p1,p2,p3,p4⟩
  have q0:=Int.emod_nonneg rest (show (4:Int)≠0 by decide)
  dsimp? []
  refine⟨_,rfl,ss,rfl,EC l1 (by omega) λx h=>by have:=hx x h;omega,?_⟩
  have:aE ss.length (vf ss)*1<=aE ss.length (vf ss)*room:=Int.mul_le_mul_of_nonneg_left p1 (by omega)
  omega
theorem wX(c:Int)(hN:(N+100).log2<67108864)(hc:c.natAbs<=N):iX (f6 [.int c,.int 240]) λp=>∃ xs:List Int,p=lI xs/\Lx xs:=by
 unfold f6 fU
 have m2:=aO (i:=c) (j:=2) (by decide)
 by_cases h:c%2=1
 ·obtain⟨_,ed,xs,rfl,hx⟩:=CF (c/2) hN (by omega)
  dsimp? [m2,h,decide_true,bF (i:=c) (j:=2) (by decide) (by decide),ed]
  exact⟨_,rfl,xs,rfl,hx⟩
 ·obtain⟨e1,p1,p2⟩:=yI c 1 (by decide)
  obtain⟨n,hn⟩:=Int.eq_ofNat_of_zero_le (show 0<=1+mx c 1%4 by omega)
  have n1:1<=n/\n<=4:=by omega
  dsimp? [m2,h,decide_false,eU,e1,aO (i:=mx c 1) (j:=4) (by decide),hn,iB (n:=(n:Int)) (by omega) (by omega),Int.toNat_natCast]
  refine iX.loop (xs:=List.range n) (inj:=λ(i:Nat)=>.int (i:Int)) (λzs env=>∃ (room:Int) (ss:List Int) (y4 y5:Option SV),env=[some (.sh (.int c)),some (.sh (.int 240)),some (.ow (ss.map PV.int)),some (.sh (.int room)),y4,y5]/\ss.length+zs.length<=n/\(1<=ss.length\/(zs.length=n/\room=240))/\(∀ z∈zs,z<n)/\(∀ x∈ss,2<=x/\x<=240)/\1<=room/\room<=240/\0<aE ss.length (vf ss)/\aE ss.length (vf ss)*room<=240) ⟨240,[],none,none,rfl,by simp,.inr ⟨by simp,rfl⟩,λz hz=>List.mem_range.mp hz,(λ_ h=>nomatch h),by decide,by decide,by decide,by decide⟩ ?_ ?_
  ·rintro i r env ⟨room,ss,y4,y5,rfl,l1,l2,hz,hx,q1,q2,q3,q4⟩
   have hi:=hz i List.mem_cons_self
   simp only[List.length_cons] at l1 l2
   by_cases h2:1<room
   ·obtain⟨ea,a1,a2⟩:=yI c (20+(i:Int)) (by omega)
    obtain⟨eb,b1,b2⟩:=yI c (30+(i:Int)) (by omega)
    generalize mx c (20+(i:Int))=a at *
    generalize mx c (30+(i:Int))=b at *
    obtain⟨t,ht,et⟩:=pick [12,12,12,360] a 4 rfl (by decide)
    rw[show ((4:Nat):Int)=4 from rfl] at et
    simp only[List.map_cons,List.map_nil] at et
    have ht':12<=t:=by simp at ht;omega
    obtain⟨k,ek,hk⟩:∃ k:Int,qd (λi j=>if j<i then j else i) [.int room,.int t]=M.ok (.int k)/\2<=k/\k<=room:=⟨if t<room then t else room,rfl,by split <;> omega,by split <;> omega⟩
    have m0:=Int.emod_nonneg b (show k-1≠0 by omega)
    have m1:=Int.emod_lt_of_pos b (show 0<k-1 by omega)
    have bb:=kI (P:=aE ss.length (vf ss)) (room:=room) (x:=2+b%(k-1)) q4 q3 (by omega) (by omega)
    have hl:(ss.map PV.int).length<1000:=by simp;omega
    dsimp? [cB,h2,decide_true,ea,aO (i:=a) (j:=4) (by decide)]
    rw[et]
    dsimp? [ek,eb,aO (i:=b) (j:=k-1) (by omega),jV,ownAt,jO hl,gb,lE,oQ,sW,bF (i:=room) (j:=2+b%(k-1)) (by omega) (by omega),o_]
    refine⟨_,rfl,_,ss++[2+b%(k-1)],_,_,rfl,by simp;omega,.inl (by simp),λz h=>hz z (List.mem_cons_of_mem _ h),λy hy=>?_,bb.2.1,by omega,by rw[j4];exact Int.mul_pos q3 (by omega),by rw[j4];exact bb.1⟩
    rcases List.mem_append.mp hy with z | z
    ·exact hx y z
    ·rw[List.mem_singleton.mp z];omega
   ·dsimp? [cB,h2,decide_false]
    refine⟨_,rfl,room,ss,_,_,rfl,by omega,?_,λz h=>hz z (List.mem_cons_of_mem _ h),hx,q1,q2,q3,q4⟩
    rcases l2 with z | z
    ·exact .inl z
    ·omega
  ·rintro env ⟨room,ss,y4,y5,rfl,l1,l2,hz,hx,q1,q2,q3,q4⟩
   refine⟨_,rfl,ss,rfl,EC ?_ (by simp at l1;omega) λx h=>by have:=hx x h;omega,?_⟩
   ·rcases l2 with z | z
    ·exact z
    ·simp at z;omega
   ·have:aE ss.length (vf ss)*1<=aE ss.length (vf ss)*room:=Int.mul_le_mul_of_nonneg_left q1 (by omega)
    omega
theorem Ic:pN (.int 10) (.int 29)=M.ok (.int (10^29)):=by rfl
theorem HM:pN (.int 10) (.int 20)=M.ok (.int (10^20)):=by rfl
theorem pow10:pN (.int 10) (.int 10)=M.ok (.int (10^10)):=by rfl
theorem xT(c:Int)(m:Nat)(hm:m<=8):iX (fP [.int c,.int (m:Int)]) λp=>∃ P:List Int,p=tI P/\P.length=m/\Bd 200 P:=by
 obtain⟨e1,p1,p2⟩:=yI c 1 (by decide)
 obtain⟨t,ht,et⟩:=pick [9,1000,10^29] (mx c 1) 3 rfl (by decide)
 rw[show ((3:Nat):Int)=3 from rfl] at et
 simp only[List.map_cons,List.map_nil] at et
 have ht':9<=t/\t<=10^29:=by
  rcases List.mem_cons.mp ht with rfl | ht
  ·decide
  rcases List.mem_cons.mp ht with rfl | ht
  ·decide
  rw[List.mem_singleton.mp ht];decide
 unfold fP fX
 dsimp? [Ic,e1,aO (i:=mx c 1) (j:=3) (by decide)]
 rw[et]
 dsimp? [eU,iB (n:=(m:Int)) (by omega) (by omega),Int.toNat_natCast]
 refine iX.loop (xs:=List.range m) (inj:=λ(i:Nat)=>.int (i:Int)) (λzs env=>∃ (ss:List Int) (y4 y5:Option SV),env=[some (.sh (.int c)),some (.sh (.int (m:Int))),some (.sh (.int t)),some (.ow (ss.map PV.int)),y4,y5]/\ss.length+zs.length=m/\Bd 200 ss/\∀ z∈zs,z<m) ⟨[],none,none,rfl,by simp,(λ_ h=>nomatch h),λz hz=>List.mem_range.mp hz⟩ ?_ ?_
 ·rintro i r env ⟨ss,y4,y5,rfl,hl,hs,hz⟩
  have hi:=hz i List.mem_cons_self
  obtain⟨ea,a1,a2⟩:=yI c (10+(i:Int)) (by omega)
  obtain⟨eb,b1,b2⟩:=yI c (30+(i:Int)) (by omega)
  obtain⟨ed,d1,d2⟩:=yI c (50+(i:Int)) (by omega)
  generalize mx c (10+(i:Int))=a at *
  generalize mx c (30+(i:Int))=b at *
  generalize mx c (50+(i:Int))=d at *
  have O6:(ss.map PV.int).length<1000:=by simp at hl ⊢;omega
  have x0:=Int.emod_nonneg (a*10^20+b*10^10+d) (show 2*t+1≠0 by omega)
  have x1:=Int.emod_lt_of_pos (a*10^20+b*10^10+d) (show 0<2*t+1 by omega)
  dsimp? [cB,ea,eb,ed,HM,pow10,bC (i:=a) (j:=10^20) (k:=31) (l:=100) (by omega) (by decide),bC (i:=b) (j:=10^10) (k:=31) (l:=100) (by omega) (by decide),bC (i:=2) (j:=t) (k:=31) (l:=100) (by decide) (by omega),aO (i:=a*10^20+b*10^10+d) (j:=2*t+1) (by omega),jV,ownAt,jO O6,gb]
  refine⟨_,rfl,ss++[(a*10^20+b*10^10+d)%(2*t+1)-t],_,_,rfl,by simp at hl ⊢;omega,λs h'=>?_,λz Oc=>hz z (List.mem_cons_of_mem _ Oc)⟩
  rcases List.mem_append.mp h' with q | q
  ·exact hs s q
  ·rw[List.mem_singleton.mp q]
   omega
 ·rintro env ⟨ss,y4,y5,rfl,hl,hs,_⟩
  dsimp? []
  exact⟨_,rfl,ss,rfl,by simpa using hl,hs⟩
def dot(F xs:List Int):Int:=((F.zip xs).map λz=>z.1*z.2).sum
def col(t:List (List Int))(j:Nat):List Int:=t.map λl=>vf l j
def JC(sizes:List Int)(Ls:List (List Int))(P:List Int):List Int:=sizes.zipIdx.map λa=>dot P (col Ls a.2)%a.1
theorem CZ{F:List Int}(h1:F.length=n)(h2:xs.length=n):dot F xs=dj n λi=>vf F i*vf xs i:=by
 unfold dot
 have hl:((F.zip xs).map λz=>z.1*z.2).length=n:=by simp[h1,h2]
 rw[zE,hl]
 refine fm λi hi=>?_
 rw[aY (by rw[hl];exact hi),aY (by omega),aY (by omega)]
 simp
theorem HK(F xs:List Int):xB [.lst ((F.zip xs).map λz=>PV.int (z.1*z.2))]=M.ok (.int (dot F xs)):=by
 have:=A3 ((F.zip xs).map λz=>z.1*z.2)
 rw[List.map_map] at this
 exact this
theorem Gk(f:α->Int)(xs:List α)(h:i<xs.length):vf (xs.map f) i=f xs[i]:=by
 rw[aY (by rw[List.length_map];exact h),List.getElem_map]
section
variable{raw:List (List Int)}{P:List Int}
theorem Du(Q:nK ns sizes raw Ls T idle){P P':List Int}(hP:P.length=Ls.length)(hP':P'.length=Ls.length)(n1:∀ l,l<Ls.length->0<=vf P l/\vf P l<II idle l l)(n2:∀ l,l<Ls.length->0<=vf P' l/\vf P' l<II idle l l)
  (d1:Led sizes.length (vf sizes) Ls.length (AA Ls) v (vf P)) (d2:Led sizes.length (vf sizes) Ls.length (AA Ls) v (vf P')):P=P':=by
 have led:Led sizes.length (vf sizes) Ls.length (AA Ls) (λ_=>0) (λl=>vf P l-vf P' l):=Led.mix (a:=1) (b:=-1) d1 d2 (λi hi=>⟨0,by omega⟩) λl _=>by omega
 have key:∀ c,c<=Ls.length->∀ l,Ls.length-c<=l->l<Ls.length->vf P l-vf P' l=0:=by
  intro c
  induction c with
  | zero=>intro _ l h1 h2;omega
  | succ c ih =>
   intro hc l h1 h2
   by_cases z:Ls.length-c<=l
   ·exact ih (by omega) l z h2
   ·have dv:=Q.ord l h2 (λl=>vf P l-vf P' l) (λl' a b=>ih (by omega) l' (by omega) b) led
    have a:=n1 l h2
    have b:=n2 l h2
    exact mf dv (by omega) (by omega)
 refine u6 (by omega) λl hl=>?_
 have:=key Ls.length (Nat.le_refl _) l (by omega) (by omega)
 omega
theorem o8(Q:nK ns sizes raw Ls T idle)(hP:P.length=Ls.length)(hb:Bd 200 P):∃ (F:List Int) (v:eB),d_ [dM sizes Ls,tI P]=M.ok (tI F)/\F.length=Ls.length/\(∀ l,l<Ls.length->0<=vf F l/\vf F l<II idle l l)/\Led sizes.length (vf sizes) Ls.length (AA Ls) v (vf F)/\Led sizes.length (vf sizes) Ls.length (AA Ls) v (vf P):=by
 have S:=Q.S
 have m8:=Q.m8
 obtain⟨_,e,F,rfl,hF,ld⟩:=sY Q (xs:=List.replicate sizes.length 0) ⟨by simp,jJ S⟩ hP hb
 have ld':Led sizes.length (vf sizes) Ls.length (AA Ls) (vf F) (vf P):=λi hi=>by
  obtain⟨x,hx⟩:=ld i hi
  simp only[iZ,Int.sub_zero] at hx
  exact⟨x,hx⟩
 obtain⟨et,tl,led,tn⟩:=AB (k:=Ls.length+1) S m8 Q.st (by omega) Q.I hF.LD hF.2 (Jg Q.st (by omega) ld')
 refine⟨_,vf F,?_,tl,tn,led,ld'⟩
 unfold d_ ib
 dsimp? [j0 (Ls:=Ls) S.h6,e,Q.JG,iA,IB (m := "pulls_to") rfl,et]
theorem yz(Q:nK ns sizes raw Ls T idle)(hP:P.length=Ls.length)(nf:∀ l,l<Ls.length->0<=vf P l/\vf P l<II idle l l):d_ [dM sizes Ls,tI P]=M.ok (tI P):=by
 obtain⟨F,v,e,l,n,d1,d2⟩:=o8 Q hP (ET Q.I hP nf)
 rw[e,Du Q l hP n nf d1 d2]
theorem FO(Q:nK ns sizes raw Ls T idle)(hj:j<sizes.length):∀ l∈Ls,l.length=sizes.length/\0<=vf l j/\vf l j<2^20:=λl hl=>by
 obtain⟨i,hi,rfl⟩:=List.mem_iff_getElem.mp hl
 have e:Ls[i]=Ls.getD i []:=by rw[List.getD_eq_getElem?_getD,List.getElem?_eq_getElem hi];rfl
 have k:=Q.kp hi
 rw[e]
 have:=k.2 j hj
 have:=nX Q.S j hj
 exact⟨k.1,by omega,by omega⟩
theorem we(Q:nK ns sizes raw Ls T idle)(hb:Bd 200 P):gz [.lst (Ls.map tI),tI P,lI sizes]=M.ok (lI (JC sizes Ls P)):=by
 have l6:=Q.S.h6
 have m8:=Q.m8
 refine iX.eq ?_
 unfold gz i5
 dsimp? [eU,G5]
 refine iX.loop (xs:=sizes.zipIdx) (inj:=λa=>.tup [.int (a.2:Int),.int a.1]) (λzs env=>∃ (F:List Int) (y4 y5:Option SV),env=[some (.sh (.lst (Ls.map tI))),some (.sh (tI P)),some (.sh (lI sizes)),some (.ow (F.map PV.int)),y4,y5]/\zs=sizes.zipIdx.drop F.length/\F.length<=sizes.length/\F=(sizes.zipIdx.take F.length).map λa=>dot P (col Ls a.2)%a.1) ⟨[],none,none,rfl,rfl,Nat.zero_le _,rfl⟩ ?_ ?_
 ·rintro a rr env ⟨F,y4,y5,rfl,hd,hF,eF⟩
  obtain⟨c1,c2,c3⟩:=drop_cons hd.symm
  have O0:F.length<sizes.length:=by rw[List.length_zipIdx] at c1;exact c1
  rw[List.getElem?_eq_getElem c1] at c2
  have c2:=Option.some.inj c2
  have ma:a∈sizes.zipIdx:=by rw[← c2];exact List.getElem_mem _
  have a2:=List.snd_lt_of_mem_zipIdx ma
  have a1:=Q.S.hx _ (List.fst_mem_of_mem_zipIdx ma)
  have key:cj (cA 0 1) none (ak bZ (af 0) (ak aV (af 1) (af 2))) ((P.zip Ls).map λz=>.tup [.int z.1,tI z.2]) [none,none,some (.sh (.int (a.2:Int)))]=M.ok ((P.zip (col Ls a.2)).map λz=>.int (z.1*z.2)):=by
   rw[col,List.zip_map_right,List.map_map]
   refine kN (p:=λz:Int×List Int=>PV.int z.1) (q:=λz=>tI z.2) (P.zip Ls) λz hz=>?_
   obtain⟨n1,n2⟩:=List.of_mem_zip (a:=z.1) (b:=z.2) hz
   obtain⟨rl,b0,b1⟩:=FO Q (show a.2<sizes.length by omega) _ n2
   have:aV (tI z.2) (.int (a.2:Int))=M.ok (.int (vf z.2 a.2)):=bB (p:=tI z.2) rfl (by rw[List.getElem?_map,aY (by omega),List.getElem?_eq_getElem (by omega)];rfl)
   dsimp? [this,bC (i:=z.1) (j:=vf z.2 a.2) (k:=200) (l:=20) (hb _ n1) (by omega)]
   rfl
  have z1:(P.zip Ls).length<=sizeLine:=by rw[List.length_zip];exact aX (Nat.le_trans (Nat.min_le_right _ _) (by omega))
  dsimp? [cA,fw (p:=tI P) (q:=.lst (Ls.map tI)) (f:=PV.int) (g:=tI) P Ls rfl rfl,List.length_map,ay z1,key,HK,aO (i:=dot P (col Ls a.2)) (j:=a.1) (by omega),jV,ownAt,jO (xs:=F.map PV.int) (show (F.map PV.int).length<1000 by simp;omega),gb]
  refine⟨_,rfl,F++[dot P (col Ls a.2)%a.1],_,_,rfl,by rw[List.length_append];exact c3.symm,by rw[List.length_append];exact O0,?_⟩
  rw[List.length_append,List.length_singleton,List.take_succ_eq_append_getElem c1,List.map_append,← eF,c2]
  rfl
 ·rintro env ⟨F,y4,y5,rfl,hd,hF,eF⟩
  have ec:sizes.zipIdx.length<=F.length:=List.drop_eq_nil_iff.mp hd.symm
  rw[List.take_of_length_le ec] at eF
  dsimp? []
  exact⟨_,rfl,by rw[eF];rfl⟩
theorem FT(Q:nK ns sizes raw Ls T idle){F:List Int}(hP:P.length=Ls.length)(hF:F.length=Ls.length)(d1:Led sizes.length (vf sizes) Ls.length (AA Ls) v (vf F))(d2:Led sizes.length (vf sizes) Ls.length (AA Ls) v (vf P)):JC sizes Ls F=JC sizes Ls P:=by
 unfold JC
 refine List.map_congr_left λa ha=>?_
 have a2:=List.snd_lt_of_mem_zipIdx ha
 have hj:a.2<sizes.length:=by omega
 have e:∀ {X:List Int},X.length=Ls.length->dot X (col Ls a.2)=dj Ls.length λl=>vf X l*AA Ls l a.2:=λ{X} hX=>by
  rw[CZ hX (by simp[col])]
  refine fm λi hi=>?_
  rw[col,Gk _ _ hi]
  unfold AA
  rw[List.getD_eq_getElem?_getD,List.getElem?_eq_getElem hi];rfl
 have a1:a.1=vf sizes a.2:=by
  have:=List.fst_eq_of_mem_zipIdx ha
  rw[aY hj,this]
  simp
 rw[e hF,e hP,a1]
 refine Int.emod_eq_emod_iff_emod_sub_eq_zero.mpr (Int.emod_eq_zero_of_dvd ?_)
 obtain⟨x,hx⟩:=d1 a.2 hj
 obtain⟨y,hy⟩:=d2 a.2 hj
 exact⟨y-x,by grind⟩
theorem Bi(x:Int):fV [.int x,.int x]=M.ok (.bl true):=by
 unfold fV fZ
 dsimp? [decide_true]
theorem DX(F:List Int)(h:F.length<=1000):gO [tI F,tI F]=M.ok (.bl true):=by
 have key:∀ (l:List Int) (e:Option SV),cj (cB 0) (some (eW (sG (λa=>a == "bool") kT kT (af 0)))) (af 0) (l.map PV.int) [e]=M.ok []:=λl=>by
  induction l with
  | nil=>exact λ_=>rfl
  | cons x r ih =>
   intro e
   rw[List.map_cons,cj]
   dsimp? [cB,ih]
 have z1:F.length<=sizeLine:=aX h
 unfold gO gJ
 dsimp? [AI,decide_true,List.length_map,ay z1,key]
 rfl
end
section
variable{raw:List (List Int)}{P:List Int}
theorem C9(Q:nK ns sizes raw Ls T idle)(hP:P.length=Ls.length)(hb:Bd 200 P):gM [dM sizes Ls,.lst (Ls.map tI),lI (rY idle),tI P,lI sizes]=M.ok (.bl true):=by
 have m8:=Q.m8
 have il:(rY idle).length=Ls.length:=m7.trans Q.I.len
 obtain⟨F,v,e,lF,nf,d1,d2⟩:=o8 Q hP hb
 have each:∀ z∈F.zip (rY idle),0<=z.1/\z.1<z.2:=λz hz=>by
  obtain⟨i,hi,rfl⟩:=List.mem_iff_getElem.mp hz
  rw[List.length_zip] at hi
  have n:=nf i (by omega)
  rw[List.getElem_zip,← aY,← aY,AN (by rw[Q.I.len];omega)]
  exact n
 refine iX.eq ?_
 unfold gM gW
 dsimp? [e,List.length_map,lF,decide_true,fw (p:=tI F) (q:=lI (rY idle)) F (rY idle) rfl rfl]
 refine iX.loop (xs:=F.zip (rY idle)) (inj:=λz=>.tup [.int z.1,.int z.2]) (λzs env=>∃ y6 y7,env=[some (.sh (dM sizes Ls)),some (.sh (.lst (Ls.map tI))),some (.sh (lI (rY idle))),some (.sh (tI P)),some (.sh (lI sizes)),some (.sh (tI F)),y6,y7]/\∀ z∈zs,0<=z.1/\z.1<z.2) ⟨none,none,rfl,each⟩ ?_ ?_
 ·rintro z r env ⟨y6,y7,rfl,hz⟩
  have h:=hz z List.mem_cons_self
  dsimp? [cA,Bi,h.1,h.2,decide_true]
  exact⟨_,rfl,_,_,rfl,λz Oc=>hz z (List.mem_cons_of_mem _ Oc)⟩
 ·rintro env ⟨y6,y7,rfl,_⟩
  dsimp? [we Q (ET Q.I lF nf),we Q hb,FT Q hP lF d1 d2,G4,decide_true,yz Q lF nf,DX F (by omega)]
  exact⟨_,rfl,rfl⟩
theorem uV(Q:nK ns sizes raw Ls T idle){p:PV}(h:bD [dM sizes Ls,p]=M.ok (.bl false)):d_ [dM sizes Ls,p]=some (.error (bp,none)):=by
 have np:de [dM sizes Ls,p]=some (.error (bp,none)):=by
  unfold de dR
  dsimp? [h,jw,ay (aX (show 1<=1000 by decide))]
 have tu:ig [dM sizes Ls,tI (List.replicate sizes.length 0),p]=some (.error (bp,none)):=by
  unfold ig jM
  dsimp? [r0 (levers:=Ls) Q.S (za (by simp) (jJ Q.S)),np]
 unfold d_ ib
 dsimp? [j0 (Ls:=Ls) Q.S.h6,tu,Q.JG,iA,IB (m := "pulls_to") rfl]
theorem Ll:uL e8 fc bp=some true:=by decide
theorem KJ:yJ (λ_=>false) (uL iT i_) (uL eM eG) (.exc bp none)=M.ok (.bl true):=by
 show eD ((uL eM eG bp).map .bl)=_
 rw[show uL eM eG bp=some true by decide];rfl
theorem LU:IU JZ (.exc bp none)=M.ok (.bl true):=ay (by decide)
theorem J4:pd (.lst [.bl true,.bl true]) (.lst [.bl true,.bl true])=M.ok (.bl true):=by
 simp only[pd,nR,dat,mU,Option.map_some,Option.bind_some,EG]
 rw[ay (by decide)]
 rfl
theorem eT(Q:nK ns sizes raw Ls T idle){p:PV}(h:bD [dM sizes Ls,p]=M.ok (.bl false)):cw [dM sizes Ls,p]=M.ok (.bl true):=by
 unfold cw er
 dsimp? [Cj,uV Q h,vx,u_,Ll,FL,BF,qR,KJ,Hb,LU,J4]
theorem DH(xs:List PV):bD [dM sizes Ls,.lst xs]=M.ok (.bl false):=by
 unfold bD cW
 dsimp? []
theorem DO:bD [dM sizes Ls,.cL]=M.ok (.bl false):=by
 unfold bD cW
 dsimp? []
theorem Co(i:Int):bD [dM sizes Ls,.int i]=M.ok (.bl false):=by
 unfold bD cW
 dsimp? []
theorem ym(x:Str):cH [.str x]=M.ok (.bl false):=by rfl
def JO:PV->Bool
 | .int _=>true
 | _=>false
theorem qW(m8:Ls.length<=8)(xs:List PV)(hx:∀ x∈xs,(∃ i,x=.int i)\/(∃ b,x=.bl b)\/x=.cL\/∃ s,x=.str s)(hz:xs.length<=1000)(h:(decide ((xs.length:Int)=(Ls.length:Nat))&&xs.all JO)=false):bD [dM sizes Ls,.tup xs]=M.ok (.bl false):=by
 have r:=sD (p:=.tup xs) (inj:=λx:PV=>x) (h:=JO) xs (Ls.length:Nat) (.inl (by simp)) (λa ha=>by
  rcases hx a ha with ⟨i,rfl⟩ | ⟨b,rfl⟩ | rfl | ⟨s,rfl⟩
  ·exact jY i
  ·exact yY b
  ·exact yC
  ·exact ym s) (aX hz)
 rw[h] at r
 unfold bD cW
 dsimp? [iA,KH,List.length_map,r]
end
theorem Bm{c:Int}(h:Builtin.Int.intBits c<=k)(hk:k+7<=67108864):(c.natAbs+100).log2<67108864:=by
 have a:c.natAbs<2^k:=by
  by_cases z:c=0
  ·subst z;exact Nat.two_pow_pos k
  ·have e:Builtin.Int.intBits c=c.natAbs.log2+1:=by
    unfold Builtin.Int.intBits
    rw[if_neg (by simpa using z)]
   rw[e] at h
   exact(Nat.log2_lt (by omega)).mp h
 have b:c.natAbs+100<2^(k+7):=by
  rw[Nat.pow_add]
  have:=Nat.two_pow_pos k
  omega
 have d:=(Nat.log2_lt (show c.natAbs+100≠0 by omega)).mpr b
 omega
theorem qv(ns:List Int)(hb:∀ i∈ns,Builtin.Int.intBits i<=1048576)(k:Nat):∃ c,bV [.jh (ns.map PV.int),.int (k:Int)]=M.ok (.int c)/\Builtin.Int.intBits c<=1048576:=by
 unfold bV fg
 by_cases h:k<ns.length
 ·refine⟨ns[k],?_,hb _ (List.getElem_mem h)⟩
  have h':(k:Int)<((ns.length:Nat):Int):=by omega
  have e:=bB (p:=.jh (ns.map PV.int)) (xs:=ns.map PV.int) (j:=k) (x:=.int ns[k]) rfl (by rw[List.getElem?_map,List.getElem?_eq_getElem h];rfl)
  dsimp? [List.length_map,h',decide_true,e]
 ·refine⟨0,?_,by decide⟩
  have h':¬ (k:Int)<((ns.length:Nat):Int):=by omega
  dsimp? [List.length_map,h',decide_false]
theorem n6(p:PV){k:Int}(n:Nat)(hk:k=(n:Int))(h8:n<=1000):bZ (.tup [p]) (.int k)=M.ok (.tup (List.replicate n p)):=by
 subst hk
 have b24:sizeLine=2^24:=rfl
 rw[bZ,ay ⟨rfl,by omega,by omega,by simp;omega⟩]
 simp
theorem Dq(xs ys:List PV)(h:xs.length+ys.length<=1000):cP (.tup xs) (.tup ys)=M.ok (.tup (xs++ys)):=by
 rw[cP,ay (aX h)]
theorem iX.HV{R:β->Prop}{set:PV->ai->M ai}{body:ai->M Out}{k:Out->M β}{xs:List PV}{env:ai}(J:List PV->ai->Prop)(h:J xs env)
  (H:∀ a r env,J (a::r) env->iX (M.bind (set a env) body) (Tn (J r) (λ_=>False) λ_=>False)) (hk:∀ Mh,J [] Mh->iX (k (.nx Mh)) R):iX (M.bind (jK set body xs env) k) R:=by
 have:=iX.loop (inj:=λx:PV=>x) (xs:=xs) J h H hk
 rwa [List.map_id'] at this
theorem GV(ns:List Int)(hb:∀ i∈ns,Builtin.Int.intBits i<=1048576):qm [.jh (ns.map PV.int)]=M.ok (.bl true):=by
 obtain⟨c0,ec,bc⟩:=qv ns hb 0
 obtain⟨c1,ec1,_⟩:=qv ns hb 1
 rw[show ((0:Nat):Int)=0 from rfl] at ec
 rw[show ((1:Nat):Int)=1 from rfl] at ec1
 obtain⟨_,es,sizes,rfl,S,hp⟩:=wX c0 (N:=c0.natAbs) (Bm bc (by decide)) (Nat.le_refl _)
 have l6:=S.h6
 obtain⟨em,m0,m1⟩:=yI c1 1 (by decide)
 obtain⟨n,hn⟩:=Int.eq_ofNat_of_zero_le (show 0<=mx c1 1%9 by omega)
 have n8:n<=8:=by omega
 obtain⟨f,hf⟩:=Classical.axiomOfChoice (r:=λ(i:Nat) (l:List Int)=>(∃ c,bV [.jh (ns.map PV.int),.int (2+(i:Int))]=M.ok (.int c)/\c8 [.int c,lI sizes]=M.ok (lI l))/\l.length=sizes.length/\Bd 200 l) λi=>by
  obtain⟨c,e⟩:=Di ns (2+i)
  rw[show ((2+i:Nat):Int)=2+(i:Int) by omega] at e
  obtain⟨_,el,l,rfl,h1,h2⟩:=AJ S c
  exact⟨l,⟨c,e,el⟩,h1,h2⟩
 let raw:=(List.range n).map f
 have hr:∀ l∈raw,l.length=sizes.length/\Bd 200 l:=λl hl=>by
  obtain⟨i,_,rfl⟩:=List.mem_map.mp hl
  exact(hf i).2
 have rl:raw.length=n:=by simp[raw]
 obtain⟨Ls,T,idle,Q⟩:=nK.get ns S (raw:=raw) (by omega) hr
 have ll:Ls.length=n:=Q.hm.symm.trans rl
 have m8:=Q.m8
 have kl:cj (cB 0) none (aj c8 (aa (aj bV (aa (af 1) (aa (ak cP (λ_=>M.ok (.int 2)) (af 0)) aq))) (aa (af 2) aq))) ((List.range n).map λ(i:Nat)=>.int (i:Int)) [none,some (.sh (.jh (ns.map PV.int))),some (.sh (lI sizes))]=M.ok (raw.map lI):=by
  rw[show raw.map lI=(List.range n).map λi=>lI (f i) by simp[raw]]
  refine jD (inj:=λ(i:Nat)=>PV.int (i:Int)) (List.range n) λi hi=>?_
  obtain⟨c,e,el⟩:=(hf i).1
  dsimp? [e,el]
 have kk:cj (cB 0) none (aj fu (aa (af 0) (aa (af 1) aq))) (raw.map lI) [none,some (.sh (lI sizes))]=M.ok (Ls.map tI):=by
  rw[Q.eL,show (raw.map λl=>uD l sizes).map tI=raw.map λl=>tI (uD l sizes) by rw[List.map_map];rfl]
  refine jD (inj:=lI) raw λl hl=>?_
  dsimp? [Dr S (hr l hl).1]
 have zr:(List.range n).length<=sizeLine:=by rw[List.length_range];exact aX (by omega)
 have zl:raw.length<=sizeLine:=by rw[rl];exact aX (by omega)
 have cs:JA (.jh (ns.map PV.int)) (some 10) (some 34)=M.ok (.lst ((wR ns 10 34).map PV.int)):=Dh ns 10 34
 refine iX.eq ?_
 unfold qm zh
 dsimp? [ec,es,ec1,em,aO (i:=mx c1 1) (j:=9) (by decide),hn,iB (n:=(n:Int)) (by omega) (by omega),Int.toNat_natCast,List.length_map,ay zr,kl,show PV.lst (sizes.map PV.int)=lI sizes from rfl,Q.Lk (f:=lI) (.inr rfl) (p:=lI sizes) rfl,ay zl,kk,zU Q hp,vC,qP,Ij,cs]
 refine iX.loop (xs:=wR ns 10 34) (inj:=PV.int) (λzs env=>∃ y7,env=[some (.sh (.jh (ns.map PV.int))),some (.sh (lI sizes)),some (.sh (.int (n:Int))),some (.sh (.lst (raw.map lI))),some (.sh (dM sizes Ls)),some (.sh (.lst (Ls.map tI))),some (.sh (lI (rY idle))),y7,none]) ⟨_,rfl⟩ ?_ ?_
 ·rintro a r env ⟨y7,rfl⟩
  obtain⟨_,e,P,rfl,pl,pb⟩:=xT a n n8
  dsimp? [cB,e,C9 Q (pl.trans ll.symm) pb]
  exact⟨_,rfl,_,rfl⟩
 rintro env ⟨y7,rfl⟩
 have r1:=eT Q (DH (sizes:=sizes) (Ls:=Ls) (List.replicate n (.int 0)))
 have r2:=eT Q (qW (sizes:=sizes) m8 (List.replicate (n+1) (.int 0)) (λx hx=>.inl ⟨0,List.eq_of_mem_replicate hx⟩) (by simp;omega) (by rw[List.length_replicate,decide_eq_false (by omega)];rfl))
 have r3:=eT Q (DO (sizes:=sizes) (Ls:=Ls))
 have r4:=eT Q (qW (sizes:=sizes) m8 (List.replicate (n+1) (.bl true)) (λx hx=>.inr (.inl ⟨true,List.eq_of_mem_replicate hx⟩)) (by simp;omega) (by rw[List.length_replicate,decide_eq_false (by omega)];rfl))
 have r5:=eT Q (Co (sizes:=sizes) (Ls:=Ls) 7)
 dsimp? [A0 (.int 0) n (by omega),n6 (.int 0) (k:=(n:Int)+1) (n+1) (by omega) (by omega),n6 (.bl true) (k:=(n:Int)+1) (n+1) (by omega) (by omega)]
 refine iX.HV (λzs env=>∃ y8,env=[some (.sh (.jh (ns.map PV.int))),some (.sh (lI sizes)),some (.sh (.int (n:Int))),some (.sh (.lst (raw.map lI))),some (.sh (dM sizes Ls)),some (.sh (.lst (Ls.map tI))),some (.sh (lI (rY idle))),y7,y8]/\∀ z∈zs,cw [dM sizes Ls,z]=M.ok (.bl true)) ⟨_,rfl,λz hz=>?_⟩ ?_ ?_
 ·simp only[List.mem_cons,List.not_mem_nil,or_false] at hz
  rcases hz with rfl | rfl | rfl | rfl | rfl
  ·exact r1
  ·exact r2
  ·exact r3
  ·exact r4
  ·exact r5
 ·rintro a r env ⟨y8,rfl,hz⟩
  dsimp? [cB,hz a List.mem_cons_self]
  exact⟨_,rfl,_,rfl,λz h=>hz z (List.mem_cons_of_mem _ h)⟩
 rintro env ⟨y8,rfl,_⟩
 by_cases h0:n=0
 ·subst h0
  dsimp? [decide_true]
  exact⟨_,rfl,rfl⟩
 ·have h0':¬ ((n:Int)=0):=by omega
  obtain⟨x,ex,hx⟩:∃ x,aV (.lst [.cL,.bl true,.str "1"]) (.int ((n:Int)%3))=M.ok x/\(x=.bl true\/x=.cL\/x=.str "1"):=by
   rcases show (n:Int)%3=0\/(n:Int)%3=1\/(n:Int)%3=2 by omega with h | h | h <;> rw[h]
   ·exact⟨_,bB (p:=.lst [.cL,.bl true,.str "1"]) (j:=0) rfl rfl,.inr (.inl rfl)⟩
   ·exact⟨_,bB (p:=.lst [.cL,.bl true,.str "1"]) (j:=1) rfl rfl,.inl rfl⟩
   ·exact⟨_,bB (p:=.lst [.cL,.bl true,.str "1"]) (j:=2) rfl rfl,.inr (.inr rfl)⟩
  have r6:=eT Q (qW (sizes:=sizes) m8 (List.replicate (n-1) (.int 0)++[x]) (λy hy=>by
   rcases List.mem_append.mp hy with z | z
   ·exact .inl ⟨0,List.eq_of_mem_replicate z⟩
   ·rw[List.mem_singleton.mp z]
    rcases hx with rfl | rfl | rfl
    ·exact .inr (.inl ⟨_,rfl⟩)
    ·exact .inr (.inr (.inl rfl))
    ·exact .inr (.inr (.inr ⟨_,rfl⟩))) (by simp;omega) (by
   have:JO x=false:=by rcases hx with rfl | rfl | rfl <;> rfl
   rw[List.all_append,List.all_cons,this];simp))
  dsimp? [h0',decide_false,n6 (.int 0) (k:=(n:Int)-1) (n-1) (by omega) (by omega),aO (i:=(n:Int)) (j:=3) (by decide),ex,Dq (List.replicate (n-1) (.int 0)) [x] (by simp;omega),r6]
  exact⟨_,rfl,rfl⟩
end uK
theorem PySem.Challenge.cw_dialvault_k33_normal_forms_of_pulls_holds : PySem.Challenge.rw_dialvault_k33_normal_forms_of_pulls.Holds :=
  uK.hold HD.said λns _ hb => uK.GV ns hb
end