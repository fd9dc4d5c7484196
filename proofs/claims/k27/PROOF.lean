import PyProof.Rows.All
import Wide.All
import OpenK.AllK
import Wide.FinOn
import Lean
import PyProof.EqAt
import PyProof.EqKinds
import PyProof.TupleCall
import PySem.Challenge.RW_dialvault_k27_whole_one_paper
set_option Elab.async false
set_option linter.all false
set_option maxRecDepth 100000
set_option maxHeartbeats 0
noncomputable section
namespace L2
open PySem PySem.Spec PyProof.Rows
abbrev Key:=Sum Int Str
def Gb:Key->Value->Bool
 | .inl k,v=>Value.isInt k v
 | .inr x,v=>Value.isStrOf x v
def Mh(w:World):Key->Int
 | .inl k=>hashInt k
 | .inr x=>hashStr w x
theorem cC:∀ {k:Key} {v:Value},Gb k v=true->(∃ i t,k=Sum.inl i/\v=Value.int i t)\/(∃ x t,k=Sum.inr x/\v=Value.str x t)
 | .inl i,v,h=>by
  obtain⟨t,e⟩:=Value.isInt_shape (k:=i) (v:=v) h
  exact .inl ⟨i,t,rfl,e⟩
 | .inr x,v,h=>by
  obtain⟨t,e⟩:=Value.isStrOf_shape (x:=x) (v:=v) h
  exact .inr ⟨x,t,rfl,e⟩
theorem Jb(a b:Int):decide ((Sum.inl a:Key)=Sum.inl b)=(a==b):=by
 by_cases e:a=b
 ·subst e;simp
 ·have h:¬ (Sum.inl a:Key)=Sum.inl b:=λq=>e (Sum.inl.inj q)
  rw[decide_eq_false h]
  exact(beq_eq_false_iff_ne.mpr e).symm
theorem Hl(a b:Str):decide ((Sum.inr a:Key)=Sum.inr b)=decide (a=b):=by
 by_cases e:a=b
 ·subst e;simp
 ·have h:¬ (Sum.inr a:Key)=Sum.inr b:=λq=>e (Sum.inr.inj q)
  rw[decide_eq_false h,decide_eq_false e]
theorem Jn(a:Int)(b:Str):decide ((Sum.inl a:Key)=Sum.inr b)=false:=decide_eq_false (λq=>nomatch q)
theorem HZ(a:Str)(b:Int):decide ((Sum.inr a:Key)=Sum.inl b)=false:=decide_eq_false (λq=>nomatch q)
def zo(prog:Program)(w:World):PySem.KeyKind prog w Key where
 is:=Gb
 hash:=Mh w
 inj:=λv a b ha hb=>by
  rcases cC ha with ⟨i,t,rfl,rfl⟩ | ⟨x,t,rfl,rfl⟩
  ·rcases cC hb with ⟨j,u,rfl,e⟩ | ⟨y,u,rfl,e⟩
   ·injection e with e1 _;rw[e1]
   ·exact nomatch e
  ·rcases cC hb with ⟨j,u,rfl,e⟩ | ⟨y,u,rfl,e⟩
   ·exact nomatch e
   ·injection e with e1 _;rw[e1]
 byValue:=λk v h=>by
  rcases cC h with ⟨i,t,rfl,rfl⟩ | ⟨x,t,rfl,rfl⟩ <;> rfl
 pyHash:=λhv h=>by
  rcases cC hv with ⟨i,t,rfl,rfl⟩ | ⟨x,t,rfl,rfl⟩
  ·exact wpAny_pyHash_int h
  ·exact wpAny_pyHash_str h
 eqBool:=λhu hv h=>by
  rcases cC hu with ⟨i,t,rfl,rfl⟩ | ⟨x,t,rfl,rfl⟩
  ·rcases cC hv with ⟨j,u,rfl,rfl⟩ | ⟨y,u,rfl,rfl⟩
   ·rw[Jb] at h;exact wpAny_eqBool_int h
   ·rw[Jn] at h;exact SeqAt.EqAt.int_str i t y u _ _ _ _ h
  ·rcases cC hv with ⟨j,u,rfl,rfl⟩ | ⟨y,u,rfl,rfl⟩
   ·rw[HZ] at h;exact SeqAt.EqAt.str_int x t j u _ _ _ _ h
   ·rw[Hl] at h;exact wpAny_eqBool_str h
 «strs»:=λk x t v h=>by
  rcases cC h with ⟨i,u,rfl,e⟩ | ⟨y,u,rfl,e⟩
  ·exact nomatch e
  ·injection e with e1 _
   subst e1
   cases v <;> rfl
end L2
namespace L2
open PySem PySem.Spec PyProof.Rows
inductive V where
 | b_ | bl (b:Bool) | int (i:Int) | str (x:Str) | byt (b:Array UInt8) | Gk (b:UInt64) | ref (a:Addr) | ty (n:String)
 deriving DecidableEq
def RelV:V->Value->Prop
 | .b_,u=>u=Value.none
 | .bl b,u=>u=Value.bool b
 | .int i,u=>∃ t,u=Value.int i t
 | .str x,u=>∃ t,u=Value.str x t
 | .byt b,u=>∃ t,u=Value.bytes b t
 | .Gk b,u=>∃ t,u=Value.float b t
 | .ref a,u=>u=Value.ref a
 | .ty n,u=>u=Value.type n
abbrev Vals:List V->List Value->Prop:=Paired RelV
theorem Vals.length{xs:List V}{us:List Value}(r:Vals xs us):xs.length=us.length:=Paired.length r
theorem Vals.get:∀ {xs:List V} {us:List Value} {i:Nat} {x:V},Vals xs us->xs[i]?=some x->∃ u,us[i]?=some u/\RelV x u
 | _,_,_,_,.nil,e=>by simp at e
 | _,_,0,_,.cons r _,e=>by simp at e;subst e;exact⟨_,rfl,r⟩
 | _,_,i+1,x,.cons _ t,e=>by
  obtain⟨u,h1,h2⟩:=Vals.get (i:=i) (x:=x) t (by simpa using e)
  exact⟨u,by simpa using h1,h2⟩
theorem Vals.set{x:V}{u:Value}(r:RelV x u):∀ {xs:List V} {us:List Value} (i:Nat),Vals xs us->Vals (xs.set i x) (us.set i u)
 | _,_,_,.nil=>.nil
 | _,_,0,.cons _ t=>.cons r t
 | _,_,i+1,.cons q t=>.cons q (Vals.set r i t)
theorem Vals.append:∀ {xs ys:List V} {us ws:List Value},Vals xs us->Vals ys ws->Vals (xs++ys) (us++ws)
 | _,_,_,_,.nil,s=>s
 | _,_,_,_,.cons r t,s=>.cons r (Vals.append t s)
theorem Vals.take:∀ {xs:List V} {us:List Value} (n:Nat),Vals xs us->Vals (xs.take n) (us.take n)
 | _,_,0,_=>.nil
 | _,_,_+1,.nil=>.nil
 | _,_,n+1,.cons r t=>.cons r (Vals.take n t)
theorem Vals.drop:∀ {xs:List V} {us:List Value} (n:Nat),Vals xs us->Vals (xs.drop n) (us.drop n)
 | _,_,0,r=>r
 | _,_,_+1,.nil=>.nil
 | _,_,n+1,.cons _ t=>Vals.drop n t
def oF:Option V->Option Value->Prop
 | some v,some u=>RelV v u
 | none,none=>True
 | _,_=>False
def KV{κ:Type}:List (κ×V)->List (κ×Value)->Prop:=Paired λ(p:κ×V) (q:κ×Value)=>p.1=q.1/\RelV p.2 q.2
def kV:Key->V
 | .inl i=>.int i
 | .inr x=>.str x
inductive HO where
 | lst (xs:List V)
 | tup (xs:List V)
 | dK (O_:List (Key×V)) | dT (O_:List (List Key×V))
 | set (S:Int->Bool) (n:Nat)
 | ins (C dx:Addr) (fs:List (Str×V))
 | own (x:Addr)
 | xd (fs:List (Str×V))
 | met (f x:Addr)
 | iO (lo hi:Int)
 | sE (o:Obj) (u:HO)
 | Gh (ps:Array Value)
 | ext (φ:Heap->Prop)
abbrev Hp:=Addr->Option HO
def upd(H:Hp)(a:Addr)(o:HO):Hp:=λb=>if b=a then some o else H b
theorem aE{H:Hp}{a:Addr}{o:HO}:upd H a o a=some o:=by unfold upd;rw[if_pos rfl]
theorem ax{H:Hp}{a b:Addr}{o:HO}(h:b≠a):upd H a o b=H b:=by unfold upd;rw[if_neg h]
theorem zR{H:Hp}{a:Addr}{o u:HO}:upd (upd H a o) a u=upd H a u:=by
 funext b;unfold upd;split <;> rfl
theorem bQ{H:Hp}{a b:Addr}{o:HO}(h:H a=some o)(h':H b=none):a≠b:=by
 intro e;subst e;rw[h] at h';cases h'
section
variable(P:Program)(w:World)
def cp(H:Hp)(h:Heap)(a:Addr):HO->Prop
 | .lst xs=>xs.length<=sizeLine/\∃ (Ob:List Value) (n:Nat),Vals xs Ob/\h.get? a=some { cls:=.type "list", data:=.seq Ob.toArray n }
 | .tup xs=>xs.length<=sizeLine/\∃ Ob:List Value,Vals xs Ob/\IsTup h a Ob.toArray
 | .dK O_=>O_.length<=sizeLine/\(a==sysModules)=false/\∃ vs,KV O_ vs/\h.DictOf (zo P w) a vs
 | .dT O_=>O_.length<=sizeLine/\(a==sysModules)=false/\∃ xs:List (List Key×Addr×Value),
   Paired (λ(p:List Key×V) (q:List Key×Addr×Value)=>p.1=q.1/\H q.2.1=some (.tup (p.1.map kV))/\RelV p.2 q.2.2) O_ xs ∧
   ∃ o es ep,h.get? a=some o/\o.ExactDict/\o.data=.dict es ep/\es.toList=xs.map (entryOfKey (tupleKind (zo P w)))/\(xs.map (·.1)).Nodup
 | .set S n=>h.SetOf (intKind P w) a S n
 | .ins C dx fs=>H dx=some (.own a)/\fs.length<=1000/\dx≠a/\h.get? a=some (PySem.W.instObj C dx) ∧
   ∃ mA,h.Ns1 dx mA/\(∀ f,oF (fs.lookup f) (mA f))/\PySem.Within mA (fs.map (·.1))
 | .own _=>∃ o,h.get? a=some o
 | .xd fs=>∃ mA,h.Ns1 a mA/\∀ f,oF (fs.lookup f) (mA f)
 | .iO lo hi=>∃ t u v,h.get? a=some { cls:=.type "range", data:=.fields #[.int lo t,.int hi u,.int 1 v] }
 | .sE o u=>h.get? a=some o/\cp H h a u
 | .Gh ps=>h.get? a=some { cls:=.none,data:=.fields ps }
 | .met f x=>h.get? a=some (PySem.W.methodObj (.ref f) (.ref x))
 | .ext φ=>φ h/\(∃ o,h.get? a=some o)/\∀ h1 h2:Heap,φ h1->(∀ o,h1.get? a=some o->h2.get? a=some o)->φ h2
def oy(H:Hp)(h:Heap):Prop:=∀ a o,H a=some o->cp P w H h a o
end
section
variable{P:Program}{w:World}{H H':Hp}{h h':Heap}{a:Addr}{o:HO}
theorem cp.lt(x:cp P w H h a o):a<h.objs.size:=by
 cases o with
 | lst xs=>obtain⟨_,_,_,_,e⟩:=x;exact Heap.lt_size e
 | tup xs=>obtain⟨_,_,_,p⟩:=x;exact p.lt
 | dK O_=>obtain⟨_,_,_,_,o,_,_,e,_⟩:=x;exact Heap.lt_size e
 | dT O_=>obtain⟨_,_,_,_,o,_,_,e,_⟩:=x;exact Heap.lt_size e
 | set S n=>obtain⟨o,_,_,_,e,_⟩:=x;exact Heap.lt_size e
 | ins C dx fs=>obtain⟨_,_,_,e,_⟩:=x;exact Heap.lt_size e
 | own y=>obtain⟨_,e⟩:=x;exact Heap.lt_size e
 | xd fs=>obtain⟨_,⟨_,_,_,e,_⟩,_⟩:=x;exact Heap.lt_size e
 | iO lo hi=>obtain⟨_,_,_,e⟩:=x;exact Heap.lt_size e
 | sE ob u=>obtain⟨e,_⟩:=x;exact Heap.lt_size e
 | Gh ps=>exact Heap.lt_size (show h.get? a=some _ from x)
 | met f y=>exact Heap.lt_size (show h.get? a=some _ from x)
 | ext φ=>obtain⟨_,⟨_,e⟩,_⟩:=x;exact Heap.lt_size e
theorem Paired.Lf{α β:Type}{F G:α->β->Prop}:∀ {l₁:List α} {l₂:List β},Paired F l₁ l₂->(∀ a b,F a b->G a b)->Paired G l₁ l₂
 | _,_,.nil,_=>.nil
 | _,_,.cons r t,f=>.cons (f _ _ r) (Paired.Lf t f)
theorem cp.mR(x:cp P w H h a o)(k:∀ b u,(b=a\/H b=some (.own a))->h.get? b=some u->h'.get? b=some u)
  (ho:∀ b,H b=some (.own a)->H' b=some (.own a)) (ht:∀ b xs,H b=some (.tup xs)->H' b=some (.tup xs)):cp P w H' h' a o:=by
 induction o with
 | lst xs=>obtain⟨z,Ob,n,r,e⟩:=x;exact⟨z,Ob,n,r,k _ _ (.inl rfl) e⟩
 | tup xs=>obtain⟨z,Ob,r,ob,e,c⟩:=x;exact⟨z,Ob,r,ob,k _ _ (.inl rfl) e,c⟩
 | dK O_=>obtain⟨z,y,vs,r,ob,es,ep,e,c⟩:=x;exact⟨z,y,vs,r,ob,es,ep,k _ _ (.inl rfl) e,c⟩
 | dT O_ =>
  obtain⟨z,y,xs,r,ob,es,ep,e,c⟩:=x
  exact⟨z,y,xs,Paired.Lf r λp q z=>⟨z.1,ht _ _ z.2.1,z.2.2⟩,ob,es,ep,k _ _ (.inl rfl) e,c⟩
 | set S n=>obtain⟨ob,es,ep,t,e,c⟩:=x;exact⟨ob,es,ep,t,k _ _ (.inl rfl) e,c⟩
 | ins C dx fs =>
  obtain⟨d,z,ne,e,mA,⟨od,es,ep,e2,c⟩,r⟩:=x
  exact⟨ho _ d,z,ne,k _ _ (.inl rfl) e,mA,⟨od,es,ep,k _ _ (.inr d) e2,c⟩,r⟩
 | own y=>obtain⟨ob,e⟩:=x;exact⟨ob,k _ _ (.inl rfl) e⟩
 | xd fs=>obtain⟨mA,⟨od,es,ep,e,c⟩,r⟩:=x;exact⟨mA,⟨od,es,ep,k _ _ (.inl rfl) e,c⟩,r⟩
 | iO lo hi=>obtain⟨t,u,v,e⟩:=x;exact⟨t,u,v,k _ _ (.inl rfl) e⟩
 | sE ob u ih=>obtain⟨e,q⟩:=x;exact⟨k _ _ (.inl rfl) e,ih q⟩
 | Gh ps =>
  have e:h.get? a=some { cls:=.none,data:=.fields ps }:=x
  show h'.get? a=some { cls:=.none,data:=.fields ps }
  exact k a _ (.inl rfl) e
 | met f y =>
  have e:h.get? a=some (PySem.W.methodObj (.ref f) (.ref y)):=x
  show h'.get? a=some (PySem.W.methodObj (.ref f) (.ref y))
  exact k a _ (.inl rfl) e
 | ext φ=>obtain⟨p,⟨o,e⟩,st⟩:=x;exact⟨st _ _ p λo q=>k _ _ (.inl rfl) q,⟨o,k _ _ (.inl rfl) e⟩,st⟩
theorem oy.lt(x:oy P w H h)(e:H a=some o):a<h.objs.size:=(x a o e).lt
theorem oy.fresh(x:oy P w H h)(e:h.objs.size<=a):H a=none:=by
 cases q:H a with
 | none=>rfl
 | some u=>exact absurd (Nat.lt_of_lt_of_le (x.lt q) e) (Nat.lt_irrefl _)
theorem oy.kept(x:oy P w H h)(k:∀ b u,h.get? b=some u->h'.get? b=some u):oy P w H h':=λa o e =>
 (x a o e).mR (λb u _ q=>k b u q) (λ_ q=>q) λ_ _ q=>q
theorem oy.laid(x:oy P w H h)(k:∀ b u,h.get? b=some u->h'.get? b=some u)(hp:h.objs.size<=a)(new:cp P w (upd H a o) h' a o):oy P w (upd H a o) h':=λb u e=>by
 have hn:=x.fresh hp
 by_cases hb:b=a
 ·subst hb;rw[aE] at e;cases e;exact new
 ·rw[ax hb] at e
  exact(x b u e).mR (λc v _ q=>k c v q) (λc q=>by rw[ax (bQ q hn)];exact q) λc xs q=>by rw[ax (bQ q hn)];exact q
end
def Rd(H:Hp)(a:Addr)(u:HO):Prop:=H a=some u\/∃ o,H a=some (.sE o u)
theorem Rd.ok{P:Program}{w:World}{H:Hp}{h:Heap}{a:Addr}{u:HO}(r:Rd H a u)(x:oy P w H h):cp P w H h a u:=by
 rcases r with r | ⟨o,r⟩
 ·exact x a u r
 ·obtain⟨_,q⟩:=x a _ r
  exact q
def LQ:Option HO->Prop
 | some (.lst _)=>True
 | some (.dK _)=>True
 | some (.dT _)=>True
 | some (.set _ _)=>True
 | some (.ins _ _ _)=>True
 | some (.ext _)=>True
 | _=>False
section
variable{P:Program}{w:World}{H:Hp}{h h':Heap}{x e:Addr}{o':HO}
theorem oy.write(ok:oy P w H h)(mu:LQ (H x))(he:e=x\/H e=some (.own x))(k:∀ b u,b≠e->h.get? b=some u->h'.get? b=some u)(Rx:∃ u,h'.get? e=some u)
  (new:cp P w (upd H x o') h' x o'):oy P w (upd H x o') h':=λb u q=>by
 have R3:∀ c y,H c=some (.own y)->c≠x:=λc y r z=>by subst z;rw[r] at mu;exact mu
 have ntup:∀ c xs,H c=some (.tup xs)->c≠x:=λc xs r z=>by subst z;rw[r] at mu;exact mu
 by_cases hb:b=x
 ·subst hb;rw[aE] at q;cases q;exact new
 ·rw[ax hb] at q
  by_cases Qy:b=e
  ·have q':H b=some (.own x):=by
    rcases he with z | z
    ·exact absurd (Qy.trans z) hb
    ·rw[Qy];exact z
   rw[q] at q';cases q'
   obtain⟨v,hv⟩:=Rx
   exact⟨v,by rw[Qy];exact hv⟩
  ·refine(ok b u q).mR (λc v hc r=>k c v ?_ r) (λc r=>by rw[ax (R3 c b r)];exact r) λc xs r=>by rw[ax (ntup c xs r)];exact r
   rcases hc with rfl | hc
   ·exact Qy
   ·rintro rfl
    rcases he with z | z
    ·exact R3 c b hc z
    ·rw[hc] at z;cases z;exact hb rfl
end
structure Un (fs ex:List Addr) (H H':Hp) (h h':Heap):Prop where
 keep:∀ b o,h.get? b=some o->H b=none->b ∉ fs->b ∉ ex->h'.get? b=some o
 slot:∀ b o,h.get? b=some o->H b=none->b∈fs->b ∉ ex->∃ sl,h'.get? b=some { o with slots:=sl }
 free:∀ b o,h.get? b=some o->H b=none->b ∉ ex->H' b=none
 there:∀ b o,h.get? b=some o->b ∉ ex->∃ o',h'.get? b=some o'
 rR:∀ b xs,H b=some (.tup xs)->H' b=some (.tup xs)
 mz:∀ b o u,H b=some (.sE o u)->H' b=some (.sE o u)
 rX:∀ b ps,H b=some (.Gh ps)->∃ more,H' b=some (.Gh (ps++more))
section
variable{fs Q9 ex ex':List Addr}{H H1 H2:Hp}{h h1 h2 h':Heap}{a x e:Addr}{o:HO}
theorem Un.any(u:Un fs ex H H1 h h1){b:Addr}{ob:Obj}(q:h.get? b=some ob)(n:H b=none)(hx:b ∉ ex):∃ sl,h1.get? b=some { ob with slots:=sl }:=by
 by_cases hb:b∈fs
 ·exact u.slot b ob q n hb hx
 ·exact⟨ob.slots,u.keep b ob q n hb hx⟩
theorem Un.kept(k:∀ b u,h.get? b=some u->h'.get? b=some u):Un fs ex H H h h' :=
 ⟨λb ob q _ _ _=>k b ob q,λb ob q _ _ _=>⟨ob.slots,k b ob q⟩,λ_ _ _ n _=>n,λb ob q _=>⟨ob,k b ob q⟩,λ_ _ q=>q,λ_ _ _ q=>q,λ_ ps q=>⟨#[],by rw[q];simp⟩⟩
theorem Un.refl:Un fs ex H H h h:=Un.kept λ_ _ q=>q
theorem Un.laid(k:∀ b u,h.get? b=some u->h'.get? b=some u)(hp:h.objs.size<=a)(hn:H a=none):Un fs ex H (upd H a o) h h' where
 keep:=λb u q _ _ _=>k b u q
 slot:=λb u q _ _ _=>⟨u.slots,k b u q⟩
 free:=λb u q n _=>by rw[ax (Nat.ne_of_lt (Nat.lt_of_lt_of_le (Heap.lt_size q) hp))];exact n
 there:=λb u q _=>⟨u,k b u q⟩
 rR:=λb xs q=>by rw[ax (bQ q hn)];exact q
 mz:=λb u xs q=>by rw[ax (bQ q hn)];exact q
 rX:=λb ps q=>⟨#[],by rw[ax (bQ q hn),q];simp⟩
theorem Un.write(mu:LQ (H x))(he:e=x\/H e=some (.own x))(k:∀ b u,b≠e->h.get? b=some u->h'.get? b=some u)(Rx:∃ u,h'.get? e=some u):Un fs ex H (upd H x o) h h':=by
 have hx:∀ b,H b=none->b≠x:=λb n z=>by subst z;rw[n] at mu;exact mu
 have hb:∀ b,H b=none->b≠e:=λb n z=>by
  subst z
  rcases he with r | r
  ·exact hx b n r
  ·rw[n] at r;cases r
 have hm:∀ b u,H b=some u->¬ LQ (some u)->b≠x:=λb u q nm z=>by subst z;rw[q] at mu;exact nm mu
 refine⟨λb u q n _ _=>k b u (hb b n) q,λb u q n _ _=>⟨u.slots,k b u (hb b n) q⟩,λb u q n _=>by rw[ax (hx b n)];exact n,λb u q _=>?_,
  λb xs q=>by rw[ax (hm b _ q λz=>z)];exact q,λb u xs q=>by rw[ax (hm b _ q λz=>z)];exact q,λb ps q=>⟨#[],by rw[ax (hm b _ q λz=>z),q];simp⟩⟩
 by_cases Qy:b=e
 ·subst Qy;exact Rx
 ·exact⟨u,k b u Qy q⟩
end
def LP(h:Heap)(H:Hp):List Addr:=(List.range h.objs.size).filter λa=>(H a).isSome
def uv(h:Heap)(H:Hp):Heap:=PySem.W.hideAll h (LP h H)
theorem A6(h:Heap)(H:Hp):(uv h H).objs.size=h.objs.size:=PySem.W.hideAll_size _ _
theorem B9{h:Heap}{H:Hp}{b:Addr}{o:Obj}(e:h.get? b=some o)(n:H b=none):(uv h H).get? b=some o :=
 PySem.W.hideAll_get _ e λhm=>by
  have q:(H b).isSome=true:=(List.mem_filter.mp hm).2
  rw[n] at q;simp at q
theorem FQ{h:Heap}{H:Hp}{b:Addr}{o:Obj}(e:(uv h H).get? b=some o):h.get? b=some o/\H b=none:=by
 have e':h.get? b=some o:=PySem.W.of_hideAll (LP h H) e
 refine⟨e',?_⟩
 cases q:H b with
 | none=>rfl
 | some x =>
  have hm:b∈LP h H:=List.mem_filter.mpr ⟨List.mem_range.mpr (Heap.lt_size e'),by simp[q]⟩
  have z:(uv h H).get? b=none:=PySem.W.hideAll_none (LP h H) hm
  rw[z] at e;cases e
def EY(g h:Heap)(L:Addr):List (Addr×Obj):=(List.range h.objs.size).filterMap λa=>if a=L\/(g.get? a).isSome=true then none else (h.get? a).map λo=>(a,o)
def rest(g h:Heap)(L d:Addr):List (Addr×Obj):=(EY g h L).filter λp=>decide (p.1≠d)
end L2
namespace L2
open PySem PySem.Spec PyProof.Rows
structure Mod (K:PySem.W.Frag) (mg:Str->Option Value) (base:Heap):Prop where
 Fe:K.In base
 glob:base.Ns mainGlobals mg
 blt:∃ mb,base.Ns builtinsNs mb/\∀ x:Str,x ≠ "__name__" -> mb x=bootBuiltins x
 nolimit:base.NoLimit
structure Cx where
 prog:Program
 w:World
 K:PySem.W.Frag
 mg:Str->Option Value
 base:Heap
 A:Around
 N:List Str
 s₀:Shared
 H₀:Hp
 env:Env
 outer:List Env
 stack:List Env
 ex:List Addr
 fn:Str->Bool
 calm:Bool
 pn:List (Addr×Obj)
 xe:Value->Shared->Prop
def xE(l:List Env):List Addr:=l.filterMap (·.frame)
abbrev Cx.fs(X:Cx):List Addr:=xE X.outer
def Eb(sc:Scope)(x:Str):Prop:=sc.names.lookup x=some .local\/sc.names.lookup x=some .cell\/sc.names.lookup x=some .free
def Loc(sc:Scope)(x:Str):Prop:=sc.names.lookup x=some .local\/sc.names.lookup x=some .cell
def Look(env:Env)(h:Heap)(m:Str->Option Value)(x:Str)(u:Value):Prop :=
 (env.kindOf x=some .local/\m x=some u)\/((env.kindOf x=some .cell\/env.kindOf x=some .free)/\∃ c,env.cells.lookup x=some c/\h.IsCell c (some u))
structure Cx.Ok (X:Cx):Prop where
 mod:Mod X.K X.mg X.base
 kind:X.env.scope.kind=.function
 glob:X.env.globals=mainGlobals
 blt:X.env.builtins=builtinsNs
 above:X.s₀.heap.objs.size<=X.env.locals
 inj:∀ x y c,X.env.cells.lookup x=some c->X.env.cells.lookup y=some c->x=y
 has:∀ x,(X.env.kindOf x=some .cell\/X.env.kindOf x=some .free)->∃ c,X.env.cells.lookup x=some c
 GU:∀ x c,X.fn x=true->X.env.cells.lookup x=some c->X.s₀.heap.objs.size<=c
 hd:X.calm=true->X.A.handled=none
 frames:X.A.frames=some X.stack
 IB:X.stack=X.outer\/(X.stack=X.env::X.outer/\X.env.frame=some X.env.locals)
 JU:∀ b∈X.ex,b≠X.env.locals/\∀ x c,X.env.cells.lookup x=some c->c≠b
 bs:∀ b o,X.base.get? b=some o->X.s₀.heap.get? b=some o/\X.H₀ b=none
 CO:X.base.objs.size<=X.s₀.heap.objs.size
 vg:∀ b o,X.base.get? b=some o->b ∉ X.ex
 wa:∀ b∈X.ex,b ∉ X.fs
 mv:X.s₀.heap.FunFrames X.base X.outer
 Ec:∀ b∈X.fs,X.H₀ b=none
structure Inv (X:Cx) (N8:List (Addr×Obj)) (σ:List (Option V)) (H:Hp) (s:Shared):Prop where
 ok:X.Ok
 os:s.os=X.s₀.os
 bare:AllBare s.gens
 base:Un X.fs X.ex X.H₀ H X.s₀.heap s.heap
 loc:∃ m,s.heap.Ns X.env.locals m/\∀ (i:Nat) (x:Str) (v:V),X.N[i]?=some x->σ[i]?=some (some v)->Eb X.env.scope x->∃ u,RelV v u/\Look X.env s.heap m x u
 cell:∀ x c,X.env.cells.lookup x=some c->∃ v,s.heap.IsCell c v
 free:H X.env.locals=none
 gM:∀ x c,X.env.cells.lookup x=some c->H c=none
 pin:∀ p∈X.pn++N8,s.heap.get? p.1=some p.2/\H p.1=none/\p.1≠X.env.locals/\p.1 ∉ X.fs/\∀ v,p.2.data≠.cell v
 bC:oy X.prog X.w H s.heap
 len:σ.length=X.N.length
section
variable{X:Cx}{N8:List (Addr×Obj)}{σ:List (Option V)}{H H':Hp}{s:Shared}{h':Heap}
theorem Cx.Ok.Mj(ok:X.Ok){b:Addr}{o:Obj}(e:X.base.get? b=some o):b ∉ X.fs:=λhb=>by
 have:=(ok.mv.mem hb).1
 rw[e] at this;cases this
theorem Inv.bs(I:Inv X N8 σ H s):∀ b o,X.base.get? b=some o->s.heap.get? b=some o/\H b=none:=λb o e =>
 ⟨I.base.keep b o (I.ok.bs b o e).1 (I.ok.bs b o e).2 (I.ok.Mj e) (I.ok.vg b o e),I.base.free b o (I.ok.bs b o e).1 (I.ok.bs b o e).2 (I.ok.vg b o e)⟩
theorem Inv.bk(I:Inv X N8 σ H s):∀ b o,X.base.get? b=some o->s.heap.get? b=some o:=λb o e=>(I.bs b o e).1
theorem Inv.mod(I:Inv X N8 σ H s):Mod X.K X.mg X.base:=I.ok.mod
theorem Inv.jZ(I:Inv X N8 σ H s):X.K.In s.heap:=I.ok.mod.Fe.keeps I.bk
theorem Inv.lt(I:Inv X N8 σ H s):X.env.locals<s.heap.objs.size:=let ⟨_,hn,_⟩:=I.loc;hn.lt
theorem Inv.sz(I:Inv X N8 σ H s):X.s₀.heap.objs.size<=s.heap.objs.size:=Nat.le_trans I.ok.above (Nat.le_of_lt I.lt)
theorem Inv.ML(I:Inv X N8 σ H s){a:Addr}(h:s.heap.objs.size<=a):a ∉ X.fs:=λhb=>by
 obtain⟨_,o,ho,_⟩:=I.ok.mv.mem hb
 exact absurd (Nat.lt_of_lt_of_le (Heap.lt_size ho) (Nat.le_trans I.sz h)) (Nat.lt_irrefl _)
theorem Inv.Bm(I:Inv X N8 σ H s):∀ x c,X.env.cells.lookup x=some c->c≠X.env.locals:=λx c e z=>by
 obtain⟨v,o,ho,hd⟩:=I.cell x c e
 obtain⟨m,⟨o',es,ep,Qb,RI,_⟩,_⟩:=I.loc
 rw[z,Qb] at ho;cases ho;rw[RI] at hd;cases hd
theorem Inv.mv(I:Inv X N8 σ H s):s.heap.FunFrames X.base X.outer:=by
 have all:∀ (l:List Env),(∀ b∈xE l,b∈X.fs)->X.s₀.heap.FunFrames X.base l->s.heap.FunFrames X.base l:=by
  intro l
  induction l with
  | nil=>intro _ _;trivial
  | cons env r ih =>
   intro hs hl
   obtain⟨hk,⟨L,o,hf,hn,ho,hd⟩,hr⟩:=hl
   have hL:L∈X.fs:=hs L (by unfold xE;rw[List.filterMap_cons,hf];exact List.mem_cons_self)
   obtain⟨sl,e⟩:=I.base.slot L o ho (I.ok.Ec L hL) hL λz=>I.ok.wa L z hL
   exact⟨hk,⟨L,_,hf,hn,e,hd⟩,ih (λb hb=>hs b (by unfold xE;rw[List.filterMap_cons,hf];exact List.mem_cons_of_mem _ hb)) hr⟩
 exact all X.outer (λ_ hb=>hb) I.ok.mv
theorem Inv.stack(I:Inv X N8 σ H s):s.heap.FunFrames X.base X.stack:=by
 rcases I.ok.IB with e | ⟨e,hf⟩
 ·rw[e];exact I.mv
 ·rw[e]
  obtain⟨m,hn,_⟩:=I.loc
  refine .cons (by rw[I.ok.kind];decide) hf hn ?_ I.mv
  exact Heap.get?_none_of_le (Nat.le_trans I.ok.CO I.ok.above)
theorem Inv.u_(I:Inv X N8 σ H s):∀ b∈xE X.stack,b∈X.env.locals::X.fs:=λb hb=>by
 rcases I.ok.IB with e | ⟨e,hf⟩
 ·rw[e] at hb;exact List.mem_cons_of_mem _ hb
 ·rw[e] at hb
  unfold xE at hb
  rw[List.filterMap_cons,hf] at hb
  exact hb
theorem Inv.uI(I:Inv X N8 σ H s):∀ b∈xE X.stack,H b=none:=λb hb=>by
 rcases List.mem_cons.mp (I.u_ b hb) with e | hb
 ·rw[e];exact I.free
 ·obtain⟨_,o,ho,_⟩:=I.ok.mv.mem hb
  exact I.base.free b o ho (I.ok.Ec b hb) λz=>I.ok.wa b z hb
theorem Inv.step{g':Array GenState}{t':Nat}{d':Drawn}{ch:List Addr}(I:Inv X N8 σ H s)
  (Qe:∀ b∈ch,(b∈X.ex\/X.s₀.heap.objs.size<=b)/\b≠X.env.locals/\(∀ x c,X.env.cells.lookup x=some c->c≠b)/\∀ p∈X.pn++N8,p.1≠b)
  (keep:∀ b o,b≠X.env.locals->b ∉ X.fs->b ∉ ch->s.heap.get? b=some o->H b=none->h'.get? b=some o)
  (slot:∀ b o,b≠X.env.locals->b∈X.fs->b ∉ ch->s.heap.get? b=some o->H b=none->∃ sl,h'.get? b=some { o with slots:=sl }) (free:∀ b o,b ∉ ch->s.heap.get? b=some o->H b=none->H' b=none)
  (there:∀ b o,b ∉ ch->s.heap.get? b=some o->∃ o',h'.get? b=some o')
  (rR:∀ b xs,H b=some (.tup xs)->H' b=some (.tup xs)) (mz:∀ b o u,H b=some (.sE o u)->H' b=some (.sE o u)) (rX:∀ b ps,H b=some (.Gh ps)->∃ more,H' b=some (.Gh (ps++more)))
  (ns:∀ m,s.heap.Ns X.env.locals m->h'.Ns X.env.locals m) (bC:oy X.prog X.w H' h') (hg:AllBare g') :
  Inv X N8 σ H' { s with heap:=h',gens:=g',drawn:=d',toks:=t' }:=by
 have neL:∀ b o,X.s₀.heap.get? b=some o->b≠X.env.locals:=λb o e=>Nat.ne_of_lt (Nat.lt_of_lt_of_le (Heap.lt_size e) I.ok.above)
 have neC:∀ b o,X.s₀.heap.get? b=some o->b ∉ X.ex->b ∉ ch:=λb o e hx hb=>by
  rcases(Qe b hb).1 with z | z
  ·exact hx z
  ·exact absurd (Nat.lt_of_lt_of_le (Heap.lt_size e) z) (Nat.lt_irrefl _)
 have cellK:∀ x c,X.env.cells.lookup x=some c->∀ v,s.heap.IsCell c v->h'.IsCell c v:=λx c e v ⟨o,ho,hd⟩=>by
  have R1:c ∉ ch:=λz=>(Qe c z).2.2.1 x c e rfl
  by_cases hc:c∈X.fs
  ·obtain⟨sl,q⟩:=slot c o (I.Bm x c e) hc R1 ho (I.gM x c e)
   exact⟨_,q,hd⟩
  ·exact⟨o,keep c o (I.Bm x c e) hc R1 ho (I.gM x c e),hd⟩
 refine⟨I.ok,I.os,hg,⟨λb o e n hb hx=>?_,λb o e n hb hx=>?_,λb o e n hx=>?_,λb o e hx=>?_,λb xs e=>rR b xs (I.base.rR b xs e),λb o xs e=>mz b o xs (I.base.mz b o xs e),λb ps e=>?_⟩,?_,λx c e=>?_,?_,λx c e=>?_,λp hp=>?_,bC,I.len⟩
 ·exact keep b o (neL b o e) hb (neC b o e hx) (I.base.keep b o e n hb hx) (I.base.free b o e n hx)
 ·obtain⟨sl,e1⟩:=I.base.slot b o e n hb hx
  obtain⟨sl',e2⟩:=slot b _ (neL b o e) hb (neC b o e hx) e1 (I.base.free b o e n hx)
  exact⟨sl',e2⟩
 ·obtain⟨o',e1⟩:=I.base.there b o e hx
  exact free b o' (neC b o e hx) e1 (I.base.free b o e n hx)
 ·obtain⟨o',e1⟩:=I.base.there b o e hx
  exact there b o' (neC b o e hx) e1
 ·obtain⟨m1,e1⟩:=I.base.rX b ps e
  obtain⟨m2,e2⟩:=rX b _ e1
  exact⟨m1++m2,by rw[e2,Array.append_assoc]⟩
 ·obtain⟨m,hn,hl⟩:=I.loc
  refine⟨m,ns m hn,λi x v e1 e2 e3=>?_⟩
  obtain⟨u,r,l⟩:=hl i x v e1 e2 e3
  refine⟨u,r,?_⟩
  rcases l with l | ⟨k,c,e,z⟩
  ·exact .inl l
  ·exact .inr ⟨k,c,e,cellK x c e _ z⟩
 ·obtain⟨v,z⟩:=I.cell x c e
  exact⟨v,cellK x c e v z⟩
 ·obtain⟨m,⟨o,_,_,ho,_⟩,_⟩:=I.loc
  exact free _ o (λz=>(Qe _ z).2.1 rfl) ho I.free
 ·obtain⟨v,o,ho,hd⟩:=I.cell x c e
  exact free c o (λz=>(Qe c z).2.2.1 x c e rfl) ho (I.gM x c e)
 ·obtain⟨e,n,ne,nf,d⟩:=I.pin p hp
  have R1:p.1 ∉ ch:=λz=>(Qe p.1 z).2.2.2 p hp rfl
  exact⟨keep p.1 p.2 ne nf R1 e n,free p.1 p.2 R1 e n,ne,nf,d⟩
theorem Inv.un{t':Nat}(I:Inv X N8 σ H s)(u:Un X.fs [] H H' s.heap h')(bC:oy X.prog X.w H' h'):Inv X N8 σ H' { s with heap:=h',toks:=t' }:=by
 obtain⟨m,⟨o,es,ep,ho,r⟩,_⟩:=id I.loc
 obtain⟨sl,hL⟩:=u.any ho I.free (by simp)
 exact I.step (g':=s.gens) (d':=s.drawn) (ch:=[]) (λ_ z=>nomatch z) (λb o _ hb _ e n=>u.keep b o e n hb (by simp)) (λb o _ hb _ e n=>u.slot b o e n hb (by simp)) (λb o _ e n=>u.free b o e n (by simp)) (λb o _ e=>u.there b o e (by simp)) u.rR u.mz u.rX (λm' hm=>by
  obtain⟨o',es',ep',Qb,r'⟩:=hm
  rw[ho] at Qb;cases Qb
  exact⟨_,es',ep',hL,r'⟩) bC I.bare
theorem Inv.call{g':Array GenState}{t':Nat}{d':Drawn}{ch:List Addr}(I:Inv X N8 σ H s)(u:Un (xE X.stack) ch H H' s.heap h')(bC:oy X.prog X.w H' h')(hg:AllBare g')
  (Qe:∀ b∈ch,(b∈X.ex\/X.s₀.heap.objs.size<=b)/\b≠X.env.locals/\(∀ x c,X.env.cells.lookup x=some c->c≠b)/\∀ p∈X.pn++N8,p.1≠b) :
  Inv X N8 σ H' { s with heap:=h',gens:=g',drawn:=d',toks:=t' }:=by
 obtain⟨m,⟨o,es,ep,ho,r⟩,_⟩:=id I.loc
 obtain⟨sl,hL⟩:=u.any ho I.free λz=>(Qe _ z).2.1 rfl
 exact I.step (ch:=ch) Qe (λb o hL hb hc e n=>u.keep b o e n (λz=>(List.mem_cons.mp (I.u_ b z)).elim hL hb) hc) (λb o _ _ hc e n=>u.any e n hc) (λb o hc e n=>u.free b o e n hc) (λb o hc e=>u.there b o e hc) u.rR u.mz u.rX (λm' hm=>by
  obtain⟨o',es',ep',Qb,r'⟩:=hm
  rw[ho] at Qb;cases Qb
  exact⟨_,es',ep',hL,r'⟩) bC hg
theorem Inv.turned{t':Nat}{it:Addr}(I:Inv X N8 σ H s)(k:∀ b o,b≠it->s.heap.get? b=some o->h'.get? b=some o)(hn:H it=none)(hL:it≠X.env.locals)
  (h1:it∈X.ex\/X.s₀.heap.objs.size<=it) (h2:∀ x c,X.env.cells.lookup x=some c->c≠it) (h3:∀ p∈X.pn++N8,p.1≠it):Inv X N8 σ H { s with heap:=h',toks:=t' }:=by
 have nit:∀ b u,H b=some u->b≠it:=λb u e z=>by rw[z,hn] at e;cases e
 refine I.step (g':=s.gens) (d':=s.drawn) (ch:=[it]) (λb hb=>?_) (λb o _ _ hc e _=>k b o (λz=>hc (by simp[z])) e) (λb o _ _ hc e _=>⟨o.slots,k b o (λz=>hc (by simp[z])) e⟩) (λ_ _ _ _ n=>n)
  (λb o hc e=>⟨o,k b o (λz=>hc (by simp[z])) e⟩) (λ_ _ e=>e) (λ_ _ _ e=>e) (λb ps e=>⟨#[],by rw[e];simp⟩) (λm hm=>?_) (λb u e=>?_) I.bare
 ·have e:b=it:=by simpa using hb
  subst e
  exact⟨h1,hL,h2,h3⟩
 ·obtain⟨o,es,ep,ho,r⟩:=hm
  exact⟨o,es,ep,k _ o (Ne.symm hL) ho,r⟩
 ·refine(I.bC b u e).mR (λc v hc q=>k c v ?_ q) (λ_ q=>q) λ_ _ q=>q
  rcases hc with z | z
  ·rw[z];exact nit b u e
  ·exact nit c _ z
theorem Inv.tok(I:Inv X N8 σ H s)(t:Nat):Inv X N8 σ H { s with toks:=t }:=I.un (h':=s.heap) (t':=t) Un.refl I.bC
theorem Inv.kept{t':Nat}(I:Inv X N8 σ H s)(k:∀ b u,s.heap.get? b=some u->h'.get? b=some u):Inv X N8 σ H { s with heap:=h',toks:=t' }:=I.un (Un.kept k) (I.bC.kept k)
theorem Inv.laid{a:Addr}{o:HO}{t':Nat}(I:Inv X N8 σ H s)(k:∀ b u,s.heap.get? b=some u->h'.get? b=some u)(hp:s.heap.objs.size<=a)(new:cp X.prog X.w (upd H a o) h' a o) :
  Inv X N8 σ (upd H a o) { s with heap:=h',toks:=t' }:=I.un (Un.laid k hp (I.bC.fresh hp)) (I.bC.laid k hp new)
theorem Inv.write{x e:Addr}{o:HO}{t':Nat}(I:Inv X N8 σ H s)(mu:LQ (H x))(he:e=x\/H e=some (.own x))(k:∀ b u,b≠e->s.heap.get? b=some u->h'.get? b=some u)(Rx:∃ u,h'.get? e=some u)
  (new:cp X.prog X.w (upd H x o) h' x o):Inv X N8 σ (upd H x o) { s with heap:=h',toks:=t' }:=I.un (Un.write mu he k Rx) (I.bC.write mu he k Rx new)
theorem Inv.zj{Qi:List (Addr×Obj)}(I:Inv X N8 σ H s)(h:∀ p∈Qi,s.heap.get? p.1=some p.2/\H p.1=none/\p.1≠X.env.locals/\p.1 ∉ X.fs/\∀ v,p.2.data≠.cell v):Inv X Qi σ H s :=
 ⟨I.ok,I.os,I.bare,I.base,I.loc,I.cell,I.free,I.gM,λp hp=>(List.mem_append.mp hp).elim (λz=>I.pin p (List.mem_append_left _ z)) (h p),I.bC,I.len⟩
theorem qX{N:List Str}(hN:N.Nodup){i j:Nat}{x:Str}(a:N[i]?=some x)(b:N[j]?=some x):i=j:=by
 obtain⟨h1,e1⟩:=List.getElem?_eq_some_iff.mp a
 obtain⟨h2,e2⟩:=List.getElem?_eq_some_iff.mp b
 exact(List.getElem_inj hN).mp (e1.trans e2.symm)
theorem tX{M:Model}{A:Around}{E:Value->Shared->Prop}{i:Nat}{x:Str}{v:V}{u:Value}{Q:Unit->Shared->Prop}(I:Inv X N8 σ H s)(hN:X.N.Nodup)(hi:X.N[i]?=some x)(hx:Loc X.env.scope x)(r:RelV v u)
  (h:∀ s',Inv X N8 (σ.set i (some v)) H s'->(∃ a,Heap.SameBut a s.heap s'.heap/\(a=X.env.locals\/X.env.cells.lookup x=some a))->Q () s') (hf:X.fn x=true\/X.env.scope.names.lookup x=some .local:=by first | exact .inl rfl | exact .inr rfl | assumption):wpAny M A (storeName X.env x u) Q E s:=by
 obtain⟨m,hn,hl⟩:=id I.loc
 have hcls:(X.env.scope.kind==.class||(X.env.scope.kind==.module&&X.env.locals != X.env.globals))=false:=by rw[I.ok.kind];rfl
 have hiσ:i<σ.length:=by rw[I.len];exact(List.getElem?_eq_some_iff.mp hi).1
 have Bm:=I.Bm
 have tracked:∀ {a:Addr} {h':Heap},(∃ o,s.heap.get? a=some o/\H a=none)->Heap.SameBut a s.heap h'->oy X.prog X.w H h':=λ{a h'} ha hs b ob e=>by
  obtain⟨_,_,Qt⟩:=ha
  refine(I.bC b ob e).mR (λc w' hc q=>(hs.2 c ?_).trans q) (λ_ q=>q) λ_ _ q=>q
  rintro rfl
  rcases hc with rfl | hc
  ·rw[Qt] at e;cases e
  ·rw[Qt] at hc;cases hc
 rcases hx with hk | hk
 ·refine wpAny_storeName_local hk hn (λh' RR hs=>?_) hcls
  obtain⟨oL,_,_,hoL,_⟩:=id hn
  refine h _ ⟨I.ok,I.os,I.bare,⟨λb o e n hb hx=>?_,λb o e n hb hx=>?_,I.base.free,λb o e hx=>?_,I.base.rR,I.base.mz,I.base.rX⟩,⟨_,RR,λj y v' e1 e2 e3=>?_⟩,λy c e=>?_,I.free,I.gM,λp hp=>?_,tracked ⟨oL,hoL,I.free⟩ hs,by simpa using I.len⟩ ⟨_,hs,.inl rfl⟩
  ·exact(hs.2 b (Nat.ne_of_lt (Nat.lt_of_lt_of_le (Heap.lt_size e) I.ok.above))).trans (I.base.keep b o e n hb hx)
  ·obtain⟨sl,e1⟩:=I.base.slot b o e n hb hx
   exact⟨sl,(hs.2 b (Nat.ne_of_lt (Nat.lt_of_lt_of_le (Heap.lt_size e) I.ok.above))).trans e1⟩
  ·obtain⟨o',e1⟩:=I.base.there b o e hx
   exact⟨o',(hs.2 b (Nat.ne_of_lt (Nat.lt_of_lt_of_le (Heap.lt_size e) I.ok.above))).trans e1⟩
  ·by_cases hj:j=i
   ·subst hj
    rw[hi] at e1;cases e1
    rw[List.getElem?_set_self hiσ] at e2
    cases e2
    exact⟨u,r,.inl ⟨hk,by simp⟩⟩
   ·rw[List.getElem?_set_ne (Ne.symm hj)] at e2
    obtain⟨u',r',q⟩:=hl j y v' e1 e2 e3
    refine⟨u',r',?_⟩
    rcases q with ⟨k,e⟩ | ⟨k,c,e,z⟩
    ·refine .inl ⟨k,?_⟩
     have:y≠x:=λe=>hj (qX hN e1 (e▸hi))
     simp[this,e]
    ·exact .inr ⟨k,c,e,z.sameBut hs (Bm y c e)⟩
  ·obtain⟨w',z⟩:=I.cell y c e
   exact⟨w',z.sameBut hs (Bm y c e)⟩
  ·obtain⟨e,n,ne,nf,d⟩:=I.pin p hp
   exact⟨(hs.2 p.1 ne).trans e,n,ne,nf,d⟩
 ·have hfn:X.fn x=true:=by
   rcases hf with z | z
   ·exact z
   ·rw[z] at hk;cases hk
  obtain⟨c,hc⟩:=I.ok.has x (.inl hk)
  obtain⟨w',z⟩:=I.cell x c hc
  refine wpAny_storeName_cell I.ok.kind hk hc z (λh' Q1 hs=>?_)
  obtain⟨oc,hoc,hocd⟩:=id z
  refine h { s with heap:=h' } ⟨I.ok,I.os,I.bare,⟨λb o e n hb hx=>?_,λb o e n hb hx=>?_,I.base.free,λb o e hx=>?_,I.base.rR,I.base.mz,I.base.rX⟩,⟨m,hn.sameBut hs (Ne.symm (Bm x c hc)),λj y v' e1 e2 e3=>?_⟩,λy c' e=>?_,I.free,I.gM,λp hp=>?_,tracked ⟨oc,hoc,I.gM x c hc⟩ hs,by simpa using I.len⟩ ⟨c,hs,.inr hc⟩
  ·exact(hs.2 b (Nat.ne_of_lt (Nat.lt_of_lt_of_le (Heap.lt_size e) (I.ok.GU x c hfn hc)))).trans (I.base.keep b o e n hb hx)
  ·obtain⟨sl,e1⟩:=I.base.slot b o e n hb hx
   exact⟨sl,(hs.2 b (Nat.ne_of_lt (Nat.lt_of_lt_of_le (Heap.lt_size e) (I.ok.GU x c hfn hc)))).trans e1⟩
  ·obtain⟨o',e1⟩:=I.base.there b o e hx
   exact⟨o',(hs.2 b (Nat.ne_of_lt (Nat.lt_of_lt_of_le (Heap.lt_size e) (I.ok.GU x c hfn hc)))).trans e1⟩
  ·by_cases hj:j=i
   ·subst hj
    rw[hi] at e1;cases e1
    rw[List.getElem?_set_self hiσ] at e2
    cases e2
    exact⟨u,r,.inr ⟨.inl hk,c,hc,Q1⟩⟩
   ·rw[List.getElem?_set_ne (Ne.symm hj)] at e2
    obtain⟨u',r',q⟩:=hl j y v' e1 e2 e3
    refine⟨u',r',?_⟩
    rcases q with q | ⟨k,c',e,z'⟩
    ·exact .inl q
    ·refine .inr ⟨k,c',e,z'.sameBut hs ?_⟩
     rintro rfl
     exact hj (qX hN e1 (I.ok.inj _ _ _ e hc▸hi))
  ·by_cases hcc:c'=c
   ·subst hcc;exact⟨_,Q1⟩
   ·obtain⟨w2,z2⟩:=I.cell y c' e
    exact⟨w2,z2.sameBut hs hcc⟩
  ·obtain⟨e,n,ne,nf,d⟩:=I.pin p hp
   refine⟨(hs.2 p.1 ?_).trans e,n,ne,nf,d⟩
   intro q
   rw[q,hoc] at e
   have q':oc=p.2:=Option.some.inj e
   exact d w' (by rw[← q'];exact hocd)
theorem kR{M:Model}{A:Around}{E:Value->Shared->Prop}{i:Nat}{x:Str}{v:V}{u:Value}{Q:Unit->Shared->Prop}(I:Inv X N8 σ H s)(hN:X.N.Nodup)(hi:X.N[i]?=some x)(hx:Loc X.env.scope x)(r:RelV v u)
  (h:∀ s',Inv X N8 (σ.set i (some v)) H s'->Q () s') (hf:X.fn x=true\/X.env.scope.names.lookup x=some .local:=by first | exact .inl rfl | exact .inr rfl | assumption):wpAny M A (storeName X.env x u) Q E s :=
 tX I hN hi hx r (λs' I' _=>h s' I') hf
theorem Inv.BU{s':Shared}{ch:List Addr}(I:Inv X N8 σ H s)(ho:s'.os=s.os)(u:Un (xE X.stack) ch H H' s.heap s'.heap)(bC:oy X.prog X.w H' s'.heap)(hg:AllBare s'.gens)
  (Qe:∀ b∈ch,(b∈X.ex\/X.s₀.heap.objs.size<=b)/\b≠X.env.locals/\(∀ x c,X.env.cells.lookup x=some c->c≠b)/\∀ p∈X.pn++N8,p.1≠b):Inv X N8 σ H' s':=by
 obtain⟨h',g',d',t',o'⟩:=s'
 have e:o'=s.os:=ho
 subst e
 exact I.call (g':=g') (t':=t') (d':=d') u bC hg Qe
end
abbrev XK:=Value->Option Addr->Hp->Prop
abbrev St:=List (Option V)
abbrev VK:=V->Hp->Prop
abbrev TE:=St->Hp->VK->Prop
abbrev TT:=St->Hp->(Bool->Hp->Prop)->Prop
abbrev TA:=St->Hp->(List V->Hp->Prop)->Prop
structure Ends where
 nx:St->Hp->Prop
 rt:VK
 bk:St->Hp->Prop:=λ_ _=>False
 ct:St->Hp->Prop:=λ_ _=>False
abbrev TS:=Ends->St->Hp->Prop
def EP(X:Cx)(N8:List (Addr×Obj))(σ:St)(Q:VK)(u:Value)(s':Shared):Prop:=∃ v H',Inv X N8 σ H' s'/\RelV v u/\Q v H'
def TP(X:Cx)(N8:List (Addr×Obj))(σ:St)(Q:Bool->Hp->Prop)(b:Bool)(s':Shared):Prop:=∃ H',Inv X N8 σ H' s'/\Q b H'
def AP(X:Cx)(N8:List (Addr×Obj))(σ:St)(Q:List V->Hp->Prop)(us:List Value)(s':Shared):Prop:=∃ vs H',Inv X N8 σ H' s'/\Vals vs us/\Q vs H'
def SP(X:Cx)(N8:List (Addr×Obj))(D:Ends)(f:Flow)(s':Shared):Prop :=
 match f with
 | .next=>∃ σ' H',Inv X N8 σ' H' s'/\D.nx σ' H'
 | .brk=>∃ σ' H',Inv X N8 σ' H' s'/\D.bk σ' H'
 | .cont=>∃ σ' H',Inv X N8 σ' H' s'/\D.ct σ' H'
 | .ret u=>∃ v σ' H',Inv X N8 σ' H' s'/\RelV v u/\D.rt v H'
def PE(X:Cx)(e:Expr)(t:TE):Prop :=
 ∀ (N8:List (Addr×Obj)) (s:Shared) (σ:St) (H:Hp) (Q:VK),Inv X N8 σ H s->t σ H Q->wpAny (model X.prog X.w) X.A (eval e X.env) (EP X N8 σ Q) X.xe s
def PT(X:Cx)(e:Expr)(t:TT):Prop :=
 ∀ (N8:List (Addr×Obj)) (s:Shared) (σ:St) (H:Hp) (Q:Bool->Hp->Prop),Inv X N8 σ H s->t σ H Q->wpAny (model X.prog X.w) X.A (isTrue e X.env (eval e X.env)) (TP X N8 σ Q) X.xe s
def PW(X:Cx)(e:Expr)(t:TT):Prop :=
 ∀ (whole:Sem Value) (N8:List (Addr×Obj)) (s:Shared) (σ:St) (H:Hp) (Q:Bool->Hp->Prop),Inv X N8 σ H s->t σ H Q->wpAny (model X.prog X.w) X.A (isTrue e X.env whole) (TP X N8 σ Q) X.xe s
theorem PW.pt{X:Cx}{e:Expr}{t:TT}(h:PW X e t):PT X e t:=h _
def PA(X:Cx)(es:List Expr)(t:TA):Prop :=
 ∀ (pos:Pos) (N8:List (Addr×Obj)) (s:Shared) (σ:St) (H:Hp) (Q:List V->Hp->Prop),Inv X N8 σ H s->t σ H Q->wpAny (model X.prog X.w) X.A (spliced (backTo pos (starEach es X.env))) (AP X N8 σ Q) X.xe s
def PS(X:Cx)(st:Stmt)(t:TS):Prop :=
 ∀ (N8:List (Addr×Obj)) (s:Shared) (σ:St) (H:Hp) (D:Ends),Inv X N8 σ H s->t D σ H->wpAny (model X.prog X.w) X.A (exec st X.env) (SP X N8 D) X.xe s
def mH(X:Cx)(st:List Stmt)(t:TS):Prop :=
 ∀ (N8:List (Addr×Obj)) (s:Shared) (σ:St) (H:Hp) (D:Ends),Inv X N8 σ H s->t D σ H->wpAny (model X.prog X.w) X.A (execs st X.env) (SP X N8 D) X.xe s
theorem cB{α:Type}{t:Sem α}{Q Q':α->Shared->Prop}{M:Model}{A:Around}{E:Value->Shared->Prop}{s:Shared}(h:wpAny M A t Q E s)(hQ:∀ a s,Q a s->Q' a s):wpAny M A t Q' E s:=wpAny_mono h hQ λ_ _ x=>x
end L2
namespace L2
open PySem PySem.Spec PyProof.Rows
section
variable{X:Cx}
def MN(i:Nat):TE:=fun σ H Q=>∃ v,σ[i]?=some (some v)/\Q v H
def tC(v:V):TE:=λ_ H Q=>Q v H
theorem oj{i:Nat}{x:Str}{pos:Pos}(hN:X.N[i]?=some x)(hv:Eb X.env.scope x)(hd:(x==("__debug__" : Str))=false:=by decide)(Py:(x==("__classdict__" : Str))=false:=by decide):PE X (.Name x pos) (MN i):=by
 intro N8 s σ H Q I h
 obtain⟨v,e,h⟩:=h
 obtain⟨m,hn,hl⟩:=I.loc
 obtain⟨u,r,l⟩:=hl i x v hN e hv
 have fin:EP X N8 σ Q u s:=⟨v,H,I,r,h⟩
 rcases l with ⟨hk,hm⟩ | ⟨hk,c,hc,Qs⟩
 ·exact wpAny_Name (wpAny_loadName_local I.ok.kind hk hn hm fin) hd
 ·rcases hk with hk | hk
  ·exact wpAny_Name (wpAny_loadName_cell I.ok.kind hk hc Qs fin) hd
  ·exact wpAny_Name (wpAny_loadName_free I.ok.kind hk hc Qs fin Py) hd
theorem Hb{i j pos}:PE X (.Constant (.int i) j pos) (tC (.int i)):=λ_ _ _ H _ I h=>wpAny_Constant_int ⟨.int i,H,I.tok _,⟨_,rfl⟩,h⟩
theorem Kg{b j pos}:PE X (.Constant (.bool b) j pos) (tC (.bl b)):=λ_ _ _ H _ I h=>Constant_bool ⟨.bl b,H,I,rfl,h⟩
theorem IS{j pos}:PE X (.Constant .none j pos) (tC .b_):=λ_ _ _ H _ I h=>Constant_none ⟨.b_,H,I,rfl,h⟩
theorem HY{x j pos}:PE X (.Constant (.str x) j pos) (tC (.str x)):=λ_ _ _ H _ I h=>Calls.Constant_str ⟨.str x,H,I.tok _,⟨_,rfl⟩,h⟩
def Gl(X:Cx)(x:Str):Prop:=X.env.kindOf x=some .globalImplicit
theorem kd{E:Value->Shared->Prop}{N8:List (Addr×Obj)}{s:Shared}{σ:St}{H:Hp}{x:Str}{u:Value}{pos:Pos}{Q:Value->Shared->Prop}(I:Inv X N8 σ H s)(hg:Gl X x)(hm:X.mg x=some u)(h:Q u s)
  (hd:(x==("__debug__" : Str))=false:=by decide):wpAny (model X.prog X.w) X.A (eval (.Name x pos) X.env) Q E s :=
 Calls.Name_function_global I.ok.kind hg (Calls.loadGlobal_global (by rw[I.ok.glob];exact I.mod.glob.keeps I.bk) hm h) hd
theorem j6{E:Value->Shared->Prop}{N8:List (Addr×Obj)}{s:Shared}{σ:St}{H:Hp}{x:Str}{u:Value}{pos:Pos}{Q:Value->Shared->Prop}(I:Inv X N8 σ H s)(hg:Gl X x)(hm:X.mg x=none)(hv:bootBuiltins x=some u)(h:Q u s)
  (hn:x ≠ "__name__" := by decide) (hd:(x==("__debug__" : Str))=false:=by decide):wpAny (model X.prog X.w) X.A (eval (.Name x pos) X.env) Q E s:=by
 obtain⟨mb,h1,h2⟩:=I.mod.blt
 exact Calls.Name_function_global I.ok.kind hg (Calls.loadGlobal_builtin (by rw[I.ok.glob];exact I.mod.glob.keeps I.bk) hm (by rw[I.ok.blt];exact h1.keeps I.bk) ((h2 x hn).trans hv) h) hd
theorem zH{x:Str}{v:V}{u:Value}{pos:Pos}(hg:Gl X x)(hm:X.mg x=some u)(r:RelV v u)(hd:(x==("__debug__" : Str))=false:=by decide):PE X (.Name x pos) (tC v) :=
 λ_ _ _ H _ I h=>kd I hg hm ⟨v,H,I,r,h⟩ hd
theorem eM{x:Str}{v:V}{u:Value}{pos:Pos}(hg:Gl X x)(hm:X.mg x=none)(hv:bootBuiltins x=some u)(r:RelV v u)(hn:x ≠ "__name__" := by decide)(hd:(x==("__debug__" : Str))=false:=by decide):PE X (.Name x pos) (tC v) :=
 λ_ _ _ H _ I h=>j6 I hg hm hv ⟨v,H,I,r,h⟩ hn hd
variable{a b:Expr}{ta tb:TE}{pos:Pos}
def tB(t:TE):TT:=fun σ H Q=>t σ H λx H1=>∃ c,x=.bl c/\Q c H1
theorem Hj{e:Expr}{t:TE}(h:PE X e t)(he:∀ whole,isTrue e X.env whole=(do let v ← whole;standAt e.pos;holding [v] (truthy v)):=by intro _;rfl):PT X e (tB t):=by
 intro N8 s σ H Q I hw
 refine isTrue_plain (cB (h N8 s σ H _ I hw) λv s1 ⟨x,H1,I1,r1,q1⟩=>?_) (he _)
 obtain⟨d,rfl,q⟩:=q1
 cases r1
 exact wpAny_truthy_bool ⟨H1,I1,q⟩
variable{tA tB':TT}{rest:List Expr}
def MS(t u:TT):TT:=fun σ H Q=>t σ H λc H1=>if c=true then u σ H1 Q else Q false H1
def NL(t u:TT):TT:=fun σ H Q=>t σ H λc H1=>if c=true then Q true H1 else u σ H1 Q
def L6(t:TT):TT:=fun σ H Q=>t σ H λc H1=>Q (!c) H1
theorem pw_and1(ha:PT X a tA):PW X (.BoolOp .And [a] pos) tA:=by
 intro wh N8 s σ H Q I h
 refine isTrue_and (cB (ha N8 s σ H Q I h) λc s1 e=>?_)
 cases c with
 | true=>exact isTrue_and_nil e
 | false=>exact e
theorem pw_or1(ha:PT X a tA):PW X (.BoolOp .Or [a] pos) tA:=by
 intro wh N8 s σ H Q I h
 refine isTrue_or (cB (ha N8 s σ H Q I h) λc s1 e=>?_)
 cases c with
 | false=>exact isTrue_or_nil e
 | true=>exact e
theorem pw_and(ha:PT X a tA)(hb:PW X (.BoolOp .And (b::rest) pos) tB'):PW X (.BoolOp .And (a::b::rest) pos) (MS tA tB'):=by
 intro wh N8 s σ H Q I h
 refine isTrue_and (cB (ha N8 s σ H _ I h) λc s1 ⟨H1,I1,q1⟩=>?_)
 cases c with
 | true=>exact hb wh N8 s1 σ H1 Q I1 q1
 | false=>exact⟨H1,I1,q1⟩
theorem pw_or(ha:PT X a tA)(hb:PW X (.BoolOp .Or (b::rest) pos) tB'):PW X (.BoolOp .Or (a::b::rest) pos) (NL tA tB'):=by
 intro wh N8 s σ H Q I h
 refine isTrue_or (cB (ha N8 s σ H _ I h) λc s1 ⟨H1,I1,q1⟩=>?_)
 cases c with
 | true=>exact⟨H1,I1,q1⟩
 | false=>exact hb wh N8 s1 σ H1 Q I1 q1
theorem HJ(ha:PT X a tA):PT X (.UnaryOp .Not a pos) (L6 tA):=by
 intro N8 s σ H Q I h
 exact isTrue_not (ha N8 s σ H (λc H1=>Q (!c) H1) I h)
def J1(ta tb:TE):TE:=fun σ H Q=>ta σ H λx H1=>∃ c,x=.bl c/\if c=true then tb σ H1 Q else Q (.bl false) H1
def K1(ta:TE):TE:=fun σ H Q=>ta σ H λx H1=>∃ c,x=.bl c/\Q (.bl (!c)) H1
theorem vc{op}{t:TE}(h:PE X a t):PE X (.BoolOp op [a] pos) t:=λN8 s σ H Q I hw=>BoolOp_one (h N8 s σ H Q I hw)
theorem HA(ha:PE X a ta)(hb:PE X (.BoolOp .And (b::rest) pos) tb):PE X (.BoolOp .And (a::b::rest) pos) (J1 ta tb):=by
 intro N8 s σ H Q I h
 refine BoolOp_and (cB (ha N8 s σ H _ I h) λv s1 ⟨x,H1,I1,r1,q1⟩=>?_)
 obtain⟨c,rfl,q1⟩:=q1
 cases r1
 refine wpAny_truthy_bool ?_
 cases c with
 | true=>exact hb N8 s1 σ H1 Q I1 q1
 | false=>exact⟨.bl false,H1,I1,rfl,q1⟩
theorem Hq(ha:PE X a ta):PE X (.UnaryOp .Not a pos) (K1 ta):=by
 intro N8 s σ H Q I h
 refine UnaryOp_ (cB (ha N8 s σ H _ I h) λv s1 ⟨x,H1,I1,r1,q1⟩=>?_)
 obtain⟨c,rfl,q1⟩:=q1
 cases r1
 exact not_of (wpAny_truthy_bool ⟨.bl (!c),H1,I1,rfl,q1⟩)
def N2(t:TT)(ta tb:TE):TE:=fun σ H Q=>t σ H λc H1=>if c=true then ta σ H1 Q else tb σ H1 Q
theorem BJ{c:Expr}(hc:PT X c tA)(ha:PE X a ta)(hb:PE X b tb):PE X (.IfExp c a b pos) (N2 tA ta tb):=by
 intro N8 s σ H Q I h
 refine wpAny_IfExp (cB (hc N8 s σ H _ I h) λd s1 ⟨H1,I1,q1⟩=>?_)
 cases d with
 | true=>exact ha N8 s1 σ H1 Q I1 q1
 | false=>exact hb N8 s1 σ H1 Q I1 q1
end
end L2
namespace L2
open PySem PySem.Spec PyProof.Rows
def iS(K:PySem.W.Frag)(H:Hp)(a:Addr)(xs:List V):Prop :=
 Rd H a (.lst xs) ∨
  ∃ (o:Obj) (Ob:Array Value) (n:Nat),K.lookup a=some o/\o.cls=.type "list" /\ o.dict=none/\o.data=.seq Ob n/\Ob.size<=sizeLine/\Vals xs Ob.toList
def iF(K:PySem.W.Frag)(H:Hp)(a:Addr)(xs:List V):Prop :=
 Rd H a (.tup xs) ∨
  ∃ (o:Obj) (Ob:Array Value) (n:Nat),K.lookup a=some o/\o.cls=.type "tuple" /\ o.data=.seq Ob n/\Ob.size<=sizeLine/\Vals xs Ob.toList
def Me:Value->Option V
 | .none=>some .b_
 | .bool b=>some (.bl b)
 | .int i _=>some (.int i)
 | .str x _=>some (.str x)
 | .bytes b _=>some (.byt b)
 | .float b _=>some (.Gk b)
 | .ref a=>some (.ref a)
 | .type n=>some (.ty n)
 | _=>none
theorem RelV.abs{x:V}{u:Value}(r:RelV x u):Me u=some x:=by
 cases x with
 | b_=>cases r;rfl
 | bl _=>cases r;rfl
 | int _=>obtain⟨t,rfl⟩:=r;rfl
 | str _=>obtain⟨t,rfl⟩:=r;rfl
 | byt _=>obtain⟨t,rfl⟩:=r;rfl
 | Gk _=>obtain⟨t,rfl⟩:=r;rfl
 | ref _=>cases r;rfl
 | ty _=>cases r;rfl
theorem RelV.inj{x y:V}{u:Value}(r:RelV x u)(q:RelV y u):x=y:=Option.some.inj (r.abs.symm.trans q.abs)
theorem Vals.inj:∀ {xs ys:List V} {us:List Value},Vals xs us->Vals ys us->xs=ys
 | _,_,_,.nil,.nil=>rfl
 | _,_,_,.cons r t,.cons r' t'=>by rw[r.inj r',Vals.inj t t']
section
variable{X:Cx}{N8:List (Addr×Obj)}{σ:St}{H:Hp}{s:Shared}{a:Addr}{xs ys:List V}
theorem iS.of{K:PySem.W.Frag}(h:H a=some (.lst xs)):iS K H a xs:=.inl (.inl h)
theorem iF.of{K:PySem.W.Frag}(h:H a=some (.tup xs)):iF K H a xs:=.inl (.inl h)
theorem Inv.list(I:Inv X N8 σ H s)(h:iS X.K H a xs):∃ Ob:List Value,Vals xs Ob/\PlainL s.heap a Ob.toArray/\xs.length<=sizeLine:=by
 rcases h with h | ⟨o,Ob,n,hk,hc,hd,hs,hz,r⟩
 ·obtain⟨z,Ob,n,r,e⟩:=h.ok I.bC
  exact⟨Ob,r,⟨_,n,e,rfl,rfl,rfl⟩,z⟩
 ·refine⟨Ob.toList,r,⟨o,n,I.jZ a o hk,hc,hd,by simpa using hs⟩,?_⟩
  have e:=r.length
  simp only[Array.length_toList] at e
  omega
theorem Inv.tuple(I:Inv X N8 σ H s)(h:iF X.K H a xs):∃ Ob:List Value,Vals xs Ob/\IsTup s.heap a Ob.toArray/\xs.length<=sizeLine:=by
 rcases h with h | ⟨o,Ob,n,hk,hc,hs,hz,r⟩
 ·obtain⟨z,Ob,r,p⟩:=h.ok I.bC
  exact⟨Ob,r,p,z⟩
 ·refine⟨Ob.toList,r,⟨o,I.jZ a o hk,hc,n,by simpa using hs⟩,?_⟩
  have e:=r.length
  simp only[Array.length_toList] at e
  omega
theorem Inv.qe(I:Inv X N8 σ H s)(h:iS X.K H a xs)(h':iS X.K H a ys):xs=ys:=by
 obtain⟨Ob,r,⟨o,n,e,_,_,d⟩,_⟩:=I.list h
 obtain⟨its',r',⟨o',n',e',_,_,d'⟩,_⟩:=I.list h'
 rw[e] at e';cases e'
 rw[d] at d'
 injection d' with d1 _
 have:Ob=its':=by simpa using congrArg Array.toList d1
 subst this
 exact r.inj r'
theorem Inv.n8(I:Inv X N8 σ H s)(h:iF X.K H a xs)(h':iF X.K H a ys):xs=ys:=by
 obtain⟨Ob,r,⟨o,e,_,n,d⟩,_⟩:=I.tuple h
 obtain⟨its',r',⟨o',e',_,n',d'⟩,_⟩:=I.tuple h'
 rw[e] at e';cases e'
 rw[d] at d'
 injection d' with d1 _
 have:Ob=its':=by simpa using congrArg Array.toList d1
 subst this
 exact r.inj r'
end
abbrev Cx.r0(X:Cx)(E:Value->Shared->Prop):Cx:={ X with xe:=E }
theorem Cx.Ok.r0{X:Cx}(ok:X.Ok)(E:Value->Shared->Prop):(X.r0 E).Ok :=
 ⟨ok.mod,ok.kind,ok.glob,ok.blt,ok.above,ok.inj,ok.has,ok.GU,ok.hd,ok.frames,ok.IB,ok.JU,ok.bs,ok.CO,ok.vg,ok.wa,ok.mv,ok.Ec⟩
theorem Cx.Ok.e7{X:Cx}{E:Value->Shared->Prop}(ok:(X.r0 E).Ok):X.Ok :=
 ⟨ok.mod,ok.kind,ok.glob,ok.blt,ok.above,ok.inj,ok.has,ok.GU,ok.hd,ok.frames,ok.IB,ok.JU,ok.bs,ok.CO,ok.vg,ok.wa,ok.mv,ok.Ec⟩
section
variable{X:Cx}{N8:List (Addr×Obj)}{σ:St}{H:Hp}{s:Shared}{E:Value->Shared->Prop}
theorem Inv.r0(I:Inv X N8 σ H s)(E:Value->Shared->Prop):Inv (X.r0 E) N8 σ H s:=⟨I.ok.r0 E,I.os,I.bare,I.base,I.loc,I.cell,I.free,I.gM,I.pin,I.bC,I.len⟩
theorem Inv.e7(I:Inv (X.r0 E) N8 σ H s):Inv X N8 σ H s:=⟨I.ok.e7,I.os,I.bare,I.base,I.loc,I.cell,I.free,I.gM,I.pin,I.bC,I.len⟩
theorem SP.e7{D:Ends}{f:Flow}{s':Shared}(h:SP (X.r0 E) N8 D f s'):SP X N8 D f s':=by
 cases f with
 | next=>obtain⟨σ',H',I,q⟩:=h;exact⟨σ',H',I.e7,q⟩
 | brk=>obtain⟨σ',H',I,q⟩:=h;exact⟨σ',H',I.e7,q⟩
 | cont=>obtain⟨σ',H',I,q⟩:=h;exact⟨σ',H',I.e7,q⟩
 | ret u=>obtain⟨v,σ',H',I,r,q⟩:=h;exact⟨v,σ',H',I.e7,r,q⟩
end
section
variable{X:Cx}{st:Stmt}{rest:List Stmt}{t u:TS}{e:Expr}{te:TE}{pos:Pos}
def Ke:TS:=λD σ H=>D.nx σ H
def Ml(t u:TS):TS:=λD σ H=>t { D with nx:=u D } σ H
theorem zx:mH X [] Ke:=λ_ _ σ H _ I h=>wpAny_execs_nil ⟨σ,H,I,h⟩
theorem xp(h1:PS X st t)(h2:mH X rest u):mH X (st::rest) (Ml t u):=by
 intro N8 s σ H D I h
 refine wpAny_execs_cons (cB (h1 N8 s σ H { D with nx:=u D } I h) λf s1 q=>?_)
 cases f with
 | next =>
  obtain⟨σ',H',I',q⟩:=q
  exact h2 N8 s1 σ' H' D I' q
 | ret v=>exact q
 | brk=>exact q
 | cont=>exact q
theorem FA(h1:PS X st t):mH X [st] t:=by
 intro N8 s σ H D I h
 refine wpAny_execs_cons (cB (h1 N8 s σ H D I h) λf s1 q=>?_)
 cases f with
 | next=>exact wpAny_execs_nil q
 | ret v=>exact q
 | brk=>exact q
 | cont=>exact q
theorem Inv.quiet{N8:List (Addr×Obj)}{σ:St}{H:Hp}{s:Shared}(I:Inv X N8 σ H s):interactive X.env=false:=by simp[interactive,I.ok.kind]
def Lp(te:TE):TS:=λD σ H=>te σ H λ_ H1=>D.nx σ H1
theorem ur(he:PE X e te)(hs:swapsWith e none pos.line X.env=pure false:=by rfl):PS X (.Expr e pos) (Lp te):=by
 intro N8 s σ H D I h
 exact wpAny_Expr_any (cB (he N8 s σ H _ I h) λv s1 ⟨x,H1,I1,r1,q1⟩=>⟨σ,H1,I1,q1⟩) I.quiet hs
def MQ(te:TE):TS:=λD σ H=>te σ H D.rt
theorem G_(he:PE X e te):PS X (.Return (some e) pos) (MQ te):=by
 intro N8 s σ H D I h
 exact wpAny_Return_some (cB (he N8 s σ H _ I h) λv s1 ⟨x,H1,I1,r1,q1⟩=>⟨x,σ,H1,I1,r1,q1⟩)
def Mx(c:TT)(t u:TS):TS:=λD σ H=>c σ H λb H1=>if b=true then t D σ H1 else u D σ H1
theorem J6{c:Expr}{a b:List Stmt}{tc:TT}(hc:PT X c tc)(ha:mH X a t)(hb:mH X b u):PS X (.If c a b pos) (Mx tc t u):=by
 intro N8 s σ H D I h
 refine wpAny_If (cB (hc N8 s σ H _ I h) λd s1 ⟨H1,I1,q1⟩=>?_)
 cases d with
 | true=>exact ha N8 s1 σ H1 D I1 q1
 | false=>exact hb N8 s1 σ H1 D I1 q1
end
abbrev TG:=V->St->Hp->(St->Hp->Prop)->Prop
abbrev H_:=List V->St->Hp->(St->Hp->Prop)->Prop
def PG(X:Cx)(target:Expr)(t:TG):Prop :=
 ∀ (N8:List (Addr×Obj)) (s:Shared) (σ:St) (H:Hp) (v:V) (u:Value) (Q:St->Hp->Prop),Inv X N8 σ H s->RelV v u->t v σ H Q ->
  wpAny (model X.prog X.w) X.A (assign target X.env u) (λ_ s'=>∃ σ' H',Inv X N8 σ' H' s'/\Q σ' H') X.xe s
def LD(X:Cx)(ts:List Expr)(t:H_):Prop :=
 ∀ (N8:List (Addr×Obj)) (s:Shared) (σ:St) (H:Hp) (vs:List V) (us:List Value) (Q:St->Hp->Prop),Inv X N8 σ H s->Vals vs us->t vs σ H Q ->
  wpAny (model X.prog X.w) X.A (assignInOrder ((assignEach ts X.env).map (·.2)) us) (λ_ s'=>∃ σ' H',Inv X N8 σ' H' s'/\Q σ' H') X.xe s
abbrev IM:=V->V->V->Hp->(Hp->Prop)->Prop
def Lz(X:Cx)(t:IM):Prop :=
 ∀ (N8:List (Addr×Obj)) (s:Shared) (σ:St) (H:Hp) (o i v:V) (ov iv u:Value) (Q:Hp->Prop),Inv X N8 σ H s->RelV o ov->RelV i iv->RelV v u->t o i v H Q ->
  wpAny (model X.prog X.w) X.A (setItem ov iv u) (λ_ s'=>∃ H',Inv X N8 σ H' s'/\Q H') X.xe s
section
variable{X:Cx}{pos:Pos}
def aH(i:Nat):TG:=λv σ H Q=>Q (σ.set i (some v)) H
theorem FE{i:Nat}{x:Str}(hN:X.N.Nodup)(hi:X.N[i]?=some x)(hx:Loc X.env.scope x)(hf:X.fn x=true\/X.env.scope.names.lookup x=some .local:=by first | exact .inl rfl | exact .inr rfl | assumption):PG X (.Name x pos) (aH i):=by
 intro N8 s σ H v u Q I r h
 exact wpAny_assign_Name (kR I hN hi hx r (λs' I'=>⟨_,H,I',h⟩) hf)
def iT:H_:=λvs σ H Q=>vs=[]/\Q σ H
def bc(t:TG)(u:H_):H_:=λvs σ H Q=>∃ v r,vs=v::r/\t v σ H fun σ' H'=>u r σ' H' Q
theorem bW:LD X [] iT:=by
 intro N8 s σ H vs us Q I r h
 obtain⟨e,h⟩:=h
 subst e
 cases r
 exact assignInOrder_nil ⟨σ,H,I,h⟩
theorem aG{e:Expr}{es:List Expr}{t:TG}{u:H_}(h1:PG X e t)(h2:LD X es u)
  (hs:(assignEach (e::es) X.env).map (·.2)=assign e X.env::(assignEach es X.env).map (·.2):=by rfl):LD X (e::es) (bc t u):=by
 intro N8 s σ H vs us Q I r h
 obtain⟨v,vr,e1,h⟩:=h
 subst e1
 cases r with
 | cons r rr =>
  rw[hs]
  refine assignInOrder_cons (cB (h1 N8 s σ H _ _ _ I r h) λ_ s1 ⟨σ1,H1,I1,q1⟩=>?_)
  exact h2 N8 s1 σ1 H1 _ _ Q I1 rr q1
def iU(K:PySem.W.Frag)(n:Nat)(t:H_):TG:=λv σ H Q=>∃ a xs,v=.ref a/\iF K H a xs/\xs.length=n/\t xs σ H Q
theorem c_{es:List Expr}{k:Nat}{t:H_}{n:Nat}(hc:X.calm=true)(h:LD X es t)
  (hn:(assignEach es X.env).length=n:=by rfl) (Oz:(assignEach es X.env).findIdx? (·.1)=none:=by rfl):PG X (.Tuple es k pos) (iU X.K n t):=by
 intro N8 s σ H v u Q I r hw
 obtain⟨a,xs,e1,hq,hl,hw⟩:=hw
 subst e1
 cases r
 obtain⟨Ob,rv,ht,hz⟩:=I.tuple hq
 refine assign_Tuple_tuple (I.ok.hd hc) ht (by simp[hn,← hl,rv.length]) Oz λh' hx=>?_
 have I1:Inv X N8 σ H { s with heap:=h' }:=I.kept (t':=s.toks) λb o e=>hx b o (Nat.ne_of_lt (Heap.lt_size e)) e
 exact h N8 _ σ H xs _ Q I1 (by simpa using rv) hw
def Mb(to ti:TE)(t:IM):TG:=λv σ H Q=>to σ H λo H1=>ti σ H1 λi H2=>t o i v H2 λH3=>Q σ H3
theorem Ha{o i:Expr}{to ti:TE}{t:IM}(ho:PE X o to)(hi:PE X i ti)(hs:Lz X t)
  (ha:∀ v,assign (.Subscript o i pos) X.env v=(do
   let ov ← holding [v] (eval o X.env)
   let iv ← holding [v,ov] (eval i X.env)
   standAt pos
   holding [v,ov,iv] (setItem ov iv v)
   release [v,ov,iv] []):=by intro _;rfl):PG X (.Subscript o i pos) (Mb to ti t):=by
 intro N8 s σ H v u Q I r h
 rw[ha]
 refine wpAny_bind (wpAny_holding (cB (ho N8 s σ H _ I h) λov s1 ⟨x,H1,I1,r1,q1⟩=>?_))
 refine wpAny_bind (wpAny_holding (cB (hi N8 s1 σ H1 _ I1 q1) λiv s2 ⟨y,H2,I2,r2,q2⟩=>?_))
 refine wpAny_bind (wpAny_standAt (wpAny_bind (wpAny_holding (cB (hs N8 s2 σ H2 x y v ov iv u _ I2 r1 r2 r q2) λ_ s3 ⟨H3,I3,q3⟩=>?_))))
 exact wpAny_release ⟨σ,H3,I3,q3⟩
def Je(te:TE)(g:TG):TS:=λD σ H=>te σ H λx H1=>g x σ H1 D.nx
theorem Ir{tg e:Expr}{te:TE}{g:TG}(he:PE X e te)(hg:PG X tg g)(hs:swapsWithSole [tg] e pos.line X.env=pure false:=by rfl)(hw:swappedStores [tg] e X.env=pure none:=by rfl)
  (h1:(assignEach [tg] X.env).map (·.2)=[assign tg X.env]:=by rfl):PS X (.Assign [tg] e pos) (Je te g):=by
 intro N8 s σ H D I h
 refine wpAny_Assign_stores (cB (he N8 s σ H _ I h) λv s1 ⟨x,H1,I1,r1,q1⟩=>?_) hs hw
 rw[h1]
 exact cB (hg N8 s1 σ H1 x v _ I1 r1 q1) λ_ s2 q=>q
theorem BM{i:Nat}{x:Str}{e:Expr}{te:TE}{pos':Pos}(hN:X.N.Nodup)(hi:X.N[i]?=some x)(hx:Loc X.env.scope x)(he:PE X e te)(hs:swapsWith e (some (.Name x pos')) pos.line X.env=pure false:=by rfl)(hf:X.fn x=true\/X.env.scope.names.lookup x=some .local:=by first | exact .inl rfl | exact .inr rfl | assumption) :
  PS X (.Assign [.Name x pos'] e pos) (Je te (aH i)):=by
 intro N8 s σ H D I h
 refine wpAny_Assign_Name (cB (he N8 s σ H _ I h) λv s1 ⟨y,H1,I1,r1,q1⟩=>?_) hs
 exact kR I1 hN hi hx r1 (λs2 I2=>⟨_,H1,I2,q1⟩) hf
def MT(i j:Nat)(ta:TA):TS:=λD σ H=>ta σ H λvs H1=>∃ v w,vs=[v,w]/\D.nx ((σ.set i (some v)).set j (some w)) H1
theorem Hh{i j:Nat}{x y:Str}{a b:Expr}{ta:TA}{px py pt:Pos}{kt k2 Rq}(hc:X.calm=true)(hN:X.N.Nodup)(hi:X.N[i]?=some x)(hj:X.N[j]?=some y)(hij:i≠j)
  (hx:X.env.scope.names.lookup x=some .local) (hy:X.env.scope.names.lookup y=some .local) (ha:PA X [a,b] ta)
  (hw:swappedStores [.Tuple [.Name x px,.Name y py] kt pt] (.Tuple [a,b] k2 Rq) X.env=pure (some [x,y]))
  (hs:swapsWithSole [.Tuple [.Name x px,.Name y py] kt pt] (.Tuple [a,b] k2 Rq) pos.line X.env=pure false:=by rfl) :
  PS X (.Assign [.Tuple [.Name x px,.Name y py] kt pt] (.Tuple [a,b] k2 Rq) pos) (MT i j ta):=by
 intro N8 s σ H D I h
 rw[exec_Assign_arm]
 refine wpAny_bind (wpAny_standAt ?_)
 rw[hs]
 refine wpAny_bind (wpAny_pure ?_)
 rw[if_neg (by decide)]
 refine wpAny_bind (Tuple_ (cB (ha _ N8 s σ H _ I h) λus s1 ⟨vs,H1,I1,r1,q1⟩=>?_))
 obtain⟨v,w,e1,q1⟩:=q1
 subst e1
 obtain⟨u1,u2,rfl,rv,P7⟩:∃ u1 u2,us=[u1,u2]/\RelV v u1/\RelV w u2:=by
  cases r1 with
  | cons p q =>
   cases q with
   | cons p' q' =>
    cases q'
    exact⟨_,_,rfl,p,p'⟩
 refine wpAny_newObj_type ?_ (by show 2<=sizeLine;decide)
 have I2:Inv X N8 σ H1 { s1 with heap:=s1.heap.push { cls:=.type "tuple", data:=.seq [u1,u2].toArray } }:=I1.kept (t':=s1.toks) λb o e=>Heap.get?_push_of_some _ e
 rw[hw]
 refine wpAny_bind (wpAny_pure ?_)
 show wpAny (model X.prog X.w) X.A (do rule "assign.swapped-stores";let items ← unpackItems (.ref s1.heap.objs.size) 2 none;assignInOrder [λv=>bindName X.env y v,λv=>bindName X.env x v] items.reverse;pure Flow.next) _ _ _
 refine wpAny_bind (wpAny_rule (wpAny_bind (unpackItems_tuple (items:=#[u1,u2]) (I.ok.hd hc) (IsTup.new s1.heap _) λh' Rn=>?_)))
 have I3:=I2.kept (h':=h') (t':=s1.toks) λb o e=>Rn b o (Nat.ne_of_lt (Heap.lt_size e)) e
 show wpAny _ _ (assignInOrder [λv=>bindName X.env y v,λv=>bindName X.env x v] [u2,u1] >>= λ_=>pure Flow.next) _ _ _
 refine wpAny_bind (assignInOrder_cons (wpAny_bindName (kR I3 hN hj (.inl hy) P7 (λs2 I4=>?_) (.inr hy))))
 refine assignInOrder_cons (wpAny_bindName (kR I4 hN hi (.inl hx) rv (λs3 I5=>assignInOrder_nil (wpAny_pure ?_)) (.inr hx)))
 rw[List.set_comm _ _ (Ne.symm hij)] at I5
 exact⟨_,H1,I5,q1⟩
end
section
variable{X:Cx}{pos:Pos}
def Js(c:TT)(tb:TS):TS:=λD σ H=>∃ W:Nat->St->Hp->Prop,(∃ m,W m σ H)/\∀ m σ H,W m σ H ->
 c σ H λb H1=>if b=true then ∃ N:St->Hp->Prop,(∀ σ' H',N σ' H'->∃ m',m'<m/\W m' σ' H')/\tb { D with nx:=N,ct:=N,bk:=D.nx } σ H1 else D.nx σ H1
theorem BI{c:Expr}{body:List Stmt}{tc:TT}{tb:TS}(hp:PassesOwn (model X.prog X.w) X.A X.env X.xe)(hc:PT X c tc)(hb:mH X body tb):PS X (.While c body [] pos) (Js tc tb):=by
 intro N8 s σ H D I h
 obtain⟨W,⟨m0,w0⟩,turn⟩:=h
 refine wpAny_While (codeAny_whileLoop (λn s'=>∃ σ' H',Inv X N8 σ' H' s'/\W n σ' H') ?_ m0 ⟨σ,H,I,w0⟩)
 rintro n s1 ⟨σ1,H1,I1,w1⟩
 refine wpAny_passesOwn hp (cB (hc N8 s1 σ1 H1 _ I1 (turn n σ1 H1 w1)) λb s2 ⟨H2,I2,q2⟩=>?_)
 cases b with
 | true =>
  obtain⟨N,hN,q2⟩:=q2
  rw[if_pos rfl]
  refine wpAny_passesOwn hp (cB (hb N8 s2 σ1 H2 _ I2 q2) λf s3 q3=>?_)
  cases f with
  | next =>
   obtain⟨σ3,H3,I3,n3⟩:=q3
   obtain⟨m',hm,w3⟩:=hN σ3 H3 n3
   exact⟨m',hm,σ3,H3,I3,w3⟩
  | cont =>
   obtain⟨σ3,H3,I3,n3⟩:=q3
   obtain⟨m',hm,w3⟩:=hN σ3 H3 n3
   exact⟨m',hm,σ3,H3,I3,w3⟩
  | brk=>exact q3
  | ret v=>exact q3
 | false =>
  rw[if_neg Bool.false_ne_true]
  exact wpAny_execs_nil ⟨σ1,H2,I2,q2⟩
end
structure It where
 go:Nat->Hp->Prop
 xF:Nat->Hp->V->Hp->Prop
 stop:Nat->Hp->Prop
def nG(X:Cx)(N8:List (Addr×Obj))(H:Hp)(b:Addr):Prop :=
 H b=none/\b≠X.env.locals/\b ∉ X.fs/\(b∈X.ex\/X.s₀.heap.objs.size<=b)/\(∀ x c,X.env.cells.lookup x=some c->c≠b)/\∀ p∈X.pn++N8,p.1≠b
theorem Inv.vq{X:Cx}{N8:List (Addr×Obj)}{σ:St}{H H':Hp}{s:Shared}{b:Addr}(I:Inv X N8 σ H s)(hb:s.heap.objs.size<=b)(hn:H' b=none):nG X N8 H' b:=by
 refine⟨hn,Nat.ne_of_gt (Nat.lt_of_lt_of_le I.lt hb),I.ML hb,.inr (Nat.le_trans I.sz hb),λx c e z=>?_,λp hp z=>?_⟩
 ·obtain⟨v,q⟩:=I.cell x c e
  exact absurd (Nat.lt_of_lt_of_le q.lt (by rw[z];exact hb)) (Nat.lt_irrefl _)
 ·exact absurd (Nat.lt_of_lt_of_le (Heap.lt_size (I.pin p hp).1) (by rw[z];exact hb)) (Nat.lt_irrefl _)
structure Turn (P:Program) (w:World) (K:PySem.W.Frag) (tg:Expr) (J:It) (fp:List Addr) (it:Addr) (tn:Nat->Heap->Prop):Prop where
 mem:it∈fp
 obj:∀ i h,tn i h->∀ b∈fp,∃ o,h.get? b=some o/\∀ v,o.data≠.cell v
 keep:∀ i h h',tn i h->(∀ b∈fp,∀ o,h.get? b=some o->h'.get? b=some o)->tn i h'
 item:∀ (X:Cx),X.prog=P->X.w=w->X.K=K->X.calm=true->∀ (i:Nat) (N8:List (Addr×Obj)) (s:Shared) (σ:St) (H:Hp) (E:Value->Shared->Prop),Inv X N8 σ H s->(∀ b∈fp,nG X N8 H b)->tn i s.heap->J.go i H ->
  wpAny (model P w) X.A (pyNext (.ref it)) (λr s1=>∃ u,r=some u ∧
   wpAny (model P w) X.A (letOwnedTupleGo tg (.ref it) u) (λ_ s2=>∃ x H',Inv X N8 σ H' s2/\RelV x u/\J.xF i H x H'/\tn (i+1) s2.heap/\∀ b∈fp,H' b=none) E s1) E s
 done:∀ (X:Cx),X.prog=P->X.w=w->X.K=K->X.calm=true->∀ (i:Nat) (N8:List (Addr×Obj)) (s:Shared) (σ:St) (H:Hp) (E:Value->Shared->Prop),Inv X N8 σ H s->(∀ b∈fp,nG X N8 H b)->tn i s.heap->J.stop i H ->
  wpAny (model P w) X.A (pyNext (.ref it)) (λr s1=>r=none/\Inv X N8 σ H s1) E s
 self:∀ (A:Around) (i:Nat) (s:Shared) (Q:Value->Shared->Prop) (E:Value->Shared->Prop),tn i s.heap->Q (.ref it) s->wpAny (model P w) A (pyIter (.ref it)) Q E s
abbrev TI:=St->Hp->(It->Hp->Prop)->Prop
def Mm(X:Cx)(N8:List (Addr×Obj))(σ:St)(tg:Expr)(R:It->Hp->Prop)(itv:Value)(s2:Shared):Prop :=
 ∃ (it:Addr) (fp:List Addr) (tn:Nat->Heap->Prop) (J:It) (H':Hp),itv=.ref it/\Inv X N8 σ H' s2/\Turn X.prog X.w X.K tg J fp it tn/\tn 0 s2.heap/\(∀ b∈fp,nG X N8 H' b)/\R J H'
def PI(X:Cx)(tg iter:Expr)(wi:TI):Prop :=
 ∀ (N8:List (Addr×Obj)) (s:Shared) (σ:St) (H:Hp) (R:It->Hp->Prop),Inv X N8 σ H s->wi σ H R ->
  wpAny (model X.prog X.w) X.A (eval iter X.env) (λv s1=>wpAny (model X.prog X.w) X.A (pyIter v) (Mm X N8 σ tg R) X.xe s1) X.xe s
theorem zp {M : Model} {A : Around} {E : Value -> Shared -> Prop} {s : Shared} {tg : Expr} {it : Addr} {u : Value} {o : Obj} {n : String} {vs : Array Value} {Q : Unit -> Shared -> Prop} (ho : s.heap.get? it = some o) (hc : o.cls = .type n) (hd : o.data = .fields vs)
    (hn : ["enumerate", "zip", "dict_itemiterator", "dict_reverseitemiterator", "odict_iterator", "itertools.zip_longest", "itertools.pairwise"].contains n = false) (hQ : Q () s) : wpAny M A (letOwnedTupleGo tg (.ref it) u) Q E s := by
  unfold letOwnedTupleGo
  cases tg <;> first
    | exact wpAny_pure hQ
    | (cases u <;> first
        | exact wpAny_pure hQ
        | (refine wpAny_bind (wpAny_load ho ?_)
           rw [hc, hd]
           show wpAny M A (if (["enumerate", "zip", "dict_itemiterator", "dict_reverseitemiterator", "odict_iterator", "itertools.zip_longest", "itertools.pairwise"].contains n && vs[0]? == some (rawInt _)) = true then _ else _) Q E s
           rw [if_neg (by intro h; rw [hn, Bool.false_and] at h; cases h)]
           exact wpAny_pure hQ))
def Nz(K:PySem.W.Frag)(a:Addr):It :=
 ⟨λi H=>∃ xs x,iS K H a xs/\xs[i]?=some x,λi H x H'=>H'=H/\∀ xs,iS K H a xs->xs[i]?=some x,λi H=>∃ xs,iS K H a xs/\xs.length<=i⟩
def NC(K:PySem.W.Frag)(a:Addr):It :=
 ⟨λi H=>∃ xs x,iF K H a xs/\xs[i]?=some x,λi H x H'=>H'=H/\∀ xs,iF K H a xs->xs[i]?=some x,λi H=>∃ xs,iF K H a xs/\xs.length<=i⟩
def Ki(lo:Int)(n:Nat):It:=⟨λi _=>i<n,λi H x H'=>H'=H/\x=.int (lo+i),λi _=>n<=i⟩
theorem AM{P:Program}{w:World}{K:PySem.W.Frag}{tg:Expr}(a it:Addr):Turn P w K tg (Nz K a) [it] it (λi h=>h.IsListIter it a i) where
 mem:=by simp
 obj:=λi h st b hb=>by
  have e:b=it:=by simpa using hb
  subst e
  obtain⟨o,e,c,d⟩:=st
  exact⟨o,e,λv z=>by rw[d] at z;cases z⟩
 keep:=λi h h' st k=>st.at λo e=>k it (by simp) o e
 item:=by
  intro X hP hw hK hc i N8 s σ H E I hf st hg
  subst hP hw hK
  obtain⟨xs,x,hq,hx⟩:=hg
  obtain⟨Ob,rv,p,hz⟩:=I.list hq
  obtain⟨u,hu,ru⟩:=rv.get hx
  obtain⟨f0,f1,f2,f3,f4,f5⟩:=hf it (by simp)
  refine wpAny_pyNext_list_item st p.isList (x:=u) (by simpa using hu) λh' Pj sb=>?_
  have I1:Inv X N8 σ H { s with heap:=h' }:=I.turned (t':=s.toks) (λb o hb e=>(sb.2 b hb).trans e) f0 f1 f3 f4 f5
  obtain⟨o,e,c,d⟩:=id Pj
  exact⟨u,rfl,zp (s:={ s with heap:=h' }) e c d (by decide) ⟨x,H,I1,ru,⟨rfl,λys hy=>by rw[I.qe hy hq];exact hx⟩,Pj,λb hb=>(hf b hb).1⟩⟩
 done:=by
  intro X hP hw hK hc i N8 s σ H E I hf st hg
  subst hP hw hK
  obtain⟨xs,hq,hx⟩:=hg
  obtain⟨Ob,rv,p,hz⟩:=I.list hq
  obtain⟨f0,f1,f2,f3,f4,f5⟩:=hf it (by simp)
  have hl:=rv.length
  exact wpAny_pyNext_list_end (I.ok.hd hc) st p.isList (by simp;omega) λh' eb=>⟨rfl,I.turned (t':=s.toks) (λb o hb e=>eb b o hb e) f0 f1 f3 f4 f5⟩
 self:=λ_ _ _ _ _ st h=>wpAny_pyIter_listiter st h
theorem yH{P:Program}{w:World}{K:PySem.W.Frag}{tg:Expr}(a it:Addr):Turn P w K tg (NC K a) [it] it (λi h=>h.IsTupleIter it a i) where
 mem:=by simp
 obj:=λi h st b hb=>by
  have e:b=it:=by simpa using hb
  subst e
  obtain⟨o,e,c,d⟩:=st
  exact⟨o,e,λv z=>by rw[d] at z;cases z⟩
 keep:=λi h h' st k=>st.at λo e=>k it (by simp) o e
 item:=by
  intro X hP hw hK hc i N8 s σ H E I hf st hg
  subst hP hw hK
  obtain⟨xs,x,hq,hx⟩:=hg
  obtain⟨Ob,rv,p,hz⟩:=I.tuple hq
  obtain⟨u,hu,ru⟩:=rv.get hx
  obtain⟨f0,f1,f2,f3,f4,f5⟩:=hf it (by simp)
  refine wpAny_pyNext_tuple_item st (show s.heap.IsTuple a Ob.toArray from p) (x:=u) (by simpa using hu) λh' Pj sb=>?_
  have I1:Inv X N8 σ H { s with heap:=h' }:=I.turned (t':=s.toks) (λb o hb e=>(sb.2 b hb).trans e) f0 f1 f3 f4 f5
  obtain⟨o,e,c,d⟩:=id Pj
  exact⟨u,rfl,zp (s:={ s with heap:=h' }) e c d (by decide) ⟨x,H,I1,ru,⟨rfl,λys hy=>by rw[I.n8 hy hq];exact hx⟩,Pj,λb hb=>(hf b hb).1⟩⟩
 done:=by
  intro X hP hw hK hc i N8 s σ H E I hf st hg
  subst hP hw hK
  obtain⟨xs,hq,hx⟩:=hg
  obtain⟨Ob,rv,p,hz⟩:=I.tuple hq
  obtain⟨f0,f1,f2,f3,f4,f5⟩:=hf it (by simp)
  have hl:=rv.length
  exact wpAny_pyNext_tuple_end (I.ok.hd hc) st (show s.heap.IsTuple a Ob.toArray from p) (by simp;omega) λh' eb=>⟨rfl,I.turned (t':=s.toks) (λb o hb e=>eb b o hb e) f0 f1 f3 f4 f5⟩
 self:=λ_ _ _ _ _ st h=>wpAny_pyIter_tupleiter st h
theorem yL{P:Program}{w:World}{K:PySem.W.Frag}{tg:Expr}(it:Addr)(lo:Int)(n:Nat):Turn P w K tg (Ki lo n) [it] it (λi h=>IsRangeIter h it (lo+(i:Nat)*1) ((n:Int)-(i:Nat)) 1) where
 mem:=by simp
 obj:=λi h st b hb=>by
  have e:b=it:=by simpa using hb
  subst e
  exact⟨_,st,λv z=>by
   have z':Data.fields _=Data.cell v:=z
   cases z'⟩
 keep:=λi h h' st k=>k it (by simp) _ st
 item:=by
  intro X hP hw hK hc i N8 s σ H E I hf st hg
  subst hP hw hK
  obtain⟨f0,f1,f2,f3,f4,f5⟩:=hf it (by simp)
  have W:=Walks.range (prog:=X.prog) (w:=X.w) (I.ok.hd hc) it lo 1 n
  refine W.item i s _ _ hg st λv h' tk hv Pj kk=>?_
  obtain⟨t,rfl⟩:=hv
  have I1:Inv X N8 σ H { s with heap:=h',toks:=tk }:=I.turned (λb o hb e=>kk b o (by simpa using hb) e) f0 f1 f3 f4 f5
  refine⟨_,rfl,zp (s:={ s with heap:=h',toks:=tk }) (n := "range_iterator") Pj rfl rfl (by decide) ⟨.int (lo+i),H,I1,⟨t,?_⟩,⟨rfl,rfl⟩,Pj,λb hb=>(hf b hb).1⟩⟩
  rw[Int.mul_one]
 done:=by
  intro X hP hw hK hc i N8 s σ H E I hf st hg
  subst hP hw hK
  obtain⟨f0,f1,f2,f3,f4,f5⟩:=hf it (by simp)
  exact wpAny_pyNext_range_end (I.ok.hd hc) st (by have:n<=i:=hg;omega) λh' eb=>⟨rfl,I.turned (t':=s.toks) (λb o hb e=>eb b o hb e) f0 f1 f3 f4 f5⟩
 self:=λ_ _ _ _ _ st h=>wpAny_pyIter_rangeiter st h
end L2
namespace L2
open PySem PySem.Spec PyProof.Rows
section
variable{X:Cx}{tg:Expr}
theorem v_{N8:List (Addr×Obj)}{σ:St}{H:Hp}{s:Shared}{R:It->Hp->Prop}{E:Value->Shared->Prop}{lo hi:Int}{t u v:Tok}{tk:Nat}(I:Inv X N8 σ H s)(h1:-(2^62)<=lo)(h2:lo<2^62)(h3:-(2^62)<=hi)(h4:hi<2^62)
  (q:R (Ki lo (hi-lo).toNat) H):wpAny (model X.prog X.w) X.A (pyIter (.ref s.heap.objs.size)) (Mm X N8 σ tg R) E { s with heap:=s.heap.push { cls:=.type "range", data:=.fields #[.int lo t,.int hi u,.int 1 v] },toks:=tk }:=by
 refine wpAny_pyIter_range (IsRange.new ..) (small_one h1 h2 h3 h4) ?_
 have I1:Inv X N8 σ H { s with heap:=s.heap.push { cls:=.type "range", data:=.fields #[.int lo t,.int hi u,.int 1 v] },toks:=tk }:=I.kept λb o e=>Heap.get?_push_of_some _ e
 refine⟨(s.heap.push { cls:=.type "range", data:=.fields #[.int lo t,.int hi u,.int 1 v] }).objs.size,[(s.heap.push { cls:=.type "range", data:=.fields #[.int lo t,.int hi u,.int 1 v] }).objs.size],_,_,H,rfl,
  I1.kept (t':=tk) λb o e=>Heap.get?_push_of_some _ e,yL _ lo (hi-lo).toNat,?_,λb hb=>?_,q⟩
 ·have e1:lo+((0:Nat):Int)*1=lo:=by simp
  have e2:(((hi-lo).toNat:Nat):Int)-((0:Nat):Int)=Builtin.Range.rangeSize lo hi 1:=by rw[rangeSize_one];split <;> omega
  show IsRangeIter _ _ (lo+((0:Nat):Int)*1) ((((hi-lo).toNat:Nat):Int)-((0:Nat):Int)) 1
  rw[e1,e2]
  exact Heap.get?_push_size _ rfl
 ·have e:b=(s.heap.push { cls:=.type "range", data:=.fields #[.int lo t,.int hi u,.int 1 v] }).objs.size:=by simpa using hb
  subst e
  exact I1.vq (Nat.le_refl _) (I1.bC.fresh (Nat.le_refl _))
def Gs(ta:TA):TI:=fun σ H R=>ta σ H λvs H1=>∃ j:Int,vs=[.int j]/\-(2^62)<=j/\j<2^62/\R (Ki 0 j.toNat) H1
def Gm(ta:TA):TI:=fun σ H R=>ta σ H λvs H1=>∃ i j:Int,vs=[.int i,.int j]/\(-(2^62)<=i/\i<2^62/\-(2^62)<=j/\j<2^62)/\R (Ki i (j-i).toNat) H1
theorem fM{a:Expr}{ta:TA}{p pos:Pos}(hg:Gl X "range")(hm:X.mg "range" = none)(ha:PA X [a] ta)(hs:starEach [a] X.env=[(false,eval a X.env)]:=by rfl):PI X tg (.Call (.Name "range" p) [a] [] pos) (Gs ta):=by
 intro N8 s σ H R I h
 refine Call_ (j6 I hg hm boot_range (PyProof.Rows.callWith_type1 (cB (ha pos N8 s σ H _ I h) λus s1 ⟨vs,H1,I1,r1,q1⟩=>?_) hs rfl))
 obtain⟨j,e,q1,q2,q⟩:=q1
 subst e
 cases r1 with
 | cons r rr =>
  cases rr
  obtain⟨t,rfl⟩:=r
  exact call_range_1 (v_ I1 (by omega) (by omega) q1 q2 (by simpa using q))
theorem Bc{a b:Expr}{ta:TA}{p pos:Pos}(hg:Gl X "range")(hm:X.mg "range" = none)(ha:PA X [a,b] ta)(hs:starEach [a,b] X.env=[(false,eval a X.env),(false,eval b X.env)]:=by rfl)(PK:starEach [b] X.env=[(false,eval b X.env)]:=by rfl) :
  PI X tg (.Call (.Name "range" p) [a,b] [] pos) (Gm ta):=by
 intro N8 s σ H R I h
 refine Call_ (j6 I hg hm boot_range (PyProof.Rows.callWith_type1 (cB (ha pos N8 s σ H _ I h) λus s1 ⟨vs,H1,I1,r1,q1⟩=>?_) (by rw[hs,PK]) (by rw[PK];rfl)))
 obtain⟨i,j,e,⟨q1,q2,q3,q4⟩,q⟩:=q1
 subst e
 cases r1 with
 | cons r rr =>
  cases rr with
  | cons r' rr =>
   cases rr
   obtain⟨t,rfl⟩:=r
   obtain⟨t',rfl⟩:=r'
   exact call_range_2 (v_ I1 q1 q2 q3 q4 q)
def Nn(wi:TI)(g:TG)(tb:TS):TS:=λD σ H=>wi σ H λJ H1=>∃ W:Nat->Nat->St->Hp->Prop,(∃ m,W 0 m σ H1)/\∀ i m σ H,W i m σ H ->
 (J.stop i H/\D.nx σ H)\/(J.go i H/\∃ N:St->Hp->Prop,(∀ σ' H',N σ' H'->∃ m',m'<m/\W (i+1) m' σ' H')/\∀ x H',J.xF i H x H'->g x σ H' fun σ2 H2=>tb { D with nx:=N,ct:=N,bk:=D.nx } σ2 H2)
def og(fp:List Addr)(h:Heap):List (Addr×Obj):=fp.filterMap λb=>(h.get? b).map λo=>(b,o)
theorem j5{fp:List Addr}{h:Heap}{b:Addr}{o:Obj}(hb:b∈fp)(e:h.get? b=some o):(b,o)∈og fp h:=List.mem_filterMap.mpr ⟨b,hb,by rw[e];rfl⟩
theorem Aw{fp:List Addr}{h:Heap}{p:Addr×Obj}(hp:p∈og fp h):p.1∈fp/\h.get? p.1=some p.2:=by
 obtain⟨b,hb,e⟩:=List.mem_filterMap.mp hp
 cases q:h.get? b with
 | none=>rw[q] at e;cases e
 | some o =>
  rw[q] at e
  have e':(b,o)=p:=Option.some.inj e
  subst e'
  exact⟨hb,q⟩
theorem Inv.pinned{N8:List (Addr×Obj)}{σ:St}{H:Hp}{s:Shared}{fp:List Addr}(I:Inv X N8 σ H s)(hf:∀ b∈fp,nG X N8 H b)(ho:∀ b∈fp,∃ o,s.heap.get? b=some o/\∀ v,o.data≠.cell v):Inv X (N8++og fp s.heap) σ H s :=
 I.zj λp hp=>(List.mem_append.mp hp).elim (λz=>I.pin p (List.mem_append_right _ z)) λz=>by
  obtain⟨hb,e⟩:=Aw z
  obtain⟨f0,f1,f2,_⟩:=hf p.1 hb
  obtain⟨o,e',d⟩:=ho p.1 hb
  rw[e] at e';cases e'
  exact⟨e,f0,f1,f2,d⟩
theorem Inv.nF{N8 pl:List (Addr×Obj)}{σ:St}{H:Hp}{s:Shared}(I:Inv X (N8++pl) σ H s):Inv X N8 σ H s:=I.zj λp hp=>I.pin p (List.mem_append_right _ (List.mem_append_left _ hp))
theorem HW{iter:Expr}{body:List Stmt}{wi:TI}{g:TG}{tb:TS}{pos:Pos}(hp:PassesOwn (model X.prog X.w) X.A X.env X.xe)(hc:X.calm=true)(hi:PI X tg iter wi)(hg:PG X tg g)(hb:mH X body tb)
  (hs:∀ x,foldedSetIterable iter X.env x=pure x:=by intro _;rfl):PS X (.For tg iter body [] pos) (Nn wi g tb):=by
 intro N8 s σ H D I h
 refine wpAny_For (cB (hi N8 s σ H _ I h) λv s1 h1=>cB h1 λitv s2 h2=>?_) hs
 obtain⟨it,fp,tn,J,H2,e,I2,T,Rh,f2,W,⟨m0,w0⟩,turn⟩:=h2
 subst e
 have Qp:∀ {H':Hp},(∀ b∈fp,H' b=none)->∀ b∈fp,nG X N8 H' b:=λhn b hb=>⟨hn b hb,(f2 b hb).2⟩
 refine codeAny_forLoop_any (λn s'=>∃ i σ' H',Inv X N8 σ' H' s'/\tn i s'.heap/\(∀ b∈fp,H' b=none)/\W i n σ' H') ?_ m0 ⟨0,σ,H2,I2,Rh,λb hb=>(f2 b hb).1,w0⟩
 rintro n s3 ⟨i,σ3,H3,I3,st3,fr3,w3⟩
 rcases turn i n σ3 H3 w3 with ⟨stop,qn⟩ | ⟨go,N,hN,step⟩
 ·refine wpAny_passesOwn hp (cB (T.done X rfl rfl rfl hc i N8 s3 σ3 H3 X.xe I3 (Qp fr3) st3 stop) λr s4 ⟨hr,I4⟩=>?_)
  subst hr
  exact wpAny_execs_nil ⟨σ3,H3,I4,qn⟩
 ·refine wpAny_passesOwn hp (cB (T.item X rfl rfl rfl hc i N8 s3 σ3 H3 X.xe I3 (Qp fr3) st3 go) λr s4 ⟨u,hr,h4⟩=>?_)
  subst hr
  refine wpAny_passesOwn hp (cB h4 λ_ s5 ⟨x,H5,I5,r5,y5,st5,fr5⟩=>?_)
  have I5':=I5.pinned (Qp fr5) (T.obj _ _ st5)
  refine wpAny_passesOwn hp (cB (hg _ s5 σ3 H5 x u _ I5' r5 (step x H5 y5)) λ_ s6 ⟨σ6,H6,I6,q6⟩=>?_)
  refine wpAny_passesOwn hp (cB (hb _ s6 σ6 H6 _ I6 q6) λf s7 q7=>?_)
  have again:∀ {σ7:St} {H7:Hp},Inv X (N8++og fp s5.heap) σ7 H7 s7->N σ7 H7->∃ m,m<n/\∃ i σ' H',Inv X N8 σ' H' s7/\tn i s7.heap/\(∀ b∈fp,H' b=none)/\W i m σ' H':=λ{σ7 H7} I7 n7=>by
   obtain⟨m',hm,w7⟩:=hN σ7 H7 n7
   refine⟨m',hm,i+1,σ7,H7,I7.nF,T.keep _ _ _ st5 λb hb o e=>(I7.pin (b,o) (List.mem_append_right _ (List.mem_append_right _ (j5 hb e)))).1,λb hb=>?_,w7⟩
   obtain⟨o,e,d⟩:=T.obj _ _ st5 b hb
   exact(I7.pin (b,o) (List.mem_append_right _ (List.mem_append_right _ (j5 hb e)))).2.1
  cases f with
  | next=>obtain⟨σ7,H7,I7,n7⟩:=q7;exact again I7 n7
  | cont=>obtain⟨σ7,H7,I7,n7⟩:=q7;exact again I7 n7
  | brk=>obtain⟨σ7,H7,I7,q7⟩:=q7;exact⟨σ7,H7,I7.nF,q7⟩
  | ret v=>obtain⟨x7,σ7,H7,I7,r7,q7⟩:=q7;exact⟨x7,σ7,H7,I7.nF,r7,q7⟩
end
end L2
namespace L2
open PySem PySem.Spec PyProof.Rows
abbrev R2:=V->V->Hp->VK->Prop
def gK(X:Cx)(f:Value->Value->Sem Value)(r:R2):Prop :=
 ∀ (N8:List (Addr×Obj)) (s:Shared) (σ:St) (H:Hp) (x y:V) (v u:Value) (Q:VK),Inv X N8 σ H s->RelV x v->RelV y u->r x y H Q ->
  wpAny (model X.prog X.w) X.A (f v u) (EP X N8 σ Q) X.xe s
def M0(X:Cx)(f:Value->Sem Value)(r:V->Hp->VK->Prop):Prop :=
 ∀ (N8:List (Addr×Obj)) (s:Shared) (σ:St) (H:Hp) (x:V) (v:Value) (Q:VK),Inv X N8 σ H s->RelV x v->r x H Q ->
  wpAny (model X.prog X.w) X.A (f v) (EP X N8 σ Q) X.xe s
def dC(X:Cx)(f:Value)(r:List V->Hp->VK->Prop):Prop :=
 ∀ (N8:List (Addr×Obj)) (s:Shared) (σ:St) (H:Hp) (xs:List V) (us:List Value) (Q:VK),Inv X N8 σ H s->Vals xs us->r xs H Q ->
  wpAny (model X.prog X.w) X.A (call f us) (EP X N8 σ Q) X.xe s
def K6(r:R2)(ta tb:TE):TE:=fun σ H Q=>ta σ H λx H1=>tb σ H1 λy H2=>r x y H2 Q
def NA(r:V->Hp->VK->Prop)(ta:TE):TE:=fun σ H Q=>ta σ H λx H1=>r x H1 Q
def rI(C:Int->Int->Prop)(g:Int->Int->V):R2:=λx y H Q=>∃ i j,x=.int i/\y=.int j/\C i j/\Q (g i j) H
def ze(g:Int->Int->V):R2:=λx y H Q=>∃ i j,x=.int i/\y=.int j/\Q (g i j) H
def rU(g:Int->V):V->Hp->VK->Prop:=λx H Q=>∃ i,x=.int i/\Q (g i) H
section
variable{X:Cx}{a b c:Expr}{ta tb tc:TE}{pos:Pos}
theorem HN(ha:PE X a ta)(hb:PE X b tb){N8:List (Addr×Obj)}{s:Shared}{σ:St}{H:Hp}{R:V->V->Hp->Prop}(I:Inv X N8 σ H s)
  (h:ta σ H λx H1=>tb σ H1 λy H2=>R x y H2) {Q:Value->Shared->Prop} {f:Value->Value->Sem Value}
  (hf:∀ v u s2 x y H2,Inv X N8 σ H2 s2->RelV x v->RelV y u->R x y H2->wpAny (model X.prog X.w) X.A (f v u) Q X.xe s2) :
  wpAny (model X.prog X.w) X.A (eval a X.env) (λv s₁=>wpAny (model X.prog X.w) X.A (eval b X.env) (λu s₂=>wpAny (model X.prog X.w) X.A (f v u) Q X.xe s₂) X.xe s₁) X.xe s:=by
 refine cB (ha N8 s σ H _ I h) λv s1 ⟨x,H1,I1,r1,q1⟩=>?_
 refine cB (hb N8 s1 σ H1 _ I1 q1) λu s2 ⟨y,H2,I2,r2,q2⟩=>?_
 exact hf v u s2 x y H2 I2 r1 r2 q2
theorem GB{op:Operator}{r:R2}(ho:gK X (binaryOp op) r)(ha:PE X a ta)(hb:PE X b tb):PE X (.BinOp a op b pos) (K6 r ta tb):=by
 intro N8 s σ H Q I h
 exact wpAny_BinOp (HN ha hb I h λv u s2 x y H2 I2 rx ry q=>ho N8 s2 σ H2 x y v u Q I2 rx ry q)
theorem J2{op:UnaryOp}{r:V->Hp->VK->Prop}(ho:M0 X (unaryOp op) r)(ha:PE X a ta):PE X (.UnaryOp op a pos) (NA r ta):=by
 intro N8 s σ H Q I h
 exact UnaryOp_ (cB (ha N8 s σ H _ I h) λv s1 ⟨x,H1,I1,r1,q1⟩=>ho N8 s1 σ H1 x v Q I1 r1 q1)
theorem LG{f:Value->Value->Sem Value}{C:Int->Int->Prop}{g:Int->Int->Int}
  (rule:∀ (i j:Int) (t u:Tok) (s:Shared) (Q:Value->Shared->Prop) (E:Value->Shared->Prop),C i j->Q (.int (g i j) s.toks) { s with toks:=s.toks+1 }->wpAny (model X.prog X.w) X.A (f (.int i t) (.int j u)) Q E s) :
  gK X f (rI C λi j=>.int (g i j)):=by
 intro N8 s σ H x y v u Q I rx ry h
 obtain⟨i,j,rfl,rfl,hc,q⟩:=h
 obtain⟨t,rfl⟩:=rx
 obtain⟨t',rfl⟩:=ry
 exact rule i j t t' s _ _ hc ⟨.int (g i j),H,I.tok _,⟨_,rfl⟩,q⟩
theorem LC{f:Value->Value->Sem Value}{g:Int->Int->Int}
  (rule:∀ (i j:Int) (t u:Tok) (s:Shared) (Q:Value->Shared->Prop) (E:Value->Shared->Prop),Q (.int (g i j) s.toks) { s with toks:=s.toks+1 }->wpAny (model X.prog X.w) X.A (f (.int i t) (.int j u)) Q E s) :
  gK X f (ze λi j=>.int (g i j)):=by
 intro N8 s σ H x y v u Q I rx ry h
 obtain⟨i,j,rfl,rfl,q⟩:=h
 obtain⟨t,rfl⟩:=rx
 obtain⟨t',rfl⟩:=ry
 exact rule i j t t' s _ _ ⟨.int (g i j),H,I.tok _,⟨_,rfl⟩,q⟩
theorem F7{f:Value->Value->Sem Value}{g:Int->Int->Bool}
  (rule:∀ (i j:Int) (t u:Tok) (s:Shared) (Q:Value->Shared->Prop) (E:Value->Shared->Prop),Q (.bool (g i j)) s->wpAny (model X.prog X.w) X.A (f (.int i t) (.int j u)) Q E s) :
  gK X f (ze λi j=>.bl (g i j)):=by
 intro N8 s σ H x y v u Q I rx ry h
 obtain⟨i,j,rfl,rfl,q⟩:=h
 obtain⟨t,rfl⟩:=rx
 obtain⟨t',rfl⟩:=ry
 exact rule i j t t' s _ _ ⟨.bl (g i j),H,I,rfl,q⟩
def Jh(i j:Int):Prop:=0<=j/\j<=1000000/\i.natAbs<2^64
theorem HK:gK X (binaryOp .Add) (ze λi j=>.int (i+j)):=LC λ_ _ _ _ _ _ _ q=>add_int q
theorem Ic:gK X (binaryOp .Sub) (ze λi j=>.int (i-j)):=LC λ_ _ _ _ _ _ _ q=>sub_int q
theorem Fs:gK X (binaryOp .Mod) (rI (λ_ j=>j≠0) λi j=>.int (i.fmod j)):=LG λ_ _ _ _ _ _ _ hc q=>mod_int' hc q
theorem HC:gK X (binaryOp .Pow) (rI Jh λi j=>.int (i^j.toNat)):=LG λ_ _ _ _ _ _ _ hc q=>pow_int_small hc.1 hc.2.1 hc.2.2 q
theorem NU{f:Value->Sem Value}{g:Int->Int}
  (rule:∀ (i:Int) (t:Tok) (s:Shared) (Q:Value->Shared->Prop) (E:Value->Shared->Prop),Q (.int (g i) s.toks) { s with toks:=s.toks+1 }->wpAny (model X.prog X.w) X.A (f (.int i t)) Q E s) :
  M0 X f (rU λi=>.int (g i)):=by
 intro N8 s σ H x v Q I rx h
 obtain⟨i,rfl,q⟩:=h
 obtain⟨t,rfl⟩:=rx
 exact rule i t s _ _ ⟨.int (g i),H,I.tok _,⟨_,rfl⟩,q⟩
theorem He:M0 X (unaryOp .USub) (rU λi=>.int (-i)):=NU λ_ _ _ _ _ q=>neg_int q
end
section
variable{X:Cx}{a b c:Expr}{ta tb tc:TE}{pos:Pos}
theorem oE{N8:List (Addr×Obj)}{σ:St}{H:Hp}{s:Shared}{Q:VK}{k k':Bool}(I:Inv X N8 σ H s)(q:Q (.bl k) H)(e:k=k'):EP X N8 σ Q (.bool k') s:=by
 subst e
 exact⟨.bl k,H,I,rfl,q⟩
theorem zQ:gK X (compareOp .Lt) (ze λi j=>.bl (decide (i<j))):=F7 λ_ _ _ _ _ _ _ q=>lt_int q
theorem tR:gK X (compareOp .LtE) (ze λi j=>.bl (decide (i<=j))):=F7 λ_ _ _ _ _ _ _ q=>le_int q
theorem GJ:gK X (compareOp .Gt) (ze λi j=>.bl (decide (j<i))):=F7 λ_ _ _ _ _ _ _ q=>gt_int q
theorem Gy:gK X (compareOp .GtE) (ze λi j=>.bl (decide (j<=i))):=F7 λ_ _ _ _ _ _ _ q=>ge_int q
theorem DO:gK X (compareOp .Is) (λx y H Q=>y=.b_/\Q (.bl (decide (x=.b_))) H):=by
 intro N8 s σ H x y v u Q I rx ry h
 obtain⟨rfl,q⟩:=h
 cases ry
 refine is_none_gen (oE I q ?_)
 cases x <;> first
  | (cases rx;rfl)
  | (obtain⟨t,rfl⟩:=rx;rfl)
theorem zq:gK X (compareOp .IsNot) (λx y H Q=>y=.b_/\Q (.bl (!decide (x=.b_))) H):=by
 intro N8 s σ H x y v u Q I rx ry h
 obtain⟨rfl,q⟩:=h
 cases ry
 refine isnot_none_gen (oE I q ?_)
 cases x <;> first
  | (cases rx;rfl)
  | (obtain⟨t,rfl⟩:=rx;rfl)
theorem gK.or{f:Value->Value->Sem Value}{r r':R2}(h:gK X f r)(h':gK X f r'):gK X f (λx y H Q=>r x y H Q\/r' x y H Q):=by
 intro N8 s σ H x y v u Q I rx ry q
 rcases q with q | q
 ·exact h N8 s σ H x y v u Q I rx ry q
 ·exact h' N8 s σ H x y v u Q I rx ry q
theorem bV(b:Expr){op:CmpOp}(h:op≠.In:=by decide)(h2:op≠.NotIn:=by decide):behindInMarks op b=false:=by
 have e1:(op==CmpOp.In)=false:=by cases op <;> first | rfl | exact absurd rfl h
 have e2:(op==CmpOp.NotIn)=false:=by cases op <;> first | rfl | exact absurd rfl h2
 cases b <;> simp[behindInMarks,e1,e2]
theorem EA{op:CmpOp}{r:R2}(ho:gK X (compareOp op) r)(ha:PE X a ta)(hb:PE X b tb)(hm:behindInMarks op b=false):PE X (.Compare a [op] [b] pos) (K6 r ta tb):=by
 intro N8 s σ H Q I h
 exact wpAny_Compare1 (HN ha hb I h λv u s2 x y H2 I2 rx ry q=>ho N8 s2 σ H2 x y v u Q I2 rx ry q) hm
def GV(t:TE):TT:=fun σ H Q=>t σ H λx H'=>∃ k,x=.bl k/\Q k H'
theorem EG{op:CmpOp}{r:R2}(ho:gK X (compareOp op) r)(ha:PE X a ta)(hb:PE X b tb)(hm:behindInMarks op b=false):PT X (.Compare a [op] [b] pos) (GV (K6 r ta tb)):=by
 intro N8 s σ H Q I h
 refine wpAny_isTrue_Compare1 (cB (ha N8 s σ H _ I h) λv s1 ⟨x,H1,I1,r1,q1⟩=>cB (hb N8 s1 σ H1 _ I1 q1) λu s2 ⟨y,H2,I2,r2,q2⟩ =>
  cB (ho N8 s2 σ H2 x y v u _ I2 r1 r2 q2) λc s3 ⟨z,H3,I3,r3,k,e,q3⟩=>?_) hm
 subst e
 cases r3
 exact wpAny_truthy_bool ⟨H3,I3,q3⟩
def yk(r r':R2)(ta tb tc:TE):TE:=fun σ H Q=>ta σ H λx H1=>tb σ H1 λy H2=>r x y H2 λz H3=>∃ k,z=.bl k ∧
 (if k=true then tc σ H3 λw' H4=>r' y w' H4 Q else Q (.bl false) H3)
theorem DX{op Qn:CmpOp}{r r':R2}(ho:gK X (compareOp op) r)(Qb:gK X (compareOp Qn) r')(ha:PE X a ta)(hb:PE X b tb)(hc:PE X c tc)
  (hm:lastMarks [op,Qn] [b,c]=false:=by with_unfolding_all rfl):PE X (.Compare a [op,Qn] [b,c] pos) (yk r r' ta tb tc):=by
 intro N8 s σ H Q I h
 refine Compare_chain (cB (ha N8 s σ H _ I h) λv s1 ⟨x,H1,I1,r1,q1⟩=>chain_link (cB (hb N8 s1 σ H1 _ I1 q1) λu s2 ⟨y,H2,I2,r2,q2⟩ =>
  cB (ho N8 s2 σ H2 x y v u _ I2 r1 r2 q2) λd s3 ⟨z,H3,I3,r3,k,e,q3⟩=>?_)) hm
 subst e
 cases r3
 refine wpAny_truthy_bool ?_
 cases k with
 | false=>exact ite_ff ⟨.bl false,H3,I3,rfl,q3⟩
 | true=>exact ite_tt (chain_last (cB (hc N8 s3 σ H3 _ I3 q3) λw' s4 ⟨z',H4,I4,r4,q4⟩=>Qb N8 s4 σ H4 y z' u w' Q I4 r2 r4 q4))
theorem BX{op Qn:CmpOp}{r r':R2}(ho:gK X (compareOp op) r)(Qb:gK X (compareOp Qn) r')(ha:PE X a ta)(hb:PE X b tb)(hc:PE X c tc)
  (hm:lastMarks [op,Qn] [b,c]=false:=by with_unfolding_all rfl):PT X (.Compare a [op,Qn] [b,c] pos) (GV (yk r r' ta tb tc)):=by
 intro N8 s σ H Q I h
 refine isTrue_chain (cB (ha N8 s σ H _ I h) λv s1 ⟨x,H1,I1,r1,q1⟩=>test_link (cB (hb N8 s1 σ H1 _ I1 q1) λu s2 ⟨y,H2,I2,r2,q2⟩ =>
  cB (ho N8 s2 σ H2 x y v u _ I2 r1 r2 q2) λd s3 ⟨z,H3,I3,r3,k,e,q3⟩=>?_)) hm
 subst e
 cases r3
 refine wpAny_truthy_bool ?_
 cases k with
 | false =>
  obtain⟨k',e',q'⟩:=q3
  cases e'
  exact ite_ff ⟨H3,I3,q'⟩
 | true =>
  refine ite_tt (test_last (cB (hc N8 s3 σ H3 _ I3 q3) λw' s4 ⟨z',H4,I4,r4,q4⟩=>cB (Qb N8 s4 σ H4 y z' u w' _ I4 r2 r4 q4) λd' s5 ⟨z2,H5,I5,r5,k2,e2,q5⟩=>?_))
  subst e2
  cases r5
  exact wpAny_truthy_bool ⟨H5,I5,q5⟩
theorem oz:(sizeLine:Nat)<2^63:=by rw[sizeLine_eq];decide
theorem yQ:gK X (binaryOp .Add) (λx y H Q=>∃ i j,x=.str i/\y=.str j/\i.length+j.length<=sizeLine/\Q (.str (i++j)) H):=by
 intro N8 s σ H x y v u Q I rx ry h
 obtain⟨i,j,rfl,rfl,hz,q⟩:=h
 obtain⟨t,rfl⟩:=rx
 obtain⟨t',rfl⟩:=ry
 exact add_str (λt' tk=>⟨.str (i++j),H,I.tok _,⟨_,rfl⟩,q⟩) hz
theorem vals1{x:V}{us:List Value}(r:Vals [x] us):∃ u,us=[u]/\RelV x u:=by
 cases r with
 | cons r1 r2=>cases r2;exact⟨_,rfl,r1⟩
theorem vals2{x y:V}{us:List Value}(r:Vals [x,y] us):∃ u w',us=[u,w']/\RelV x u/\RelV y w':=by
 cases r with
 | cons r1 r2 =>
  cases r2 with
  | cons r3 r4=>cases r4;exact⟨_,_,rfl,r1,r3⟩
theorem AB(hc:X.calm=true):dC X (.builtin "max") (λxs H Q=>∃ i j,xs=[.int i,.int j]/\Q (.int (if j>i then j else i)) H):=by
 intro N8 s σ H xs us Q I r h
 obtain⟨i,j,rfl,q⟩:=h
 obtain⟨u,w',rfl,⟨t,rfl⟩,⟨t',rfl⟩⟩:=vals2 r
 refine max_two_ints (I.ok.hd hc) λh' tk k=>⟨_,H,I.kept k,?_,q⟩
 by_cases hj:j>i
 ·rw[if_pos hj,if_pos hj];exact⟨_,rfl⟩
 ·rw[if_neg hj,if_neg hj];exact⟨_,rfl⟩
end
end L2
namespace L2
open PySem PySem.Spec PyProof.Rows
structure yT (h:Heap) (x dx C:Addr) (mA:Str->Option Value):Prop where
 obj:h.get? x=some (PySem.W.instObj C dx)
 ns:h.Ns1 dx mA
 ne:dx≠x
theorem oh{h:Heap}{dx:Addr}{mA:Str->Option Value}(n:h.Ns1 dx mA):∃ od,h.get? dx=some od/\∀ name,PySem.W.lookIn name od=some (mA name):=by
 obtain⟨o,es,ep,ho,hd,hk,_,hm⟩:=n
 refine⟨o,ho,λname=>?_⟩
 have e:=hm name
 unfold nsFind findBy at e
 rw[← Array.find?_toList] at e
 unfold PySem.W.lookIn
 rw[hd]
 dsimp only
 split
 ·rename_i y q
  rw[q] at e
  exact congrArg some e
 ·rename_i q
  rw[q] at e
  have a:es.toList.any (·.refKey)=false:=by
   rw[List.any_eq_false]
   intro y hy
   obtain⟨z,t,hkey⟩:=hk y (Array.mem_toList_iff.mp hy)
   simp[DictEntry.refKey,hkey]
  have a':¬ es.toList.any (·.refKey)=true:=by rw[a];exact Bool.false_ne_true
  rw[if_neg a']
  exact congrArg some e
theorem yT.look{h:Heap}{x dx C:Addr}{mA:Str->Option Value}(I:yT h x dx C mA):∃ od,PySem.W.InstAt h x (PySem.W.instObj C dx) C (some od)/\∀ name,PySem.W.lookIn name od=some (mA name) :=
 let ⟨od,ho,hl⟩:=oh I.ns
 ⟨od,⟨I.obj,rfl,rfl,ho⟩,hl⟩
section
variable{prog:Program}{w:World}{A:Around}{E:Value->Shared->Prop}{s:Shared}{K:PySem.W.Frag}{x dx C f:Addr}{mA:Str->Option Value}{name:Str}{v:Value}
theorem get_map{expr:Bool}{Q:Value->Shared->Prop}(X:K.In s.heap)(I:yT s.heap x dx C mA)(hg:PySem.W.plainGet K C name=true)(hh:PySem.W.hasDictIn K C=true)
  (ha:PySem.W.findIn K (.ref C) name=some none) (hv:mA name=some v) (Rf:PySem.W.handedIn v=true) (h:Q v { s with toks:=s.toks+1 }) :
  wpAny (model prog w) A (getAttr (.ref x) name expr) Q E s:=by
 obtain⟨od,J,hl⟩:=I.look
 exact PySem.W.get_value X J (PySem.W.plainGet_of hg).1 (PySem.W.findObj_own hh ha rfl (by rw[hl,hv])) Rf h
theorem Ci{pl:Sem Bool}{Q:Value×List Value->Shared->Prop}(X:K.In s.heap)(I:yT s.heap x dx C mA)(hg:PySem.W.plainGet K C name=true)
  (hf:PySem.W.findIn K (.ref C) name=some (some (.ref f))) (ht:PySem.W.isFn K (.ref f)=true) (hv:mA name=none) (h:Q (.ref f,[.ref x]) s) :
  wpAny (model prog w) A (getMethod (.ref x) name pl) Q E s:=by
 obtain⟨od,J,hl⟩:=I.look
 exact PySem.W.method_fn X J (PySem.W.plainGet_of hg).1 (PySem.W.plainGet_of hg).2 hf (beq_iff_eq.mp ht) (by show (PySem.W.lookIn name od).map (·.isSome)=some false;rw[hl,hv];rfl) h
theorem Fi{ns:List Str}{Q:Unit->Shared->Prop}(X:K.In s.heap)(I:yT s.heap x dx C mA)
  (hs:PySem.W.findIn K (.ref C) "__setattr__" = some (some (.builtin "object.__setattr__"))) (hp:PySem.W.plainOver K C=true) (ht:PySem.W.takerIn K C name=some none) (hh:PySem.W.hasDictIn K C=true)
  (hw:PySem.Within mA ns) (PX:ns.length<=sizeLine)
  (h:∀ h',yT h' x dx C (λy=>if y=name then some v else mA y)->Heap.SameBut dx s.heap h'->Q () { s with heap:=h',toks:=s.toks+2 }) :
  wpAny (model prog w) A (setAttr (.ref x) name v) Q E s:=by
 obtain⟨od,J,hl⟩:=I.look
 refine PySem.W.set_plain X J hs (PySem.W.osa_open (s:={ s with toks:=s.toks+1 }) (r:=none) X J hp ht λb=>?_)
 obtain⟨cd,hc,RI⟩:=PySem.W.any_some hh
 have hx:s.heap.get? x=some ⟨.ref C,some dx,.plain,#[]⟩:=I.obj
 refine wpAny_bind (wpAny_pure (wpAny_bind (wpAny_bind (wpAny_loadPart hx (wpAny_bind (PySem.W.Looks.here (s:={ s with toks:=s.toks+1 }) (PySem.W.looks_clsIn X hc) ?_))))))
 rw[RI]
 refine wpAny_pure (a:=some dx) (wpAny_bind (wpAny_pure (wpAny_bind ?_)))
 refine wpAny_nsSet1 (s:={ s with toks:=s.toks+1 }) I.ns λh' Q5 PK=>?_
 obtain⟨oD,esD,epD,hoD,hdD,QG⟩:=Q5.count (PySem.Within.cons name v hw)
 refine wpAny_bind (wpAny_lookBehind hoD (by rw[hdD];exact pastItsLine_dict (Nat.le_trans QG (by rw[List.length_cons];omega))) ?_)
 exact wpAny_pure (h _ ⟨(PK.2 _ (Ne.symm I.ne)).trans I.obj,Q5,I.ne⟩ PK)
theorem DC{R:Result->Shared->Prop}{vs:List Value}{kw:List (Str×Value)}(X:K.In s.heap)(hm:PySem.W.makesIn K C=true)
  (hi:PySem.W.findIn K (.ref C) "__init__" = some (some (.ref f))) (hf:PySem.W.typeIn K (.ref f)=some (.type "function"))
  (h:codeAny (model prog w) (A.under (.builtin "type.__call__" ⟨.ref C::vs,kw⟩)) (.call (.ref f) ⟨.ref (s.heap.objs.size+1)::vs,kw⟩) (PySem.W.InitBack (s.heap.objs.size+1) R)
   { s with heap:=(s.heap.push PySem.W.emptyDict).push (PySem.W.instObj C s.heap.objs.size) }) :
  codeAny (model prog w) A (.call (.ref C) ⟨vs,kw⟩) R s:=by
 obtain⟨hh,g,d,t,os⟩:=s
 exact PySem.W.make_core (PySem.W.makes_of X hm) (PySem.W.looks_findIn X hi) (λself=>PySem.W.bind_fn X self hf) (.inl rfl) h
end
def kG(f:Str)(v:V):List (Str×V)->List (Str×V)
 | []=>[(f,v)]
 | (g,x)::r=>if g=f then (g,v)::r else (g,x)::kG f v r
theorem ph(f g:Str)(v:V):∀ fs:List (Str×V),(kG f v fs).lookup g=if g=f then some v else fs.lookup g
 | []=>by
  show List.lookup g [(f,v)]=_
  by_cases h:g=f
  ·have hb:(g==f)=true:=beq_iff_eq.mpr h
   simp only[List.lookup,hb,if_pos h]
  ·have hb:(g==f)=false:=beq_eq_false_iff_ne.mpr h
   simp only[List.lookup,hb,if_neg h]
 | (k,x)::r=>by
  have ih:=ph f g v r
  rw[show kG f v ((k,x)::r)=(if k=f then (k,v)::r else (k,x)::kG f v r) from rfl]
  by_cases hk:k=f
  ·rw[if_pos hk]
   by_cases h:g=k
   ·have hb:(g==k)=true:=beq_iff_eq.mpr h
    simp only[List.lookup,hb,if_pos (h.trans hk)]
   ·have hb:(g==k)=false:=beq_eq_false_iff_ne.mpr h
    simp only[List.lookup,hb,if_neg (λe:g=f=>h (e.trans hk.symm))]
  ·rw[if_neg hk]
   by_cases h:g=k
   ·have hb:(g==k)=true:=beq_iff_eq.mpr h
    simp only[List.lookup,hb,if_neg (λe:g=f=>hk (h.symm.trans e))]
   ·have hb:(g==k)=false:=beq_eq_false_iff_ne.mpr h
    simp only[List.lookup,hb]
    exact ih
theorem oC(f:Str)(v:V):∀ fs:List (Str×V),f∈(kG f v fs).map (·.1)/\∀ g,g∈fs.map (·.1)->g∈(kG f v fs).map (·.1)
 | []=>⟨by simp[kG],λg h=>by simp at h⟩
 | (k,x)::r=>by
  obtain⟨i1,i2⟩:=oC f v r
  rw[show kG f v ((k,x)::r)=(if k=f then (k,v)::r else (k,x)::kG f v r) from rfl]
  by_cases hk:k=f
  ·rw[if_pos hk]
   subst hk
   exact⟨by simp,λg h=>by simpa using h⟩
  ·rw[if_neg hk]
   refine⟨?_,λg h=>?_⟩
   ·rw[List.map_cons]
    exact List.mem_cons_of_mem _ i1
   ·rw[List.map_cons] at h ⊢
    rcases List.mem_cons.mp h with e | e
    ·exact List.mem_cons.mpr (.inl e)
    ·exact List.mem_cons_of_mem _ (i2 g e)
theorem oY(f:Str)(v:V):∀ fs:List (Str×V),(kG f v fs).length<=fs.length+1
 | []=>by simp[kG]
 | (k,x)::r=>by
  have ih:=oY f v r
  rw[show kG f v ((k,x)::r)=(if k=f then (k,v)::r else (k,x)::kG f v r) from rfl]
  by_cases hk:k=f
  ·rw[if_pos hk,List.length_cons,List.length_cons];omega
  ·rw[if_neg hk,List.length_cons,List.length_cons];omega
theorem oF.some_of{v:V}{o:Option Value}(r:oF (some v) o):∃ u,o=some u/\RelV v u:=by
 cases o with
 | none=>exact(show False from r).elim
 | some u=>exact⟨u,rfl,r⟩
theorem oF.none_of{o:Option Value}(r:oF none o):o=none:=by
 cases o with
 | none=>rfl
 | some u=>exact(show False from r).elim
theorem Ap{v:V}{u:Value}(r:RelV v u):PySem.W.handedIn u=true:=by
 cases v with
 | b_=>cases (show u=Value.none from r);rfl
 | bl b=>cases (show u=Value.bool b from r);rfl
 | int i=>obtain⟨t,e⟩:=(show ∃ t,u=Value.int i t from r);cases e;rfl
 | str x=>obtain⟨t,e⟩:=(show ∃ t,u=Value.str x t from r);cases e;rfl
 | byt b=>obtain⟨t,e⟩:=(show ∃ t,u=Value.bytes b t from r);cases e;rfl
 | Gk b=>obtain⟨t,e⟩:=(show ∃ t,u=Value.float b t from r);cases e;rfl
 | ref a=>cases (show u=Value.ref a from r);rfl
 | ty n=>cases (show u=Value.type n from r);rfl
section
variable{P:Program}{w:World}{H H':Hp}{h h':Heap}{a C dx:Addr}{fs Q9:List (Str×V)}
theorem nu(bC:oy P w H h)(e:H a=some (.ins C dx fs)):∃ mA,yT h a dx C mA/\(∀ f,oF (fs.lookup f) (mA f))/\PySem.Within mA (fs.map (·.1))/\fs.length<=1000/\H dx=some (.own a):=by
 obtain⟨d,z,ne,ob,mA,n,r,q⟩:=(show cp P w H h a (.ins C dx fs) from bC a _ e)
 exact⟨mA,⟨ob,n,ne⟩,r,q,z,d⟩
end
structure lq (K:PySem.W.Frag) (C:Addr):Prop where
 pg:PySem.W.plainGet K C Str.empty=true
 hd:PySem.W.hasDictIn K C=true
 po:PySem.W.plainOver K C=true
 sa:PySem.W.findIn K (.ref C) "__setattr__" = some (some (.builtin "object.__setattr__"))
theorem lq.get{K:PySem.W.Frag}{C:Addr}(c:lq K C)(f:Str):PySem.W.plainGet K C f=true:=c.pg
def bF(K:PySem.W.Frag)(C:Addr)(f:Str):Prop:=PySem.W.findIn K (.ref C) f=some none
theorem bF.GK{K:PySem.W.Frag}{C:Addr}{f:Str}(n:bF K C f):PySem.W.takerIn K C f=some none:=by
 unfold PySem.W.takerIn
 rw[show PySem.W.findIn K (.ref C) f=some none from n]
 rfl
structure Meth (K:PySem.W.Frag) (C:Addr) (m:Str) (f:Addr):Prop where
 at_:PySem.W.findIn K (.ref C) m=some (some (.ref f))
 fn:PySem.W.isFn K (.ref f)=true
 kp:PySem.W.keepIn K (.ref f)=true
section
variable{X:Cx}{N8:List (Addr×Obj)}{σ:St}{H:Hp}{s:Shared}{a C dx:Addr}{fs:List (Str×V)}{f:Str}{v:V}{A:Around}{E:Value->Shared->Prop}
theorem yP{b:Bool}{Q:Value->Shared->Prop}(I:Inv X N8 σ H s)(e:H a=some (.ins C dx fs))(c:lq X.K C)(n:bF X.K C f)(l:fs.lookup f=some v)
  (h:∀ u s',Inv X N8 σ H s'->RelV v u->Q u s'):wpAny (model X.prog X.w) A (getAttr (.ref a) f b) Q E s:=by
 obtain⟨mA,O,r,_,_,_⟩:=nu I.bC e
 obtain⟨u,hu,ru⟩:=oF.some_of (v:=v) (o:=mA f) (by rw[← l];exact r f)
 exact get_map I.jZ O (c.get f) c.hd n hu (Ap ru) (h u _ (I.tok _) ru)
theorem j9{m:Str}{g:Addr}{pl:Sem Bool}{Q:Value×List Value->Shared->Prop}(I:Inv X N8 σ H s)(e:H a=some (.ins C dx fs))(c:lq X.K C)(k:Meth X.K C m g)(l:fs.lookup m=none)
  (h:Q (.ref g,[.ref a]) s):wpAny (model X.prog X.w) A (getMethod (.ref a) m pl) Q E s:=by
 obtain⟨mA,O,r,_,_,_⟩:=nu I.bC e
 have hn:mA m=none:=oF.none_of (by rw[← l];exact r m)
 exact Ci I.jZ O (c.get m) k.at_ k.fn hn h
theorem yg{y:V}{u:Value}{Q:Unit->Shared->Prop}(I:Inv X N8 σ H s)(e:H a=some (.ins C dx fs))(c:lq X.K C)(n:bF X.K C f)(hl:fs.length<1000)(ry:RelV y u)
  (h:∀ s',Inv X N8 σ (upd H a (.ins C dx (kG f y fs))) s'->Q () s'):wpAny (model X.prog X.w) A (setAttr (.ref a) f u) Q E s:=by
 obtain⟨mA,O,r,wi,_,ho⟩:=nu I.bC e
 have hz:(fs.map (·.1)).length<=sizeLine:=by rw[List.length_map,sizeLine_eq];omega
 refine Fi I.jZ O c.sa c.po n.GK c.hd wi hz λh' O' sb=>h _ ?_
 have hd:∃ o,h'.get? dx=some o:=let ⟨o,_,_,e',_⟩:=O'.ns;⟨o,e'⟩
 refine I.write (x:=a) (e:=dx) (by rw[e];exact True.intro) (.inr ho) (λb q hb z=>(sb.2 b hb).trans z) hd ?_
 refine⟨by rw[ax O.ne];exact ho,?_,O.ne,O'.obj,_,O'.ns,λg=>?_,λg hg=>?_⟩
 ·have:=oY f y fs;omega
 ·show oF ((kG f y fs).lookup g) (if g=f then some u else mA g)
  rw[ph]
  by_cases q:g=f
  ·rw[if_pos q,if_pos q];exact ry
  ·rw[if_neg q,if_neg q];exact r g
 ·by_cases q:g=f
  ·rw[q];exact(oC f y fs).1
  ·refine(oC f y fs).2 g (wi g λz=>hg ?_)
   show (if g=f then some u else mA g)=none
   rw[if_neg q];exact z
theorem Inv.made(I:Inv X N8 σ H s):Inv X N8 σ (upd (upd H s.heap.objs.size (.own (s.heap.objs.size+1))) (s.heap.objs.size+1) (.ins C s.heap.objs.size []))
  { s with heap:=(s.heap.push PySem.W.emptyDict).push (PySem.W.instObj C s.heap.objs.size) }:=by
 have e1:(s.heap.push PySem.W.emptyDict).get? s.heap.objs.size=some PySem.W.emptyDict:=Heap.get?_push_size s.heap rfl
 have e2:((s.heap.push PySem.W.emptyDict).push (PySem.W.instObj C s.heap.objs.size)).get? (s.heap.objs.size+1)=some (PySem.W.instObj C s.heap.objs.size):=by
  have:=Heap.get?_push_size (s.heap.push PySem.W.emptyDict) (o:=PySem.W.instObj C s.heap.objs.size) rfl
  rwa [Heap.size_push] at this
 have e3:(s.heap.push PySem.W.emptyDict).Ns s.heap.objs.size (λ_=>none):=⟨PySem.W.emptyDict,#[],_,e1,rfl,(λe he=>absurd he (by simp)),λ_=>rfl⟩
 have I1:=I.laid (a:=s.heap.objs.size) (o:=.own (s.heap.objs.size+1)) (h':=s.heap.push PySem.W.emptyDict) (t':=s.toks) (λb u q=>Heap.get?_push_of_some _ q) (Nat.le_refl _) ⟨_,e1⟩
 refine I1.laid (a:=s.heap.objs.size+1) (o:=.ins C s.heap.objs.size []) (t':=s.toks) (λb u q=>Heap.get?_push_of_some _ q) (Nat.le_of_eq (Heap.size_push _ _)) ?_
 have ne:s.heap.objs.size≠s.heap.objs.size+1:=Nat.ne_of_lt (Nat.lt_succ_self _)
 refine⟨by rw[ax ne,aE],Nat.zero_le _,ne,e2,λ_=>none,(Heap.Ns1.of_empty e3).at λo q=>Heap.get?_push_of_some _ q,λ_=>True.intro,λy hy=>absurd rfl hy⟩
theorem Fg{prog:Program}{w:World}{env:Env}{e:Expr}{f:Str}{pos:Pos}{s:Shared}{Q:Value->Shared->Prop}(hb:attributeBase e f env (eval e env)=eval e env)
  (h:wpAny (model prog w) A (eval e env) (λo s₁=>wpAny (model prog w) A (getAttr o f true) Q E s₁) E s):wpAny (model prog w) A (eval (.Attribute e f pos) env) Q E s :=
 Attribute_any_ h (by rw[arm_eval_Attribute,hb])
end
def MJ(K:PySem.W.Frag)(ta:TE)(f:Str):TE:=fun σ H Q=>ta σ H λx H1=>∃ a C dx fs v,x=.ref a/\H1 a=some (.ins C dx fs)/\lq K C/\bF K C f/\fs.lookup f=some v/\Q v H1
def LW(K:PySem.W.Frag)(ta tv:TE)(f:Str):TS:=λD σ H=>tv σ H λy H1=>ta σ H1 λx H2=>∃ a C dx fs,x=.ref a/\H2 a=some (.ins C dx fs)/\lq K C/\bF K C f/\fs.length<1000 ∧
 D.nx σ (upd H2 a (.ins C dx (kG f y fs)))
section
variable{X:Cx}{o e value:Expr}{f:Str}{pos pos' tpos:Pos}{ta tv:TE}
theorem Jw(he:PE X e ta)(hb:attributeBase e f X.env (eval e X.env)=eval e X.env):PE X (.Attribute e f pos) (MJ X.K ta f):=by
 intro N8 s σ H Q I h
 refine Fg hb (cB (he N8 s σ H _ I h) λu s1 ⟨x,H1,I1,rx,a,C,dx,fs,v,ex,ea,c,n,l,q⟩=>?_)
 subst ex
 obtain rfl:u=Value.ref a:=rx
 exact yP I1 ea c n l λu' s2 I2 ru=>⟨v,H1,I2,ru,q⟩
theorem G5(ha:PE X o ta)(hv:PE X value tv)(hs:swapsWith value (some (.Attribute o f pos')) pos.line X.env=pure false):PS X (.Assign [.Attribute o f pos'] value pos) (LW X.K ta tv f):=by
 intro N8 s σ H D I h
 refine plainObj_wpAny_Assign_Attribute (cB (hv N8 s σ H _ I h) λu s1 ⟨y,H1,I1,ry,q⟩=>cB (ha N8 s1 σ H1 _ I1 q) λov s2 ⟨x,H2,I2,rx,a,C,dx,fs,ex,ea,c,n,l,q2⟩=>?_) hs
 subst ex
 obtain rfl:ov=Value.ref a:=rx
 exact yg I2 ea c n l ry λs3 I3=>⟨σ,_,I3,q2⟩
end
section
variable{X:Cx}{N8:List (Addr×Obj)}{σ:St}{H:Hp}{s:Shared}{A:Around}{E:Value->Shared->Prop}{Q:Value->Shared->Prop}{c:Value}{b:Bool}
inductive kC (K:PySem.W.Frag) (H:Hp):V->Value->Prop where
 | b_:kC K H .b_ (.type "NoneType")
 | bl (x:Bool):kC K H (.bl x) (.type "bool")
 | int (i:Int):kC K H (.int i) (.type "int")
 | str (x:Str):kC K H (.str x) (.type "str")
 | Gk (x:UInt64):kC K H (.Gk x) (.type "float")
 | lst {a:Addr} {xs:List V} (e:H a=some (.lst xs)):kC K H (.ref a) (.type "list")
 | sE {a:Addr} {o:Obj} {xs:List V} (e:H a=some (.sE o (.lst xs))):kC K H (.ref a) (.type "list")
 | tup {a:Addr} {xs:List V} (e:H a=some (.tup xs)):kC K H (.ref a) (.type "tuple")
 | dK {a:Addr} {O_:List (Key×V)} (e:H a=some (.dK O_)):kC K H (.ref a) (.type "dict")
 | dT {a:Addr} {O_:List (List Key×V)} (e:H a=some (.dT O_)):kC K H (.ref a) (.type "dict")
 | ins {a C dx:Addr} {fs:List (Str×V)} (e:H a=some (.ins C dx fs)) (cl:lq K C) (ha:PySem.W.findIn K (.ref C) "__class__" = some (some (.builtin "object.__class__")))
   (hn:PySem.W.specialIn K (.builtin "object.__class__") "__get__" = some (some (.builtin "getset_descriptor.__get__"))) (JR:PySem.W.takesIn K (.builtin "object.__class__")=some true)
   (hm:PySem.W.mroIn K C (.type "object")=some true):kC K H (.ref a) (.ref C)
theorem tV{x:V}{u t:Value}(I:Inv X N8 σ H s)(rx:RelV x u)(ty:kC X.K H x t)(e:PySem.W.kitOne X.K t c=some b)(h:∀ tk,Q (.bool b) { s with toks:=tk }) :
  wpAny (model X.prog X.w) A (call (.builtin "isinstance") [u,c]) Q E s:=by
 cases ty with
 | b_=>cases (show u=Value.none from rx);exact PySem.W.kia_one PySem.W.kitx_none I.jZ True.intro e (λz=>nomatch z) h
 | bl y=>cases (show u=Value.bool y from rx);exact PySem.W.kia_one PySem.W.kitx_bool I.jZ True.intro e (λz=>nomatch z) h
 | int i=>obtain⟨t,q⟩:=(show ∃ t,u=Value.int i t from rx);cases q;exact PySem.W.kia_one PySem.W.kitx_int I.jZ True.intro e (λz=>nomatch z) h
 | str y=>obtain⟨t,q⟩:=(show ∃ t,u=Value.str y t from rx);cases q;exact PySem.W.kia_one PySem.W.kitx_str I.jZ True.intro e (λz=>nomatch z) h
 | Gk y=>obtain⟨t,q⟩:=(show ∃ t,u=Value.float y t from rx);cases q;exact PySem.W.kia_one PySem.W.kitx_float I.jZ True.intro e (λz=>nomatch z) h
 | @lst a xs ea =>
  cases (show u=Value.ref a from rx)
  obtain⟨_,_,n,_,h1⟩:=(show cp X.prog X.w H s.heap a (.lst xs) from I.bC a _ ea)
  exact PySem.W.kia_one PySem.W.kitx_list I.jZ ⟨_,h1,rfl⟩ e (λz=>nomatch z) h
 | @sE a ob xs ea =>
  cases (show u=Value.ref a from rx)
  obtain⟨_,_,_,n,_,h1⟩:=(show cp X.prog X.w H s.heap a (.sE ob (.lst xs)) from I.bC a _ ea)
  exact PySem.W.kia_one PySem.W.kitx_list I.jZ ⟨_,h1,rfl⟩ e (λz=>nomatch z) h
 | @tup a xs ea =>
  cases (show u=Value.ref a from rx)
  obtain⟨_,_,_,p⟩:=(show cp X.prog X.w H s.heap a (.tup xs) from I.bC a _ ea)
  obtain⟨o,h1,h2,_⟩:=p
  exact PySem.W.kia_one PySem.W.kitx_tuple I.jZ ⟨o,h1,h2⟩ e (λz=>nomatch z) h
 | @dK a O_ ea =>
  cases (show u=Value.ref a from rx)
  obtain⟨_,_,vs,_,p⟩:=(show cp X.prog X.w H s.heap a (.dK O_) from I.bC a _ ea)
  obtain⟨o,es,ep,h1,h2,_⟩:=p
  exact PySem.W.kia_one PySem.W.kitx_dict I.jZ ⟨o,h1,h2.1⟩ e (λz=>nomatch z) h
 | @dT a O_ ea =>
  cases (show u=Value.ref a from rx)
  obtain⟨_,_,xs,_,o,es,ep,h1,h2,_⟩:=(show cp X.prog X.w H s.heap a (.dT O_) from I.bC a _ ea)
  exact PySem.W.kia_one PySem.W.kitx_dict I.jZ ⟨o,h1,h2.1⟩ e (λz=>nomatch z) h
 | @ins a C dx fs ea cl ha hn JR hm =>
  cases (show u=Value.ref a from rx)
  obtain⟨mA,O,_⟩:=nu I.bC ea
  obtain⟨od,J,_⟩:=O.look
  exact PySem.W.kia_one (PySem.W.kitx_own (cl.get _) cl.hd ha hn JR hm) I.jZ J e (λz=>nomatch z) h
end
end L2
namespace L2
open PySem PySem.Spec PyProof.Rows
structure bX (k:Nat) (A:Around):Prop where
 hd:A.handled=none
 dp:A.depth+3*k+5<recursionLimit
 un:A.units+16*k+200<cLine
theorem bX.mono{j k:Nat}{A:Around}(r:bX k A)(h:j<=k):bX j A:=⟨r.hd,by have:=r.dp;omega,by have:=r.un;omega⟩
theorem bX.deeper{k:Nat}{A:Around}(r:bX (k+1) A)(env:Env):bX k (A.deeper env) :=
 ⟨r.hd,by have:=r.dp;show A.depth+1+3*k+5<_;omega,by have:=r.un;show A.units+3+16*k+200<_;omega⟩
theorem yM{A:Around}{C:Addr}{us:List Value}{kw:List (Str×Value)}:(A.under (.builtin "type.__call__" ⟨.ref C::us,kw⟩)).depth=A.depth+1:=by
 first | rfl | simp[Around.under,Code.weight,Code.isCreation,Code.isGuard,Code.isCaller,Code.frames,Code.isFrame,guardIds]
theorem yu{A:Around}{C:Addr}{us:List Value}{kw:List (Str×Value)}:(A.under (.builtin "type.__call__" ⟨.ref C::us,kw⟩)).units=A.units+1:=by
 first | rfl | simp[Around.under,Code.cUnits,Code.frames,Code.isFrame]
theorem bX.make{k:Nat}{A:Around}(r:bX (k+1) A)(C:Addr)(us:List Value)(kw:List (Str×Value)):bX k (A.under (.builtin "type.__call__" ⟨.ref C::us,kw⟩)) :=
 ⟨r.hd,by have:=r.dp;rw[yM];omega,by have:=r.un;rw[yu];omega⟩
theorem bX.depth{k:Nat}{A:Around}(r:bX k A):A.depth<recursionLimit:=by have:=r.dp;omega
theorem bX.units{k:Nat}{A:Around}(r:bX k A):A.units+64<cLine:=by have:=r.un;omega
def KP:TA:=λ_ H Q=>Q [] H
def Lj(ta:TE)(tr:TA):TA:=fun σ H Q=>ta σ H λx H1=>tr σ H1 λxs H2=>Q (x::xs) H2
section
variable{X:Cx}{e:Expr}{es:List Expr}{te:TE}{t:TA}{pos:Pos}
theorem mC:PA X [] KP:=λ_ _ _ _ H Q I h=>Calls.spliced_nil ⟨[],H,I,.nil,h⟩
theorem fq(ha:PE X e te)(hr:PA X es t)(hs:starEach (e::es) X.env=(false,eval e X.env)::starEach es X.env:=by rfl):PA X (e::es) (Lj te t):=by
 intro pos N8 s σ H Q I h
 rw[hs]
 show wpAny _ _ (spliced ((false,eval e X.env)::backTo pos (starEach es X.env))) _ _ s
 refine Calls.spliced_cons (cB (ha N8 s σ H _ I h) λu s1 ⟨x,H1,I1,r1,q1⟩=>?_)
 exact cB (hr pos N8 s1 σ H1 _ I1 q1) λus s2 ⟨xs,H2,I2,r2,q2⟩=>⟨x::xs,H2,I2,.cons r1 r2,q2⟩
def Nf(t:TA):TE:=fun σ H Q=>t σ H λxs H1=>xs.length<=sizeLine/\∀ p,H1 p=none->Q (.ref p) (upd H1 p (.tup xs))
def MH(t:TA):TE:=fun σ H Q=>t σ H λxs H1=>xs.length<=sizeLine/\∀ p,H1 p=none->Q (.ref p) (upd H1 p (.lst xs))
theorem DY{x1}(h:PA X es t):PE X (.Tuple es x1 pos) (Nf t):=by
 intro N8 s σ H Q I hq
 refine wpAny_Tuple_spliced (cB (h pos N8 s σ H _ I hq) λus s1 ⟨xs,H1,I1,r,z,q⟩=>⟨by rw[← r.length];exact z,?_⟩)
 have hf:H1 s1.heap.objs.size=none:=I1.bC.fresh (Nat.le_refl _)
 refine⟨.ref s1.heap.objs.size,upd H1 s1.heap.objs.size (.tup xs),I1.laid (t':=s1.toks) (λb u e=>Heap.get?_push_of_some _ e) (Nat.le_refl _) ?_,rfl,q _ hf⟩
 exact⟨z,us,r,⟨_,Heap.get?_push_size _ rfl,rfl,_,rfl⟩⟩
theorem C0(h:PA X es t):PE X (.List es pos) (MH t):=by
 intro N8 s σ H Q I hq
 refine wpAny_List_spliced (cB (h pos N8 s σ H _ I hq) λus s1 ⟨xs,H1,I1,r,z,q⟩=>⟨by rw[← r.length];exact z,?_⟩)
 have hf:H1 s1.heap.objs.size=none:=I1.bC.fresh (Nat.le_refl _)
 refine⟨.ref s1.heap.objs.size,upd H1 s1.heap.objs.size (.lst xs),I1.laid (t':=s1.toks) (λb u e=>Heap.get?_push_of_some _ e) (Nat.le_refl _) ?_,rfl,q _ hf⟩
 exact⟨z,us,0,r,Heap.get?_push_size _ rfl⟩
end
abbrev Sp:=List V->Hp->VK->XK->Prop
abbrev FJ:=List Env->Hp->Shared->XK->Value->Shared->Prop
structure yB (P:Program) (w:World) (K:PySem.W.Frag) (mg:Str->Option Value) (base:Heap) (A:Around) (outer:List Env) (s:Shared) (H:Hp):Prop where
 frames:A.frames=some outer
 mod:Mod K mg base
 bs:∀ b o,base.get? b=some o->s.heap.get? b=some o/\H b=none
 CO:base.objs.size<=s.heap.objs.size
 mv:s.heap.FunFrames base outer
 Ec:∀ b∈xE outer,H b=none
 bC:oy P w H s.heap
 bare:AllBare s.gens
def CE(outer:List Env)(P:Program)(w:World)(H:Hp)(s:Shared)(Q:VK)(u:Value)(s':Shared):Prop :=
 ∃ v H',s'.os=s.os/\AllBare s'.gens/\Un (xE outer) [] H H' s.heap s'.heap/\oy P w H' s'.heap/\RelV v u/\Q v H'
def CR(CX:FJ)(outer:List Env)(P:Program)(w:World)(H:Hp)(s:Shared)(Q:VK)(E:XK)(r:Result)(s':Shared):Prop :=
 match r with
 | .ok (.ret u)=>CE outer P w H s Q u s'
 | .ok _=>False
 | .error e=>CX outer H s E e s'
structure aI (P:Program) (w:World) (K:PySem.W.Frag) (mg:Str->Option Value) (base:Heap) (CX:FJ) (k:Nat) (f:Addr) (fd:FuncData) (ps:List Str) (sp:Sp):Prop where
 len:∀ vs H Q E,sp vs H Q E->vs.length=ps.length
 run:∀ (A:Around) (outer:List Env) (s:Shared) (H:Hp) (args:Args) (us:List Value) (vs:List V) (Q:VK) (E:XK),bX k A->yB P w K mg base A outer s H->BindsTo s fd args (ps.zip us)->Vals vs us->sp vs H Q E ->
  codeAny (model P w) A (.call (.ref f) args) (CR CX outer P w H s Q E) s
theorem yB.make{P:Program}{w:World}{K:PySem.W.Frag}{mg:Str->Option Value}{base:Heap}{A:Around}{outer:List Env}{s:Shared}{H:Hp}(e:yB P w K mg base A outer s H)(C:Addr)(us:List Value)(kw:List (Str×Value)) :
  yB P w K mg base (A.under (.builtin "type.__call__" ⟨.ref C::us,kw⟩)) outer s H:=⟨by first | exact e.frames | (simpa [Around.under,Code.envs,Code.isFrame,pushEnvs] using e.frames),e.mod,e.bs,e.CO,e.mv,e.Ec,e.bC,e.bare⟩
section
variable{X:Cx}{N8:List (Addr×Obj)}{σ:St}{H:Hp}{s s':Shared}
theorem Inv.mL(I:Inv X N8 σ H s):yB X.prog X.w X.K X.mg X.base X.A X.stack s H :=
 ⟨I.ok.frames,I.ok.mod,I.bs,Nat.le_trans I.ok.CO I.sz,I.stack,I.uI,I.bC,I.bare⟩
theorem Inv.after{Q:VK}{u:Value}(I:Inv X N8 σ H s)(h:CE X.stack X.prog X.w H s Q u s'):EP X N8 σ Q u s':=by
 obtain⟨v,H',os,bare,un,bC,r,q⟩:=h
 obtain⟨hh,g,d,t,os'⟩:=s'
 obtain rfl:os'=s.os:=os
 exact⟨v,H',I.call (h':=hh) (g':=g) (d':=d) (t':=t) (ch:=[]) un bC bare (λb z=>absurd z (by simp)),r,q⟩
end
def Binds(K:PySem.W.Frag)(fd:FuncData)(ps:List Str)(ds:List Value):Prop :=
 ∀ (s:Shared) (us:List Value),K.In s.heap->(us++ds).length=ps.length->BindsTo s fd ⟨us,[]⟩ (ps.zip (us++ds))
theorem Binds.all{K:PySem.W.Frag}{fd:FuncData}{ps:List Str}(h:∀ us:List Value,us.length=ps.length->bindArgs fd ⟨us,[]⟩=pure (ps.zip us)):Binds K fd ps []:=λs us _ hl=>by
 rw[List.append_nil] at hl ⊢
 exact .of_eq (h us hl)
section
variable{X:Cx}{CX:FJ}{k:Nat}{f C:Addr}{fd:FuncData}{ps:List Str}{sp:Sp}{OX:List V}{ds:List Value}{E:XK}{x m:Str}{p pos apos:Pos}{e o:Expr}{es:List Expr}{ta:TE}{t:TA}
structure Mk (K:PySem.W.Frag) (C f:Addr):Prop where
 makes:PySem.W.makesIn K C=true
 init:PySem.W.findIn K (.ref C) "__init__" = some (some (.ref f))
 fn:PySem.W.isFn K (.ref f)=true
 kp:PySem.W.keepIn K (.ref C)=true
end
section
variable{X:Cx}{CX:FJ}{k:Nat}{f C:Addr}{fd:FuncData}{ps ks:List Str}{sp:Sp}{E:XK}{x m:Str}{p pos apos kpos:Pos}{e o:Expr}{es:List Expr}{kws:List Keyword}{te ta:TE}{t tk:TA}{nm:Option Str}
variable{g:List Value->List Value->List Value}{gV:List V->List V->List V}
end
structure aw (N P:List Str) (sc:Scope):Prop where
 kind:sc.kind=.function
 co:sc.isCoroutine=false
 gen:sc.isGenerator=false
 nd:N.Nodup
 pre:N.take P.length=P
 par:∀ x∈P,sc.names.lookup x=some .local\/sc.names.lookup x=some .cell
 Jr:∀ y∈sc.names,y.2≠.free
theorem tP{kindOf:Str->Option NameKind}{x:Str}:∀ {binds:List (Str×Value)} {m:Str->Option Value},(∀ v,(x,v) ∉ binds)->bindL kindOf binds m x=m x
 | [],_,_=>rfl
 | (n,v)::r,m,h=>by
  unfold bindL
  rw[tP λw hw=>h w (List.mem_cons_of_mem _ hw)]
  split
  ·have:x≠n:=by rintro rfl;exact h v List.mem_cons_self
   simp[this]
  ·rfl
theorem tK{kindOf:Str->Option NameKind}{x:Str}:∀ {binds:List (Str×Value)} {m:Str->Option Value},(∀ v,(x,v) ∉ binds)->bindC kindOf binds m x=m x
 | [],_,_=>rfl
 | (n,v)::r,m,h=>by
  unfold bindC
  rw[tK λw hw=>h w (List.mem_cons_of_mem _ hw)]
  split
  ·rfl
  ·have:x≠n:=by rintro rfl;exact h v List.mem_cons_self
   simp[this]
theorem sX{kindOf:Str->Option NameKind}{x:Str}{v:Value}:∀ {P:List Str} {vs:List Value} {i:Nat} {m:Str->Option Value},P.Nodup->P[i]?=some x->vs[i]?=some v->kindOf x=some .local ->
  bindL kindOf (P.zip vs) m x=some v
 | [],_,_,_,_,h,_,_=>by simp at h
 | _::_,[],_,_,_,_,h,_=>by simp at h
 | p::P,w::vs,0,m,nd,h1,h2,hk=>by
  simp at h1 h2;subst h1;subst h2
  show bindL kindOf ((p,w)::P.zip vs) m p=_
  unfold bindL
  rw[tP λv hv=>(List.nodup_cons.mp nd).1 (List.of_mem_zip hv).1,if_pos hk]
  simp
 | p::P,w::vs,i+1,m,nd,h1,h2,hk=>by
  show bindL kindOf ((p,w)::P.zip vs) m x=_
  unfold bindL
  exact sX (i:=i) (List.nodup_cons.mp nd).2 (by simpa using h1) (by simpa using h2) hk
theorem tZ{kindOf:Str->Option NameKind}{x:Str}{v:Value}:∀ {P:List Str} {vs:List Value} {i:Nat} {m:Str->Option Value},P.Nodup->P[i]?=some x->vs[i]?=some v->kindOf x≠some .local ->
  bindC kindOf (P.zip vs) m x=some v
 | [],_,_,_,_,h,_,_=>by simp at h
 | _::_,[],_,_,_,_,h,_=>by simp at h
 | p::P,w::vs,0,m,nd,h1,h2,hk=>by
  simp at h1 h2;subst h1;subst h2
  show bindC kindOf ((p,w)::P.zip vs) m p=_
  unfold bindC
  rw[tK λv hv=>(List.nodup_cons.mp nd).1 (List.of_mem_zip hv).1,if_neg hk]
  simp
 | p::P,w::vs,i+1,m,nd,h1,h2,hk=>by
  show bindC kindOf ((p,w)::P.zip vs) m x=_
  unfold bindC
  exact tZ (i:=i) (List.nodup_cons.mp nd).2 (by simpa using h1) (by simpa using h2) hk
def start(N:List Str)(vs:List V):St:=vs.map some++List.replicate (N.length-vs.length) none
def pU(CX:FJ)(P:Program)(w:World)(K:PySem.W.Frag)(mg:Str->Option Value)(base:Heap)(N:List Str)(qual:Str)(scope:Scope)(f:Addr)(cd:Value)(A:Around)(outer:List Env)(s:Shared)(H:Hp)(E:XK):Cx where
 prog:=P
 w:=w
 K:=K
 mg:=mg
 base:=base
 A:=A.deeper (envOfC qual scope s.heap.objs.size f cd)
 N:=N
 s₀:=s
 H₀:=H
 env:=envOfC qual scope s.heap.objs.size f cd
 outer:=outer
 stack:=envOfC qual scope s.heap.objs.size f cd::outer
 ex:=[]
 calm:=true
 fn:=λ_=>true
 pn:=[]
 xe:=λe s'=>wpAny (model P w) (A.deeper (envOfC qual scope s.heap.objs.size f cd)) (leaving (envOfC qual scope s.heap.objs.size f cd) e) (λ_ s''=>CX outer H s E e s'') (λe' s''=>CX outer H s E e' s'') s'
theorem wu{sc:Scope}{n:Nat}{x:Str}(h:sc.names.lookup x=some .cell):∃ c,(cellsFrom n sc.names []).lookup x=some c:=by
 have q:=PySem.W.cellsFrom_some sc.names n [] (.inl h)
 exact Option.isSome_iff_exists.mp q
theorem Ab{CX:FJ}{P:Program}{w:World}{K:PySem.W.Frag}{mg:Str->Option Value}{base:Heap}{N ps:List Str}{qual:Str}{scope:Scope}{f:Addr}{cd:Value}{A:Around}{outer:List Env}{s s1:Shared}{H:Hp}{E:XK}{us:List Value}{vs:List V}
  (S:aw N ps scope) (hd:A.handled=none) (e0:yB P w K mg base A outer s H) (hl:vs.length=ps.length) (r:Vals vs us)
  (x:InCallC s s.heap.objs.size (bindL (envOfC qual scope s.heap.objs.size f cd).kindOf (ps.zip us) λ_=>none) (cellsFrom (s.heap.objs.size+1) scope.names []) (bindC (envOfC qual scope s.heap.objs.size f cd).kindOf (ps.zip us) λ_=>none) s1) :
  Inv (pU CX P w K mg base N qual scope f cd A outer s H E) [] (start N vs) H s1:=by
 have OB:ps.length<=N.length:=by have:=congrArg List.length S.pre;rw[List.length_take] at this;omega
 obtain⟨h1,tk,rfl,hk⟩:=x.done
 have nR:∀ b:Addr,b ∉ (pU CX P w K mg base N qual scope f cd A outer s H E).ex:=λb z=>absurd (show b∈([]:List Addr) from z) (by simp)
 refine⟨⟨e0.mod,S.kind,rfl,rfl,Nat.le_refl _,λy z c h1 h2=>?_,λy hy=>?_,λy c _ h=>?_,λ_=>hd,Around.frames_deeper e0.frames,.inr ⟨rfl,rfl⟩,λb z=>absurd z (nR b),e0.bs,e0.CO,λb _ _=>nR b,λb z=>absurd z (nR b),e0.mv,e0.Ec⟩,
  rfl,e0.bare,Un.kept hk,⟨_,x.toInCall.ns,λi y v h1 h2 h3=>?_⟩,λy c h=>⟨_,x.cell y c h⟩,e0.bC.fresh (Nat.le_refl _),λy c h=>?_,λp hp=>absurd (show p∈([]:List (Addr×Obj)) from hp) (by simp),e0.bC.kept hk,?_⟩
 ·exact name_of_addr x.apart (PySem.mem_of_lookup h1) (PySem.mem_of_lookup h2)
 ·have hy:scope.names.lookup y=some .cell\/scope.names.lookup y=some .free:=hy
  rcases hy with hy | hy
  ·exact wu hy
  ·exact absurd rfl (S.Jr _ (PySem.mem_of_lookup hy))
 ·exact Nat.le_of_lt (x.above y c (PySem.mem_of_lookup h))
 ·have hi:i<vs.length:=by
   unfold start at h2
   by_cases hi:i<vs.length
   ·exact hi
   ·rw[List.getElem?_append_right (by simpa using hi)] at h2
    rw[List.getElem?_replicate] at h2
    split at h2 <;> cases h2
  have ha:vs[i]?=some v:=by
   unfold start at h2
   rw[List.getElem?_append_left (by simpa using hi),List.getElem?_map] at h2
   cases e:vs[i]? with
   | none=>rw[e] at h2;cases h2
   | some a=>rw[e] at h2;cases h2;rfl
  obtain⟨u,hu,rv⟩:=r.get ha
  have hp:ps[i]?=some y:=by
   rw[← S.pre,List.getElem?_take_of_lt (by omega)];exact h1
  have ndP:ps.Nodup:=by rw[← S.pre];exact S.nd.sublist (List.take_sublist _ _)
  refine⟨u,rv,?_⟩
  rcases S.par y (List.mem_of_getElem? hp) with k | k
  ·exact .inl ⟨k,sX ndP hp hu k⟩
  ·obtain⟨c,e⟩:=wu (n:=s.heap.objs.size+1) k
   refine .inr ⟨.inl k,c,e,?_⟩
   have q:=x.cell y c e
   rw[tZ ndP hp hu (by show scope.names.lookup y≠_;rw[k];decide)] at q
   exact q
 ·exact e0.bC.fresh (Nat.le_of_lt (x.above y c (PySem.mem_of_lookup h)))
 ·unfold start
  show _=N.length
  rw[List.length_append,List.length_map,List.length_replicate]
  omega
theorem Kd{CX:FJ}{P:Program}{w:World}{K:PySem.W.Frag}{mg:Str->Option Value}{base:Heap}{k:Nat}{f:Addr}{name qual:Str}{params:Arguments}{body:List Stmt}{scope:Scope}{dV kV doc pm OA ct oc:Value}{an od:Option Addr}
  {Qx:Array (Option Value)} {N ps:List Str} {sp:Sp} (lk:K.lookup f=some ⟨oc,od,.func (PySem.W.fnOf name qual params body scope dV kV doc pm an OA ct),Qx⟩) (Py:PySem.W.codeIn K OA qual=true) (S:aw N ps scope)
  (len:∀ vs H Q E,sp vs H Q E->vs.length=ps.length)
  (QF:∀ (A:Around) (outer:List Env) (s:Shared) (H:Hp) (vs:List V) (Q:VK) (E:XK),bX k (A.deeper (envOfC qual scope s.heap.objs.size f OA))->sp vs H Q E ->
   ∃ t,mH (pU CX P w K mg base N qual scope f OA A outer s H E) body t/\t { nx:=λ_ H'=>Q .b_ H',rt:=Q } (start N vs) H) :
  aI P w K mg base CX (k+1) f (PySem.W.fnOf name qual params body scope dV kV doc pm an OA ct) ps sp:=by
 refine⟨len,λA outer s H args us vs Q E hr e0 hb r hsp=>?_⟩
 have hl:=len _ _ _ _ hsp
 have KX:K.In s.heap:=e0.mod.Fe.keeps λb o e=>(e0.bs b o e).1
 have lim:s.heap.NoLimit:=e0.mod.nolimit.keeps λb o e=>(e0.bs b o e).1
 have RO:∀ y∈ps.zip us,scope.names.lookup y.1=some .local\/(scope.names.lookup y.1=some .cell/\((cellsFrom (s.heap.objs.size+1) scope.names []).lookup y.1).isSome=true):=λ⟨n,v⟩ hy=>by
  rcases S.par n (List.of_mem_zip hy).1 with q | q
  ·exact .inl q
  ·exact .inr ⟨q,PySem.W.cellsFrom_some _ _ _ (.inl q)⟩
 refine codeAny_call_function hr.depth (KX _ _ lk) rfl S.co S.gen rfl (PySem.W.codeRec_of KX Py) (hb _ _ _ _ ?_)
 refine wpAny_newFunctionEnv_cells S.kind RO λenv he s1 x=>?_
 subst he
 refine⟨lim.keeps x.toInCall.keep,codeAny_func ?_⟩
 obtain⟨t,ht,hq⟩:=QF A outer s H vs Q E (hr.deeper _) hsp
 have I:Inv (pU CX P w K mg base N qual scope f OA A outer s H E) [] (start N vs) H s1:=Ab S hr.hd e0 hl r x
 refine wpAny_mono (ht [] s1 (start N vs) H _ I hq) (λfl s' hs=>?_) λe s' hs=>hs
 have fin:∀ {σ':St} {H':Hp} {v:V} {u:Value},Inv (pU CX P w K mg base N qual scope f OA A outer s H E) [] σ' H' s'->RelV v u->Q v H'->CE outer P w H s Q u s' :=
  λ{σ' H' v u} J rv q=>⟨v,H',J.os,J.bare,J.base,J.bC,rv,q⟩
 cases fl with
 | ret u =>
  obtain⟨v,σ',H',J,rv,q⟩:=hs
  exact fin J rv q
 | next =>
  obtain⟨σ',H',J,q⟩:=hs
  exact fin (v:=V.b_) (u:=Value.none) J rfl q
 | brk =>
  obtain⟨_,_,_,q⟩:=hs
  exact False.elim q
 | cont =>
  obtain⟨_,_,_,q⟩:=hs
  exact False.elim q
end L2
namespace L2
open PySem PySem.Spec PyProof.Rows
section
variable{X:Cx}{x:Str}{p pos:Pos}{e:Expr}{es:List Expr}{t:TA}{id T:String}{r:List V->Hp->VK->Prop}
def MD(r:List V->Hp->VK->Prop)(t:TA):TE:=fun σ H Q=>t σ H λvs H1=>r vs H1 Q
theorem mQ(hc:dC X (.builtin id) r)(hg:Gl X x)(hm:X.mg x=none)(hv:bootBuiltins x=some (.builtin id))(ha:PA X (e::es) t)(hn:x ≠ "__name__" := by decide)(Ph:(x==("__debug__" : Str))=false:=by decide)
  (he:starEach (e::es) X.env=(false,eval e X.env)::starEach es X.env:=by rfl) (OB:(backTo pos (starEach es X.env)).any (·.1)=false:=by rfl):PE X (.Call (.Name x p) (e::es) [] pos) (MD r t):=by
 intro N8 s σ H Q I h
 refine wpAny_Call_Name_kw (j6 I hg hm hv ?_ hn Ph)
 exact PyProof.Rows.callWith_builtin1 (cB (ha pos N8 s σ H _ I h) λus s1 ⟨vs,H1,I1,r1,q1⟩=>hc N8 s1 σ H1 vs us Q I1 r1 q1) he OB
theorem Ao(hc:dC X (.type T) r)(hg:Gl X x)(hm:X.mg x=none)(hv:bootBuiltins x=some (.type T))(ha:PA X (e::es) t)(hn:x ≠ "__name__" := by decide)(Ph:(x==("__debug__" : Str))=false:=by decide)
  (he:starEach (e::es) X.env=(false,eval e X.env)::starEach es X.env:=by rfl) (OB:(backTo pos (starEach es X.env)).any (·.1)=false:=by rfl):PE X (.Call (.Name x p) (e::es) [] pos) (MD r t):=by
 intro N8 s σ H Q I h
 refine wpAny_Call_Name_kw (j6 I hg hm hv ?_ hn Ph)
 exact PyProof.Rows.callWith_type1 (cB (ha pos N8 s σ H _ I h) λus s1 ⟨vs,H1,I1,r1,q1⟩=>hc N8 s1 σ H1 vs us Q I1 r1 q1) he OB
end
end L2
namespace HT
open PySem PyProof.Rows
section
open PySem.SeqAt
open PySem.AutoSeq1 (wpAny_loadPart')
open PySem.MeetsSeq PySem.MeetsSeq2 PySem.MeetsSeq3
end
section
variable{prog:Program}{w:World}{A:Around}{E:Value->Shared->Prop}{s:Shared}
theorem FU{t b:Addr}{vs ws:List Value}{Q:Value->Shared->Prop}(ht:IsTup s.heap t vs.toArray)(hb:IsTup s.heap b ws.toArray)(hv:vs≠[])
  (h1:ws=[]->Q (.ref t) s) (h2:ws≠[]->Q (.ref s.heap.objs.size) { s with heap:=s.heap.push { cls:=.type "tuple", data:=.seq (vs++ws).toArray } })
  (PX:vs.length+ws.length<=sizeLine):wpAny (model prog w) A (binaryOp .Add (.ref t) (.ref b)) Q E s:=by
 obtain⟨⟨cls,dd,data,sl⟩,ho,hc,n,hd⟩:=id ht
 obtain⟨⟨cls2,RB,data2,sl2⟩,QA,Q2,n2,hd2⟩:=id hb
 simp only at hc hd Q2 hd2
 subst hc hd Q2 hd2
 have e:vs.toArray++ws.toArray=(vs++ws).toArray:=by simp
 by_cases hw:ws=[]
 ·exact concat_meets ⟨_,ho,rfl⟩ ⟨_,QA,rfl⟩ noFill_tuple_add seq_tuple_add PySem.F.slot_tuple_add PySem.F.entry_tuple_add (PySem.F.args_tuple_add_2 _ _)
   (tuple_addW1 t b vs.toArray ws.toArray n n2 dd RB sl sl2 (by simpa using hv) (by simp[hw])) ⟨ho,QA,h1 hw⟩
 ·refine concat_meets ⟨_,ho,rfl⟩ ⟨_,QA,rfl⟩ noFill_tuple_add seq_tuple_add PySem.F.slot_tuple_add PySem.F.entry_tuple_add (PySem.F.args_tuple_add_2 _ _)
   (tuple_addW2 t b vs.toArray ws.toArray n n2 dd RB sl sl2 (by simpa using hv) (by simpa using hw) (by rw[List.size_toArray,List.size_toArray];exact PX)) ⟨ho,QA,?_⟩
  rw[e]
  exact h2 hw
def dF(n d:Nat):Option Int->Nat
 | none=>d
 | some v=>if v<0 then (v+(n:Int)).toNat else min v.toNat n
theorem zh(n d k:Nat):dF n d (some (k:Int))=min k n:=by
 show (if (k:Int)<0 then ((k:Int)+(n:Int)).toNat else min (k:Int).toNat n)=min k n
 rw[if_neg (by omega),Int.toNat_natCast]
theorem HP(n d:Nat)(hd:d<=n)(o:Option Int):dF n d o<=n:=by
 cases o with
 | none=>exact hd
 | some v =>
  show (if v<0 then (v+(n:Int)).toNat else min v.toNat n)<=n
  by_cases hv:v<0
  ·rw[if_pos hv];omega
  ·rw[if_neg hv];exact Nat.min_le_right _ _
theorem zt(v:Int)(n d:Nat):(if v<0 then max (v+(n:Int)) 0 else min v (n:Int))=((dF n d (some v):Nat):Int):=by
 show (if v<0 then max (v+(n:Int)) 0 else min v (n:Int))=(((if v<0 then (v+(n:Int)).toNat else min v.toNat n):Nat):Int)
 by_cases hv:v<0
 ·simp only[if_pos hv];omega
 ·simp only[if_neg hv];omega
theorem yt(lo hi:Option Int)(n:Nat):Builtin.Slice.sliceAdjust lo hi 1 (n:Int)=(((dF n 0 lo:Nat):Int),((dF n n hi:Nat):Int)):=by
 have h1:¬ ((1:Int)<0):=by omega
 unfold Builtin.Slice.sliceAdjust
 simp only[h1,if_false]
 refine Prod.ext ?_ ?_
 ·cases lo with
  | none=>rfl
  | some v=>exact zt v n 0
 ·cases hi with
  | none=>rfl
  | some v=>exact zt v n n
theorem xK(i j:Nat):Builtin.Slice.slicePlaces (i:Int) (j:Int) 1=j-i:=by
 unfold Builtin.Slice.slicePlaces
 have h1:(1:Int)>0:=by omega
 simp only[h1,if_true,Int.ediv_one]
 split <;> omega
theorem r6{v:Value}{o:Option Int}{Q:Option Int->Shared->Prop}(p:IsPart v o)(h:Q o s):wpAny (model prog w) A (Builtin.Slice.slicePartIndex v) Q E s:=by
 cases p with
 | none=>exact slicePart_none h
 | int i t=>exact slicePart_int h
theorem jD{sl:Addr}{vl vu:Value}{lo hi:Option Int}{n:Nat}{Q:Int×Int×Nat->Shared->Prop}(hs:s.heap.IsSliceOf sl vl vu .none)(pl:IsPart vl lo)(pu:IsPart vu hi)
  (h:Q (((dF n 0 lo:Nat):Int),1,dF n n hi-dF n 0 lo) s):wpAny (model prog w) A (Builtin.Slice.sliceApplied (.ref sl) (pure (n:Int))) Q E s:=by
 obtain⟨os,Rl,hcs,RJ⟩:=id hs
 unfold Builtin.Slice.sliceApplied Builtin.Slice.sliceFields
 refine wpAny_bind (wpAny_bind (wpAny_field Rl RJ (x:=vl) rfl (wpAny_bind (wpAny_field Rl RJ (x:=vu) rfl (wpAny_bind (wpAny_field Rl RJ (x:=.none) rfl (wpAny_pure ?_)))))))
 refine wpAny_bind (slicePart_none ?_)
 show wpAny _ _ (if ((1:Int)==0)=true then _ else _) _ _ s
 rw[if_neg (by decide)]
 refine wpAny_bind (r6 pl (wpAny_bind (r6 pu (wpAny_bind (wpAny_pure ?_)))))
 show wpAny _ _ (match Builtin.Slice.sliceAdjust lo hi 1 (n:Int) with | (lo,hi)=>pure (lo,(1:Int),Builtin.Slice.slicePlaces lo hi 1)) _ _ s
 rw[yt lo hi n]
 show wpAny _ _ (pure (((dF n 0 lo:Nat):Int),(1:Int),Builtin.Slice.slicePlaces ((dF n 0 lo:Nat):Int) ((dF n n hi:Nat):Int) 1)) _ _ s
 rw[xK]
 exact wpAny_pure h
theorem Cu(xs:Array Value)(i k:Nat):((List.range k).filterMap λ(m:Nat)=>xs[((i:Int)+(m:Int)*1).toNat]?).toArray=((xs.toList.drop i).take k).toArray:=by
 have e:(λ(m:Nat)=>xs[((i:Int)+(m:Int)*1).toNat]?)=λm=>xs[i+m]?:=by
  funext m
  have:((i:Int)+(m:Int)*1).toNat=i+m:=by omega
  rw[this]
 rw[e]
 have:=pick_run xs i k
 rw[List.filterMap_map] at this
 have e2:((λx=>xs[x]?)∘λx=>i+x)=λm=>xs[i+m]?:=rfl
 rw[e2] at this
 rw[this]
theorem nX{t sl:Addr}{items:Array Value}{vl vu:Value}{lo hi:Option Int}{Q:Value->Shared->Prop}(ht:IsTup s.heap t items)(hs:s.heap.IsSliceOf sl vl vu .none)(pl:IsPart vl lo)(pu:IsPart vu hi)
  (hw:¬ (dF items.size 0 lo=0/\dF items.size items.size hi=items.size))
  (h:Q (.ref s.heap.objs.size) { s with heap:=s.heap.push { cls:=.type "tuple", data:=.seq ((items.toList.drop (dF items.size 0 lo)).take (dF items.size items.size hi-dF items.size 0 lo)).toArray } })
  (PX:items.size<=sizeLine):wpAny (model prog w) A (getItem (.ref t) (.ref sl)) Q E s:=by
 have Qw:sizeOk (.seq ((items.toList.drop (dF items.size 0 lo)).take (dF items.size items.size hi-dF items.size 0 lo)).toArray):=by
  show ((items.toList.drop (dF items.size 0 lo)).take (dF items.size items.size hi-dF items.size 0 lo)).toArray.size<=sizeLine
  rw[List.size_toArray,List.length_take,List.length_drop,Array.length_toList]
  omega
 have hj:dF items.size items.size hi<=items.size:=HP _ _ (Nat.le_refl _) hi
 obtain⟨os,Rl,hcs,RJ⟩:=id hs
 have hTs:s.TypeIs (.ref sl) "slice" := ⟨os,Rl,hcs⟩
 unfold getItem
 try with_reducible refine wpAny_holding ?_
 first | refine wpAny_bind (wpAny_pure ?_) | skip
 refine wpAny_bind (wpAny_sequenceKey ht.typeIs (by decide) ?_)
 refine wpAny_bind (wpAny_callSpecial?_slot (name:=Str.ofString "__getitem__") ht.typeIs PyProof.Rows.slot_tuple_getitem
  (wpAny_call_entry PyProof.Rows.slot_tuple_getitem ht.typeIs entry_tuple_getitem ?_ (args_tuple_getitem _ _)))
 show wpAny _ _ (Builtin.Tuple.tupleItemsOf (.ref t) >>= _) _ _ s
 refine wpAny_bind (tupleItemsOf_ ht ?_)
 refine wpAny_bind (wpAny_typeOf hTs ?_)
 rw[if_pos (by decide)]
 refine wpAny_bind (jD hs pl pu ?_)
 have hno:¬ ((((dF items.size 0 lo:Nat):Int)==0&&(1:Int)==1&&(dF items.size items.size hi-dF items.size 0 lo)==items.size)=true):=by
  intro q
  rw[Bool.and_eq_true,Bool.and_eq_true] at q
  have q1:((dF items.size 0 lo:Nat):Int)=0:=eq_of_beq q.1.1
  have q2:dF items.size items.size hi-dF items.size 0 lo=items.size:=eq_of_beq q.2
  exact hw ⟨by omega,by omega⟩
 show wpAny _ _ (if (((dF items.size 0 lo:Nat):Int)==0&&(1:Int)==1&&(dF items.size items.size hi-dF items.size 0 lo)==items.size)=true then _ else _) _ _ s
 rw[if_neg hno,Cu]
 first
  | exact wpAny_bind (m:=Builtin.Tuple.tupleExact _) (wpAny_newObj_type (wpAny_pure ⟨_,rfl,wpAny_pure h⟩) Qw)
  | exact wpAny_bind (m:=Builtin.Tuple.tupleExact _) (wpAny_newObj_type (wpAny_bind (wpAny_pure (wpAny_pure ⟨_,rfl,wpAny_pure h⟩))) Qw)
  | exact wpAny_bind (wpAny_bind (m:=Builtin.Tuple.tupleExact _) (wpAny_newObj_type (wpAny_pure (wpAny_pure ⟨_,rfl,wpAny_pure h⟩)) Qw))
  | exact wpAny_bind (wpAny_bind (m:=Builtin.Tuple.tupleExact _) (wpAny_newObj_type (wpAny_pure ⟨_,rfl,wpAny_pure h⟩) Qw))
end
end HT
namespace L2
open PySem PySem.Spec PyProof.Rows
abbrev TO:=St->Hp->(Option Int->Hp->Prop)->Prop
def PO(X:Cx)(e:Option Expr)(t:TO):Prop :=
 ∀ (N8:List (Addr×Obj)) (s:Shared) (σ:St) (H:Hp) (Q:Option Int->Hp->Prop),Inv X N8 σ H s->t σ H Q ->
  wpAny (model X.prog X.w) X.A (evalPart e X.env) (λu s'=>∃ o H',Inv X N8 σ H' s'/\IsPart u o/\Q o H') X.xe s
def F3:TO:=λ_ H Q=>Q none H
def K0(t:TE):TO:=fun σ H Q=>t σ H λx H1=>∃ i,x=.int i/\Q (some i) H1
theorem intsAre_of{ns:List Int}:∀ {us:List Value},Vals (ns.map V.int) us->IntsAre us ns:=by
 induction ns with
 | nil=>intro us r;rw[List.map_nil] at r;cases r;exact .nil
 | cons n ns ih =>
  intro us r
  rw[List.map_cons] at r
  cases r with
  | cons r1 r2 =>
   obtain⟨t,e⟩:=r1
   subst e
   exact .cons n t (ih r2)
section
variable{X:Cx}{e:Expr}{te:TE}{lo hi:Option Expr}{tl th:TO}{pos p2:Pos}
theorem Fh:PO X none F3:=by
 intro N8 s σ H Q I h
 rw[evalPart_none]
 exact wpAny_pure ⟨none,H,I,.none,h⟩
theorem Ee(h:PE X e te):PO X (some e) (K0 te):=by
 intro N8 s σ H Q I hw
 rw[evalPart_some]
 refine cB (h N8 s σ H _ I hw) λu s1 ⟨x,H1,I1,r1,q1⟩=>?_
 obtain⟨i,rfl,q⟩:=q1
 obtain⟨t,rfl⟩:=r1
 exact⟨some i,H1,I1,.int i t,q⟩
def D7(X:Cx)(r:V->Option Int->Option Int->Hp->VK->Prop):Prop :=
 ∀ (N8:List (Addr×Obj)) (s:Shared) (σ:St) (H:Hp) (x:V) (v vl vu:Value) (lo hi:Option Int) (sl:Addr) (Q:VK),Inv X N8 σ H s->RelV x v->s.heap.IsSliceOf sl vl vu .none->IsPart vl lo->IsPart vu hi->r x lo hi H Q ->
  ∃ T id,typeLookup (.type T) "__getitem__" = pure (some (.builtin id))/\s.TypeIs v T/\wpAny (model X.prog X.w) X.A (getItem v (.ref sl)) (EP X N8 σ Q) X.xe s
theorem D7.or{r r':V->Option Int->Option Int->Hp->VK->Prop}(h:D7 X r)(h':D7 X r'):D7 X (λx lo hi H Q=>r x lo hi H Q\/r' x lo hi H Q):=by
 intro N8 s σ H x v vl vu lo hi sl Q I rx hs pl pu q
 rcases q with q | q
 ·exact h N8 s σ H x v vl vu lo hi sl Q I rx hs pl pu q
 ·exact h' N8 s σ H x v vl vu lo hi sl Q I rx hs pl pu q
def N3(r:V->Option Int->Option Int->Hp->VK->Prop)(te:TE)(tl th:TO):TE:=fun σ H Q=>te σ H λx H1=>tl σ H1 λl H2=>th σ H2 λu H3=>r x l u H3 Q
theorem Bq{r:V->Option Int->Option Int->Hp->VK->Prop}(hr:D7 X r)(he:PE X e te)(hl:PO X lo tl)(hu:PO X hi th):PE X (.Subscript e (.Slice lo hi none p2) pos) (N3 r te tl th):=by
 intro N8 s σ H Q I h
 refine Subscript_ (cB (he N8 s σ H _ I h) λv s1 ⟨x,H1,I1,r1,q1⟩=>?_)
 refine wpAny_Slice (cB (hl N8 s1 σ H1 _ I1 q1) λvl s2 ⟨l,H2,I2,pl,q2⟩=>cB (hu N8 s2 σ H2 _ I2 q2) λvu s3 ⟨u,H3,I3,pu,q3⟩=>?_)
 rw[evalPart_none]
 refine wpAny_pure ?_
 have I4:Inv X N8 σ H3 { s3 with heap:=s3.heap.push { cls:=.type "slice", data:=.fields #[vl,vu,.none] } }:=I3.kept (t':=s3.toks) λb ob q=>Heap.get?_push_of_some _ q
 obtain⟨T,id,hT,ht,hg⟩:=hr N8 { s3 with heap:=s3.heap.push { cls:=.type "slice", data:=.fields #[vl,vu,.none] } } σ H3 x v vl vu l u s3.heap.objs.size Q I4 r1 (Heap.IsSliceOf.new ..) pl pu q3
 show wpAny (model X.prog X.w) X.A (subscriptTail e (.Slice lo hi none p2) v (.ref s3.heap.objs.size)) (EP X N8 σ Q) X.xe { s3 with heap:=s3.heap.push { cls:=.type "slice", data:=.fields #[vl,vu,.none] } }
 exact tail_any (ops:=[.ref s3.heap.objs.size,v]) ht hT hg (by with_unfolding_all rfl)
def vU(xs:List V)(lo hi:Option Int):List V:=(xs.drop (HT.dF xs.length 0 lo)).take (HT.dF xs.length xs.length hi-HT.dF xs.length 0 lo)
theorem oW(xs:List V)(lo hi:Option Int):(vU xs lo hi).length<=xs.length:=by
 unfold vU
 rw[List.length_take,List.length_drop]
 omega
def MF(K:PySem.W.Frag):V->Option Int->Option Int->Hp->VK->Prop:=λx lo hi H Q=>∃ a xs,x=.ref a/\iF K H a xs ∧
 ¬ (HT.dF xs.length 0 lo=0/\HT.dF xs.length xs.length hi=xs.length)/\∀ p,H p=none->Q (.ref p) (upd H p (.tup (vU xs lo hi)))
theorem Hu:D7 X (MF X.K):=by
 intro N8 s σ H x v vl vu lo hi sl Q I rx hs pl pu h
 obtain⟨a,xs,rfl,hx,hw,q⟩:=h
 cases rx
 obtain⟨Ob,r,ht,hz⟩:=I.tuple hx
 have hlen:Ob.toArray.size=xs.length:=by rw[List.size_toArray];exact r.length.symm
 refine⟨"tuple", _,PyProof.Rows.slot_tuple_getitem.lookup,ht.typeIs,?_⟩
 refine HT.nX ht hs pl pu (by rw[hlen];exact hw) ?_ (by rw[hlen];exact hz)
 rw[hlen]
 refine⟨.ref s.heap.objs.size,_,I.laid (t':=s.toks) (o:=.tup (vU xs lo hi)) (λb ob q=>Heap.get?_push_of_some _ q) (Nat.le_refl _) ?_,rfl,q _ (I.bC.fresh (Nat.le_refl _))⟩
 exact⟨Nat.le_trans (oW xs lo hi) hz,_,(r.drop (HT.dF xs.length 0 lo)).take (HT.dF xs.length xs.length hi-HT.dF xs.length 0 lo),IsTup.new _ _⟩
def GD(K:PySem.W.Frag):R2:=λx y H Q=>∃ a b xs ys,x=.ref a/\y=.ref b/\iF K H a xs/\iF K H b ys/\xs≠[]/\xs.length+ys.length<=sizeLine ∧
 (ys=[]->Q (.ref a) H)/\(ys≠[]->∀ p,H p=none->Q (.ref p) (upd H p (.tup (xs++ys))))
theorem Vals.m9{xs:List V}{us:List Value}(r:Vals xs us):us=[] ↔ xs=[]:=by
 cases r with
 | nil=>simp
 | cons _ _=>simp
theorem FP:gK X (binaryOp .Add) (GD X.K):=by
 intro N8 s σ H x y v u Q I rx ry h
 obtain⟨a,b,xs,ys,rfl,rfl,ha,hb,hx,hz,q1,q2⟩:=h
 cases rx
 cases ry
 obtain⟨Ob,r1,p1,_⟩:=I.tuple ha
 obtain⟨P_,r2,p2,_⟩:=I.tuple hb
 refine HT.FU p1 p2 (λz=>hx (r1.m9.mp z)) (λz=>⟨.ref a,H,I,rfl,q1 (r2.m9.mp z)⟩) (λz=>?_) (by rw[← r1.length,← r2.length];exact hz)
 refine⟨.ref s.heap.objs.size,_,I.laid (t':=s.toks) (o:=.tup (xs++ys)) (λb ob q=>Heap.get?_push_of_some _ q) (Nat.le_refl _) ?_,rfl,q2 (λw=>z (r2.m9.mpr w)) _ (I.bC.fresh (Nat.le_refl _))⟩
 exact⟨by rw[List.length_append];exact hz,_,r1.append r2,IsTup.new _ _⟩
end
end L2
namespace L2
open PySem PySem.Spec PyProof.Rows
def Bj(n:Nat)(i:Int):Option Nat:=if 0<=i then (if i<n then some i.toNat else none) else if -(n:Int)<=i then some (i+n).toNat else none
def vK{α:Type}(xs:List α)(i:Int):Option α:=(Bj xs.length i).bind λj=>xs[j]?
theorem zC{n:Nat}{i:Int}{j:Nat}(h:Bj n i=some j):seqIndex? i n=some j/\j<n/\-(n:Int)<=i/\i<n:=by
 unfold Bj at h
 by_cases h0:0<=i
 ·rw[if_pos h0] at h
  by_cases h1:i<n
  ·rw[if_pos h1] at h
   have e:i.toNat=j:=Option.some.inj h
   exact⟨by rw[seqIndex_of h0 h1,e],by omega,by omega,h1⟩
  ·rw[if_neg h1] at h;cases h
 ·rw[if_neg h0] at h
  by_cases h1:-(n:Int)<=i
  ·rw[if_pos h1] at h
   have e:(i+n).toNat=j:=Option.some.inj h
   exact⟨by rw[seqIndex_neg (by omega) h1,e],by omega,h1,by omega⟩
  ·rw[if_neg h1] at h;cases h
theorem vD{α:Type}{xs:List α}{i:Int}{v:α}(h:vK xs i=some v):∃ j,seqIndex? i xs.length=some j/\xs[j]?=some v/\j<xs.length/\-(xs.length:Int)<=i/\i<xs.length:=by
 unfold vK at h
 cases e:Bj xs.length i with
 | none=>rw[e] at h;cases h
 | some j =>
  rw[e] at h
  obtain⟨h1,h2,h3,h4⟩:=zC e
  exact⟨j,h1,h,h2,h3,h4⟩
theorem vj{α:Type}{xs:List α}{j:Nat}{v:α}(h:xs[j]?=some v):vK xs (j:Int)=some v:=by
 have hj:j<xs.length:=(List.getElem?_eq_some_iff.mp h).1
 have e:Bj xs.length (j:Int)=some j:=by
  unfold Bj
  rw[if_pos (by omega),if_pos (by omega)];simp
 unfold vK;rw[e];exact h
def vk(b:Expr):Prop:=∀ o i,subscripted b false o i=operate [o,i] (getItem o i)
def EB(X:Cx)(r:R2):Prop :=
 ∀ (value slice:Expr) (N8:List (Addr×Obj)) (s:Shared) (σ:St) (H:Hp) (x y:V) (v u:Value) (Q:VK),Inv X N8 σ H s->RelV x v->RelV y u->r x y H Q ->
  subscripted slice false v u=operate [v,u] (getItem v u)->wpAny (model X.prog X.w) X.A (subscriptTail value slice v u) (EP X N8 σ Q) X.xe s
def Nx(X:Cx)(id:String)(r:V->List V->Hp->VK->Prop):Prop :=
 ∀ (N8:List (Addr×Obj)) (s:Shared) (σ:St) (H:Hp) (x:V) (xs:List V) (v:Value) (us:List Value) (Q:VK),Inv X N8 σ H s->RelV x v->Vals xs us->r x xs H Q ->
  wpAny (model X.prog X.w) X.A (call (.builtin id) (v::us)) (EP X N8 σ Q) X.xe s
section
variable{X:Cx}{a b:Expr}{ta tb:TE}{pos:Pos}
theorem EB.or{r r':R2}(h:EB X r)(h':EB X r'):EB X (λx y H Q=>r x y H Q\/r' x y H Q):=by
 intro value slice N8 s σ H x y v u Q I rx ry q hs
 rcases q with q | q
 ·exact h value slice N8 s σ H x y v u Q I rx ry q hs
 ·exact h' value slice N8 s σ H x y v u Q I rx ry q hs
theorem K3{r:R2}(hr:EB X r)(ha:PE X a ta)(hb:PE X b tb)(hs:vk b):PE X (.Subscript a b pos) (K6 r ta tb):=by
 intro N8 s σ H Q I h
 exact Subscript_ (HN ha hb I h λv u s2 x y H2 I2 rx ry q=>hr a b N8 s2 σ H2 x y v u Q I2 rx ry q (hs _ _))
def K2(K:PySem.W.Frag):R2:=λx y H Q=>∃ p xs i v,x=.ref p/\y=.int i/\iS K H p xs/\vK xs i=some v/\Q v H
def Ky(K:PySem.W.Frag):R2:=λx y H Q=>∃ p xs i v,x=.ref p/\y=.int i/\iF K H p xs/\vK xs i=some v/\Q v H
def Kt:R2:=λx y H Q=>∃ z i c,x=.str z/\y=.int i/\z.length<=sizeLine/\vK z.cps.toList i=some c/\Q (.str ⟨#[c]⟩) H
theorem FK:EB X (K2 X.K):=by
 intro value slice N8 s σ H x y v u Q I rx ry h hs
 obtain⟨p,xs,i,z,rfl,rfl,hq,he,q⟩:=h
 cases rx
 obtain⟨t,rfl⟩:=ry
 obtain⟨Ob,r,pl,hz⟩:=I.list hq
 obtain⟨j,h1,h2,h3,h4,h5⟩:=vD he
 obtain⟨w,ew,P7⟩:=r.get h2
 have hl:=r.length
 have hn:=oz
 have fin:EP X N8 σ Q w s:=⟨z,H,I,P7,q⟩
 by_cases h0:0<=i
 ·have hj:i.toNat=j:=by
   rw[seqIndex_of h0 h5] at h1
   exact Option.some.inj h1
  exact item_listR pl.isList h0 (by omega) (by rw[hj];simpa using ew) fin hs
 ·have hj:(i+(Ob.toArray.size:Int)).toNat=j:=by
   rw[seqIndex_neg (by omega) h4] at h1
   rw[List.size_toArray,← hl]
   exact Option.some.inj h1
  exact subscriptTail_builtinR (x:=w) pl.isList.typeIs slot_list_getitem.lookup
   (wpAny_getItem_list_neg (Q:=λr s'=>r=w/\EP X N8 σ Q r s') pl.isList (by omega) (by rw[List.size_toArray] <;> omega) (by omega) (by rw[hj];simpa using ew) ⟨rfl,fin⟩) hs
theorem Hk:EB X (Ky X.K):=by
 intro value slice N8 s σ H x y v u Q I rx ry h hs
 obtain⟨p,xs,i,z,rfl,rfl,hq,he,q⟩:=h
 cases rx
 obtain⟨t,rfl⟩:=ry
 obtain⟨Ob,r,pl,hz⟩:=I.tuple hq
 obtain⟨j,h1,h2,h3,h4,h5⟩:=vD he
 obtain⟨w,ew,P7⟩:=r.get h2
 have hl:=r.length
 have hn:=oz
 have fin:EP X N8 σ Q w s:=⟨z,H,I,P7,q⟩
 exact subscriptTail_builtinR (x:=w) pl.typeIs slot_tuple_getitem.lookup
  (getItem_tuple (j:=j) (Q:=λr s'=>r=w/\EP X N8 σ Q r s') pl (by omega) (by omega) (by rw[List.size_toArray,← hl];exact h1) (by simpa using ew) ⟨rfl,fin⟩) hs
theorem Iw:EB X Kt:=by
 intro value slice N8 s σ H x y v u Q I rx ry h hs
 obtain⟨z,i,c,rfl,rfl,hz,he,q⟩:=h
 obtain⟨t,rfl⟩:=rx
 obtain⟨t',rfl⟩:=ry
 obtain⟨j,h1,h2,h3,h4,h5⟩:=vD he
 have hl:z.cps.toList.length=z.length:=by simp[Str.length]
 rw[hl] at h1 h4 h5
 have hn:=oz
 exact tail_any (typeIs_str s z t) slot_str_getitem.lookup (getItem_str (c:=c) (by
  have e1:decide (i < -(2^63:Int))=false:=decide_eq_false (by omega)
  have e2:decide (i>=2^63)=false:=decide_eq_false (by omega)
  rw[e1,e2,Bool.or_false]) (by rw[h1];simpa using h2) ⟨.str ⟨#[c]⟩,H,I.tok _,⟨_,rfl⟩,q⟩) hs
def Nu(K:PySem.W.Frag):R2:=λx y H Q=>K2 K x y H Q\/Ky K x y H Q\/Kt x y H Q
theorem Jz:EB X (Nu X.K):=FK.or (Hk.or Iw)
theorem yO(Ob:List Value)(n j:Nat)(u:Value):Obj.mapSeq (·.setIfInBounds j u) { cls:=.type "list", data:=.seq Ob.toArray n }={ cls:=.type "list", data:=.seq (Ob.set j u).toArray n }:=by
 simp[Obj.mapSeq]
theorem Inv.lst{N8:List (Addr×Obj)}{σ:St}{H:Hp}{s:Shared}{p:Addr}{xs:List V}(I:Inv X N8 σ H s)(h:H p=some (.lst xs)) :
  ∃ (Ob:List Value) (n:Nat),Vals xs Ob/\s.heap.get? p=some { cls:=.type "list", data:=.seq Ob.toArray n }/\xs.length<=sizeLine:=by
 obtain⟨z,Ob,n,r,e⟩:=I.bC p _ h
 exact⟨Ob,n,r,e,z⟩
theorem Inv.HF{N8:List (Addr×Obj)}{σ:St}{H:Hp}{s:Shared}{p:Addr}{xs ys:List V}{Ob its':List Value}{n n':Nat}{f:Obj->Obj}(I:Inv X N8 σ H s)(h:H p=some (.lst xs))
  (ho:s.heap.get? p=some { cls:=.type "list", data:=.seq Ob.toArray n }) (hf:f { cls:=.type "list", data:=.seq Ob.toArray n }={ cls:=.type "list", data:=.seq its'.toArray n' }) (r:Vals ys its') (hz:ys.length<=sizeLine) (t:Nat) :
  Inv X N8 σ (upd H p (.lst ys)) { s with heap:=s.heap.update p f,toks:=t }:=by
 have e:(s.heap.update p f).get? p=some { cls:=.type "list", data:=.seq its'.toArray n' }:=by
  rw[Heap.get?_update_self f ho (by rw[hf] <;> rfl),hf]
 refine I.write (x:=p) (e:=p) (by rw[h];trivial) (.inl rfl) (λb u hb q=>(Heap.get?_update_other _ _ (Ne.symm hb)).trans q) ⟨_,e⟩ ?_
 exact⟨hz,its',n',r,e⟩
def K8:V->V->V->Hp->(Hp->Prop)->Prop:=λo i v H Q=>∃ p xs k j,o=.ref p/\i=.int k/\H p=some (.lst xs)/\Bj xs.length k=some j/\Q (upd H p (.lst (xs.set j v)))
theorem set_list:Lz X K8:=by
 intro N8 s σ H o i v ov iv u Q I ro ri rv h
 obtain⟨p,xs,k,j,rfl,rfl,hp,hj,q⟩:=h
 cases ro
 obtain⟨t,rfl⟩:=ri
 obtain⟨Ob,n,r,ho,hz⟩:=I.lst hp
 obtain⟨h1,h2,h3,h4⟩:=zC hj
 have hl:=r.length
 have hn:=oz
 have I':Inv X N8 σ (upd H p (.lst (xs.set j v))) { s with heap:=s.heap.update p (Obj.mapSeq (·.setIfInBounds j u)) } :=
  I.HF hp ho (yO Ob n j u) (r.set rv j) (by rw[List.length_set];exact hz) s.toks
 by_cases h0:0<=k
 ·have hk:k.toNat=j:=by
   rw[seqIndex_of h0 h4] at h1
   exact Option.some.inj h1
  exact PySem.W.ki_setAt ho h0 (by omega) (by rw[List.size_toArray,← hl];exact h4) (by rw[hk];exact⟨_,I',q⟩)
 ·have hk:(k+(Ob.toArray.size:Int)).toNat=j:=by
   rw[seqIndex_neg (by omega) h3] at h1
   rw[List.size_toArray,← hl]
   exact Option.some.inj h1
  exact PySem.W.ki_setBack ho (by omega) (by rw[List.size_toArray,← hl];exact h3) (by omega) (by rw[hk];exact⟨_,I',q⟩)
theorem ve(lo hi:Option Int)(n:Nat):(sliceBounds lo hi none n).1=((HT.dF n 0 lo:Nat):Int)/\(sliceBounds lo hi none n).2.1=((HT.dF n n hi:Nat):Int)/\(sliceBounds lo hi none n).2.2=1:=by
 refine⟨?_,?_,rfl⟩
 ·cases lo with
  | none=>simp[sliceBounds,HT.dF]
  | some i =>
   simp only[sliceBounds,HT.dF,Option.getD_none,show (1:Int)>0 by decide,if_true]
   by_cases h:i<0
   ·simp only[h,if_true] <;> omega
   ·simp only[h,if_false] <;> omega
 ·cases hi with
  | none=>simp[sliceBounds,HT.dF]
  | some i =>
   simp only[sliceBounds,HT.dF,Option.getD_none,show (1:Int)>0 by decide,if_true]
   by_cases h:i<0
   ·simp only[h,if_true] <;> omega
   ·simp only[h,if_false] <;> omega
theorem sC(Ob:List Value)(lo hi:Option Int):slicePick Ob.toArray lo hi none=((Ob.drop (HT.dF Ob.length 0 lo)).take (HT.dF Ob.length Ob.length hi-HT.dF Ob.length 0 lo)).toArray:=by
 obtain⟨h1,h2,h3⟩:=ve lo hi Ob.toArray.size
 unfold slicePick
 rw[h1,h2,h3]
 simp only[sliceRange_one,pick_run,List.size_toArray] <;> rfl
def M_(K:PySem.W.Frag):V->Option Int->Option Int->Hp->VK->Prop:=λx lo hi H Q=>∃ a xs,x=.ref a/\iS K H a xs/\∀ p,H p=none->Q (.ref p) (upd H p (.lst (vU xs lo hi)))
theorem FL:D7 X (M_ X.K):=by
 intro N8 s σ H x v vl vu lo hi sl Q I rx hs pl pu h
 obtain⟨a,xs,rfl,hx,q⟩:=h
 cases rx
 obtain⟨Ob,r,ht,hz⟩:=I.list hx
 have hlen:=r.length
 refine⟨"list", _,slot_list_getitem.lookup,ht.isList.typeIs,?_⟩
 refine wpAny_getItem_list_slice ht.isList hs pl pu .none (by simp) ?_ (by rw[List.size_toArray] <;> omega)
 rw[sC,← hlen]
 refine⟨.ref s.heap.objs.size,_,I.laid (t':=s.toks) (o:=.lst (vU xs lo hi)) (λb ob q=>Heap.get?_push_of_some _ q) (Nat.le_refl _) ?_,rfl,q _ (I.bC.fresh (Nat.le_refl _))⟩
 exact⟨Nat.le_trans (oW xs lo hi) hz,_,0,(r.drop (HT.dF xs.length 0 lo)).take (HT.dF xs.length xs.length hi-HT.dF xs.length 0 lo),Heap.get?_push_size _ rfl⟩
theorem vC:dC X (.builtin "len") (λxs H Q=>∃ p ys,xs=[.ref p]/\(iS X.K H p ys\/iF X.K H p ys)/\Q (.int ys.length) H):=by
 intro N8 s σ H xs us Q I r h
 obtain⟨p,ys,rfl,hq,q⟩:=h
 obtain⟨u,rfl,rx⟩:=vals1 r
 cases rx
 have hn:=oz
 rcases hq with hq | hq
 ·obtain⟨Ob,r',pl,hz⟩:=I.list hq
  have hlen:=r'.length
  exact Calls.call_len_list pl.isList (by simp only[List.size_toArray] <;> omega) ⟨.int ys.length,H,I.tok _,⟨s.toks+1,by rw[List.size_toArray,hlen]⟩,q⟩
 ·obtain⟨Ob,r',pl,hz⟩:=I.tuple hq
  have hlen:=r'.length
  exact len_tuple pl (by simp only[List.size_toArray] <;> omega) ⟨.int ys.length,H,I.tok _,⟨s.toks+1,by rw[List.size_toArray,hlen]⟩,q⟩
theorem uo:dC X (.builtin "len") (λxs H Q=>∃ z,xs=[.str z]/\z.length<=sizeLine/\Q (.int z.length) H):=by
 intro N8 s σ H xs us Q I r h
 obtain⟨z,rfl,hz,q⟩:=h
 obtain⟨u,rfl,t,rfl⟩:=vals1 r
 have hn:=oz
 exact len_str (by omega) ⟨.int z.length,H,I.tok _,⟨_,rfl⟩,q⟩
theorem dC.or{f:Value}{r r':List V->Hp->VK->Prop}(h:dC X f r)(h':dC X f r'):dC X f (λxs H Q=>r xs H Q\/r' xs H Q):=by
 intro N8 s σ H xs us Q I rs q
 rcases q with q | q
 ·exact h N8 s σ H xs us Q I rs q
 ·exact h' N8 s σ H xs us Q I rs q
theorem vn:dC X (.type "list") (λxs H Q=>∃ p ys,xs=[.ref p]/\(iS X.K H p ys\/iF X.K H p ys)/\∀ l,H l=none->Q (.ref l) (upd H l (.lst ys))):=by
 intro N8 s σ H xs us Q I r h
 obtain⟨p,ys,rfl,hq,q⟩:=h
 obtain⟨u,rfl,rx⟩:=vals1 r
 cases rx
 have fin:∀ (Ob:List Value),Vals ys Ob->ys.length<=sizeLine->∀ (h':Heap) (c':Nat),(∀ b o',s.heap.get? b=some o'->h'.get? b=some o') ->
   h'.get? s.heap.objs.size=some { cls:=.type "list", dict:=none,data:=.seq Ob.toArray c',slots:=#[] }->EP X N8 σ Q (.ref s.heap.objs.size) { s with heap:=h' }:=λOb r' hz h' c' kp e =>
  ⟨.ref s.heap.objs.size,_,I.laid (t':=s.toks) kp (Nat.le_refl _) (show cp X.prog X.w _ h' _ (.lst ys) from ⟨hz,Ob,c',r',e⟩),rfl,q _ (I.bC.fresh (Nat.le_refl _))⟩
 rcases hq with hq | hq
 ·obtain⟨Ob,r',pl,hz⟩:=I.list hq
  have hlen:=r'.length
  obtain⟨o,ho,hc,n,hd⟩:=pl.isList
  exact call_list_seq p (.inl rfl) ho hc hd (λh' c' kp e=>fin Ob r' hz h' c' kp e) (by simp only[List.size_toArray] <;> omega)
 ·obtain⟨Ob,r',pl,hz⟩:=I.tuple hq
  have hlen:=r'.length
  obtain⟨o,ho,hc,n,hd⟩:=pl
  exact call_list_seq p (.inr rfl) ho hc hd (λh' c' kp e=>fin Ob r' hz h' c' kp e) (by simp only[List.size_toArray] <;> omega)
theorem sW:dC X (.type "tuple") (λxs H Q=>∃ p ys,xs=[.ref p]/\((iS X.K H p ys/\∀ l,H l=none->Q (.ref l) (upd H l (.tup ys)))\/(iF X.K H p ys/\Q (.ref p) H))):=by
 intro N8 s σ H xs us Q I r h
 obtain⟨p,ys,rfl,h⟩:=h
 obtain⟨u,rfl,rx⟩:=vals1 r
 cases rx
 rcases h with ⟨hq,q⟩ | ⟨hq,q⟩
 ·obtain⟨Ob,r',pl,hz⟩:=I.list hq
  have hlen:=r'.length
  refine call_tuple_list pl.isList (λh' kp=>?_) (by simp only[List.size_toArray] <;> omega)
  have I1:Inv X N8 σ H { s with heap:=h' }:=I.kept (t':=s.toks) kp
  have I2:Inv X N8 σ (upd H h'.objs.size (.tup ys)) { s with heap:=h'.push { cls:=.type "tuple", data:=.seq Ob.toArray } } :=
   I1.laid (t':=s.toks) (λb o e=>Heap.get?_push_of_some _ e) (Nat.le_refl _) (show cp X.prog X.w _ _ _ (.tup ys) from ⟨hz,Ob,r',IsTup.new _ _⟩)
  exact⟨.ref h'.objs.size,_,I2,rfl,q _ (I1.bC.fresh (Nat.le_refl _))⟩
 ·obtain⟨Ob,r',pl,hz⟩:=I.tuple hq
  exact call_tuple_same pl ⟨.ref p,H,I,rfl,q⟩
def ND(K:PySem.W.Frag)(T:String)(x:V)(H:Hp):Prop:=match x with
 | .str _=>T = "str"
 | .int _=>T = "int"
 | .ref p=>(T = "list" /\ ∃ xs,iS K H p xs)\/(T = "tuple" /\ ∃ o,K.lookup p=some o/\o.cls=.type "tuple" /\ o.dict=none) ∨
   (T = "dict" /\ ((∃ O_,H p=some (.dK O_))\/∃ O_,H p=some (.dT O_)))\/(T = "set" /\ ∃ S n,H p=some (.set S n))
 | _=>False
theorem IZ{N8:List (Addr×Obj)}{σ:St}{H:Hp}{s:Shared}{T:String}{x:V}{v:Value}(I:Inv X N8 σ H s)(r:RelV x v)(ty:ND X.K T x H) :
  s.TypeIs v T/\∀ a,v=.ref a->∃ ob,s.heap.get? a=some ob/\ob.dict=none:=by
 cases x with
 | str z =>
  obtain⟨t,rfl⟩:=r
  cases (show T = "str" from ty)
  exact⟨typeIs_str s z t,λ_ e=>nomatch e⟩
 | int i =>
  obtain⟨t,rfl⟩:=r
  cases (show T = "int" from ty)
  exact⟨typeIs_int s i t,λ_ e=>nomatch e⟩
 | ref p =>
  cases r
  rcases ty with ⟨rfl,xs,hq⟩ | ⟨rfl,o,hk,hc,hd⟩ | ⟨rfl,hk⟩ | ⟨rfl,S,n,hk⟩
  ·obtain⟨Ob,_,pl,_⟩:=I.list hq
   refine⟨pl.isList.typeIs,λa e=>?_⟩
   cases e
   obtain⟨o,n,e,c,hd,_⟩:=pl
   exact⟨o,e,hd⟩
  ·refine⟨⟨o,I.jZ p o hk,hc⟩,λa e=>?_⟩
   cases e
   exact⟨o,I.jZ _ o hk,hd⟩
  ·have z:∃ o,s.heap.get? p=some o/\o.ExactDict:=by
    rcases hk with ⟨O_,hk⟩ | ⟨O_,hk⟩
    ·obtain⟨_,_,_,_,o,_,_,e,ex,_⟩:=I.bC p _ hk
     exact⟨o,e,ex⟩
    ·obtain⟨_,_,_,_,o,_,_,e,ex,_⟩:=I.bC p _ hk
     exact⟨o,e,ex⟩
   obtain⟨o,e,ex⟩:=z
   refine⟨⟨o,e,ex.1⟩,λa e2=>?_⟩
   cases e2
   exact⟨o,e,ex.2.1⟩
  ·obtain⟨o,_,_,_,e,ex,_⟩:=I.bC p _ hk
   refine⟨⟨o,e,ex.1⟩,λa e2=>?_⟩
   cases e2
   exact⟨o,e,ex.2.1⟩
 | _=>exact False.elim ty
def NQ(K:PySem.W.Frag)(T:String)(r:V->List V->Hp->VK->Prop)(to:TE)(t:TA):TE:=fun σ H Q=>to σ H λx H1=>ND K T x H1/\t σ H1 λxs H2=>r x xs H2 Q
variable{o e:Expr}{es:List Expr}{to:TE}{t:TA}{name:Str}{apos Om:Pos}{T id:String}{r:V->List V->Hp->VK->Prop}
theorem GW(pa:PlainAttrs T)(slot:Slot T name id)(hty:typeOf (.builtin id)=pure (.type "method_descriptor"))(hm:Nx X id r)(ho:PE X o to)(ha:PA X (e::es) t)
  (Qf:attributeBase o name X.env (eval o X.env)=eval o X.env:=by rfl)
  (QJ:((backTo Om (starEach (e::es) X.env)).all (λx=>!x.1)&&(backToKw Om (keywordEach [] X.env)).all (λx=>x.1.isSome)
   && decide ((e::es).length+([]:List Keyword).length+(if ([]:List Keyword).isEmpty then 0 else 1)<30))=true:=by rfl)
  (Qg:(apos.endLine==Om.line)=true:=by rfl) (hs:starEach (e::es) X.env=(false,eval e X.env)::starEach es X.env:=by rfl) (PU:(backTo Om (starEach es X.env)).any (·.1)=false:=by rfl) :
  PE X (.Call (.Attribute o name apos) (e::es) [] Om) (NQ X.K T r to t):=by
 intro N8 s σ H Q I h
 refine wpAny_Call_method_late Qf QJ Qg rfl (cB (ho N8 s σ H _ I h) λv s1 ⟨x,H1,I1,r1,ty,q1⟩=>?_)
 obtain⟨h1,h2⟩:=IZ I1 r1 ty
 refine⟨T,id,pa,slot,hty,h1,h2,?_⟩
 have hA:=ha Om N8 s1 σ H1 _ I1 q1
 rw[hs] at hA ⊢
 refine Calls.callWith_builtin (by show (false||(backTo Om (starEach es X.env)).any (·.1))=false;rw[PU] <;> rfl) (Calls.evalArgs_plain ?_)
 exact cB hA λus s2 ⟨vs,H2,I2,r2,q2⟩=>hm N8 s2 σ H2 x vs v us Q I2 r1 r2 q2
end
end L2
namespace L2
open PySem PySem.Spec PyProof.Rows
def NT(X:Cx)(id:String)(r:V->List V->Hp->VK->Prop):Prop :=
 ∀ (N8:List (Addr×Obj)) (s:Shared) (σ:St) (H:Hp) (x:V) (xs:List V) (v:Value) (us:List Value) (Q:VK),Inv X N8 σ H s->RelV x v->Vals xs us->r x xs H Q ->
  wpAny (model X.prog X.w) X.A (call (.builtin id) (v::us)) (EP X N8 σ Q) X.xe s
theorem Vals.one:∀ {x:V} {us:List Value},Vals [x] us->∃ u,us=[u]/\RelV x u
 | _,_,.cons r .nil=>⟨_,rfl,r⟩
theorem Vals.rep{xs:List V}{us:List Value}(h:Vals xs us):∀ k:Nat,Vals (List.replicate k xs).flatten (List.replicate k us).flatten
 | 0=>.nil
 | k+1=>by
  rw[List.replicate_succ,List.replicate_succ,List.flatten_cons,List.flatten_cons]
  exact Vals.append h (Vals.rep h k)
theorem foldl_rep(Ob:List Value):∀ (k:Nat) (acc:List Value),
  List.foldl (λx1 x2=>x1++x2) acc.toArray (List.replicate k Ob.toArray)=(acc++(List.replicate k Ob).flatten).toArray
 | 0,acc=>by simp
 | k+1,acc=>by
  have e:acc.toArray++Ob.toArray=(acc++Ob).toArray:=by simp
  have e2:(acc++Ob)++(List.replicate k Ob).flatten=acc++(List.replicate (k+1) Ob).flatten:=by
   rw[List.replicate_succ,List.flatten_cons,List.append_assoc]
  rw[← e2,← foldl_rep Ob k (acc++Ob),← e,List.replicate_succ,List.foldl_cons]
section
variable{X:Cx}{N8:List (Addr×Obj)}{σ:St}{H:Hp}{s:Shared}{l b:Addr}{xs ys zs:List V}
theorem Inv.M7{Ob its':List Value}{n:Nat}{f:Array Value->Array Value}{t':Nat}(I:Inv X N8 σ H s)(hH:H l=some (.lst xs))
  (e:s.heap.get? l=some { cls:=.type "list", data:=.seq Ob.toArray n }) (hf:f Ob.toArray=its'.toArray) (hv:Vals ys its') (hz:ys.length<=sizeLine) :
  Inv X N8 σ (upd H l (.lst ys)) { s with heap:=s.heap.update l (Obj.mapSeq f),toks:=t' }:=by
 have q:=PySem.IsL.update e f
 rw[hf] at q
 refine I.write (x:=l) (e:=l) (by rw[hH];exact trivial) (.inl rfl) (λb' u hb hu=>(Heap.get?_update_other s.heap (Obj.mapSeq f) (Ne.symm hb)).trans hu) ⟨_,q⟩ ?_
 exact⟨hz,its',_,hv,q⟩
theorem Inv.Ly{Ob:List Value}{t':Nat}(I:Inv X N8 σ H s)(hv:Vals ys Ob)(hz:ys.length<=sizeLine) :
  Inv X N8 σ (upd H s.heap.objs.size (.lst ys)) { s with heap:=s.heap.push { cls:=.type "list", data:=.seq Ob.toArray },toks:=t' } :=
 I.laid (λ_ _ q=>Heap.get?_push_of_some _ q) (Nat.le_refl _) ⟨hz,Ob,0,hv,Heap.get?_push_size _ rfl⟩
theorem Inv.fresh(I:Inv X N8 σ H s):H s.heap.objs.size=none:=I.bC.fresh (Nat.le_refl _)
theorem Inv.FF(I:Inv X N8 σ H s)(hH:H l=some (.lst xs)):xs.length<=sizeLine/\∃ (Ob:List Value) (n:Nat),Vals xs Ob/\xs.length=Ob.length/\s.heap.get? l=some { cls:=.type "list", data:=.seq Ob.toArray n }:=by
 obtain⟨z,Ob,n,r,e⟩:=I.bC l _ hH
 exact⟨z,Ob,n,r,r.length,e⟩
theorem C2{n:Nat}(h:n<=sizeLine):Builtin.List.listTooLong n=false:=by
 unfold Builtin.List.listTooLong
 exact decide_eq_false (by omega)
end
section
variable{X:Cx}
def Fn:V->List V->Hp->VK->Prop:=λx vs H Q=>∃ l xs y,x=.ref l/\vs=[y]/\H l=some (.lst xs)/\xs.length<sizeLine/\Q .b_ (upd H l (.lst (xs++[y])))
theorem t_:NT X "list.append" Fn:=by
 intro N8 s σ H x vs v us Q I rx rv h
 obtain⟨l,xs,y,rfl,rfl,hH,hz,q⟩:=h
 cases rx
 obtain⟨u,rfl,ru⟩:=rv.one
 obtain⟨z,Ob,n,r,hl,e⟩:=I.FF hH
 refine call_meets F.slot_list_append ⟨_,e,rfl⟩ F.entry_list_append (F.args_list_append_2 _ _) (PySem.list_append l Ob.toArray n u (by rw[List.size_toArray];omega)) ⟨e,?_⟩
 refine⟨.b_,_,I.M7 (its':=Ob++[u]) hH e (by simp) (r.append (.cons ru .nil)) ?_,rfl,q⟩
 rw[List.length_append,List.length_singleton]
 omega
def J7:R2:=λx y H Q=>∃ l b xs zs,x=.ref l/\y=.ref b/\H l=some (.lst xs)/\H b=some (.lst zs)/\xs.length+zs.length<=sizeLine/\∀ p,H p=none->Q (.ref p) (upd H p (.lst (xs++zs)))
theorem IQ:gK X (binaryOp .Add) J7:=by
 intro N8 s σ H x y v u Q I rx ry h
 obtain⟨l,b,xs,zs,rfl,rfl,hH,hB,hz,q⟩:=h
 cases rx
 cases ry
 obtain⟨z,Ob,n,r,hl,e⟩:=I.FF hH
 obtain⟨z2,P_,n2,r2,PF,e2⟩:=I.FF hB
 refine PySem.P.add_list e e2 ?_ (by rw[List.size_toArray,List.size_toArray];omega)
 have ea:Ob.toArray++P_.toArray=(Ob++P_).toArray:=by simp
 rw[ea]
 exact⟨.ref _,_,I.Ly (t':=s.toks) (r.append r2) (by rw[List.length_append];omega),rfl,q _ I.fresh⟩
def Ks:R2:=λx y H Q=>∃ l k xs,x=.ref l/\y=.int k/\H l=some (.lst xs)/\-(2^63)<=k/\k<2^63/\xs.length*k.toNat<=sizeLine ∧
 ∀ p,H p=none->Q (.ref p) (upd H p (.lst (List.replicate k.toNat xs).flatten))
theorem len_rep{α:Type}(xs:List α)(k:Nat):(List.replicate k xs).flatten.length=k*xs.length:=by
 induction k with
 | zero=>simp
 | succ k ih=>rw[List.replicate_succ,List.flatten_cons,List.length_append,ih,Nat.succ_mul,Nat.add_comm]
theorem CP:gK X (binaryOp .Mult) Ks:=by
 intro N8 s σ H x y v u Q I rx ry h
 obtain⟨l,k,xs,rfl,rfl,hH,h1,h2,hz,q⟩:=h
 cases rx
 obtain⟨t,rfl⟩:=ry
 obtain⟨z,Ob,n,r,hl,e⟩:=I.FF hH
 have hlen:Ob.toArray.size*k.toNat<=sizeLine:=by rw[List.size_toArray,← hl];exact hz
 have hcap:¬ Ob.toArray.size*k.toNat>(2^63-1)/8:=by
  have:(sizeLine:Nat)<=(2^63-1)/8:=by decide
  omega
 have hfit:¬ (!Builtin.List.listFitsIndex k)=true:=by
  rw[fitsIndex_both h1 h2]
  exact Bool.false_ne_true
 have RP:¬ Builtin.List.listTooLong (Ob.toArray.size*k.toNat)=true:=by
  rw[C2 hlen]
  exact Bool.false_ne_true
 have PH:List.foldl (λx1 x2=>x1++x2) #[] (List.replicate (if Ob.toArray.isEmpty=true then 0 else k.toNat) Ob.toArray)=(List.replicate k.toNat Ob).flatten.toArray:=by
  have f0:∀ m:Nat,List.foldl (λx1 x2=>x1++x2) #[] (List.replicate m Ob.toArray)=(List.replicate m Ob).flatten.toArray:=λm=>by
   have:=foldl_rep Ob m []
   rw[List.nil_append] at this
   exact this
  rw[f0]
  cases Ob with
  | nil=>simp
  | cons a r'=>rw[if_neg (by simp)]
 refine wpAny_binaryOp_repeat_ref (T := "list") (U := "int") (by decide) ⟨_,e,rfl⟩ (λs'=>typeIs_int s' k t) noFill_list_mul F.fills_int_mul F.slot_int_rmul repeat_list F.slot_int_index.lookup
  (call_meets F.slot_int_rmul (typeIs_int s k t) F.entry_int_rmul (F.args_int_rmul_2 _ _) (int___rmul___int_list k t l Ob.toArray n)
   ⟨e,rfl,⟨_,e,rfl⟩,call_meets F.slot_list_mul ⟨_,e,rfl⟩ F.entry_list_mul (F.args_list_mul_2 _ _) (AutoListH.list___mul___list_int_3 l Ob.toArray n k t hfit hcap RP) ⟨e,?_⟩⟩)
 rw[PH]
 exact⟨.ref _,_,I.Ly (t':=s.toks) (r.rep k.toNat) (by rw[len_rep,Nat.mul_comm];exact hz),rfl,q _ I.fresh⟩
end
section
variable{prog:Program}{w:World}{A:Around}{E:Value->Shared->Prop}{s:Shared}
end
section
variable{X:Cx}
end
end L2
namespace L2
open PySem PySem.Spec PyProof.Rows
section
variable{κ:Type}[DecidableEq κ]
end
section
variable{P:Program}{w:World}{H:Hp}{h:Heap}{a:Addr}
end
section
variable{X:Cx}{N8:List (Addr×Obj)}{σ:St}{H:Hp}{s:Shared}{a:Addr}{y v:V}{u r:Value}{o:Option V}{A:Around}{E:Value->Shared->Prop}
end
section
variable{X:Cx}{N8:List (Addr×Obj)}{σ:St}{H:Hp}{s:Shared}{a:Addr}{O_:List (Key×V)}{k:Key}{u:Value}{A:Around}{E:Value->Shared->Prop}
end
section
variable{X:Cx}{o i e value:Expr}{pos pos' tpos:Pos}{td ty tv:TE}
end
section
variable{X:Cx}{pos:Pos}
end
section
variable{X:Cx}{N8:List (Addr×Obj)}{σ:St}{H:Hp}{s:Shared}{a:Addr}{y d:V}{u r:Value}{o:Option V}{A:Around}{E:Value->Shared->Prop}
end
section
variable{X:Cx}{o e f:Expr}{apos Om:Pos}{td ty tx:TE}
end
section
variable{X:Cx}{N8:List (Addr×Obj)}{σ:St}{H:Hp}{s:Shared}{a:Addr}{O_:List (Key×V)}{A:Around}{E:Value->Shared->Prop}
end
section
variable{X:Cx}{N8:List (Addr×Obj)}{σ:St}{H:Hp}{s:Shared}{a:Addr}{y:V}{u:Value}{A:Around}{E:Value->Shared->Prop}
end
end L2
namespace Att
open PySem PySem.W PySem.Calls PyProof.Rows
theorem pO{P:Params}{h:Heap}:∀ (ns:List Int) (vs:List Value),WellAll P h vs (ns.map WData.int)->IntsAre vs ns:=by
 intro ns
 induction ns with
 | nil =>
  intro vs w
  rw[List.map_nil] at w
  cases w
  exact .nil
 | cons n ns ih =>
  intro vs w
  rw[List.map_cons] at w
  cases w with
  | cons a b =>
   cases a
   exact .cons _ _ (ih _ b)
theorem AF{l:OpenLaw}{n:Nat}(hn:l.most=some n){P:Params}{h:Heap}{args:List WData}{vals:List Value}
  (Ad:l.row.toRowW.claim.pre args=true) (hwl:WellAll P h vals args) :
  ∃ a vs ns,vals=[Value.ref a]/\args=[WData.list (ns.map WData.int)]/\h.get? a=some { cls:=.type "list", data:=.seq vs.toArray }/\IntsAre vs ns/\ns.length<=n:=by
 have hsh:WShape.hasAll [] args [.list .int]=true:=(pre_splitW Ad).1
 have hc:l.pre.holds [] { args:=args }=true:=(pre_splitW Ad).2
 obtain⟨d,r,rfl,h1,h2⟩:=hasAllW_cons hsh
 obtain rfl:=hasAllW_nil h2
 obtain⟨xs,rfl,h3⟩:=hasW_list h1
 obtain⟨ns,rfl⟩:=items_int h3
 have hlen:ns.length<=n:=by
  unfold OpenLaw.pre at hc
  have h4:(WTm.not (.lt (.lit (.int (n:Int))) (.len (.arg 0)))).holds [] { args:=[.list (ns.map .int)] }=true:=by
   have h4:=(holds_andW hc).1
   rw[hn] at h4
   exact h4
  have h5:=condW_of h4 (w_not (w_lt w_lit (w_len_list (w_arg rfl))))
  rw[List.length_map] at h5
  refine Nat.le_of_not_lt λq=>?_
  have q':(n:Int)<((ns.length:Nat):Int):=by omega
  first
   | (rw[decide_eq_true q'] at h5;exact absurd h5 (by decide))
   | (simp at h5;omega)
 cases hwl with
 | cons w1 w2 =>
  cases w2
  cases w1 with
  | list ho hall=>exact⟨_,_,ns,rfl,rfl,ho,pO ns _ hall,hlen⟩
theorem AS(l:OpenLaw)(args:List WData):l.row.toRowW.claim.post args (.bool true) args=true :=
 postW_of (r:=l.row.toRowW) (X:=(true==true))
  (show WShape.has [] (.bool true) .bool=true by first | rfl | decide | simp[WShape.has,WShape.arms,WShape.armsAll])
  (show (WTm.eq .res (.lit (.bool true))).value [] { args:=args,res:=some (.bool true),after:=args }=some (.bool (true==true)) from w_eq_bool (w_res rfl) w_lit) rfl
section
variable{prog:Program}{w:World}{A:Around}{E:Value->Shared->Prop}{s:Shared}{K:Frag}
end
end Att
namespace L2
open PySem PySem.Spec PyProof.Rows
theorem sY:∀ {vs:List Value} {ns:List Int},IntsAre vs ns->Vals (ns.map V.int) vs
 | _,_,.nil=>.nil
 | _,_,.cons n t h=>.cons ⟨t,rfl⟩ (sY h)
def KW(H:Hp):Prop:=∀ b,H b=none\/∃ o xs,H b=some (.sE o (.lst xs))
theorem Cw{P:Program}{w:World}{K:PySem.W.Frag}{mg mb:Str->Option Value}{CX:FJ}{k:Nat}{fa a:Addr}{fd:FuncData}{x:Str}{sp:Sp}{s₁:Shared}{vs:List Value}{ns:List Int}
  (KX:K.In s₁.heap) (hns:s₁.heap.Ns mainGlobals mg) (hb:s₁.heap.Ns builtinsNs mb) (Rw:∀ x:Str,x ≠ "__name__" -> mb x=bootBuiltins x) (hlim:s₁.heap.NoLimit) (hg:s₁.gens=#[])
  (ha:s₁.heap.get? a=some { cls:=.type "list", data:=.seq vs.toArray }) (hi:IntsAre vs ns) (hl:ns.length<=sizeLine) (hr:bX k callerA)
  (F:∀ base:Heap,K.In base->base.Ns mainGlobals mg->aI P w K mg base CX k fa fd [x] sp) (RG:∀ (s:Shared) (u:Value),BindsTo s fd ⟨[u],[]⟩ [(x,u)])
  (hsp:∀ H:Hp,KW H->iS K H a (ns.map V.int)->sp [.ref a] H (λv _=>v=.bl true) λ_ _ _=>False)
  (hCX:∀ H e s',CX [] H s₁ (λ_ _ _=>False) e s'->False) :
  codeAny (model P w) callerA (.call (.ref fa) ⟨[.ref a],[]⟩) (λr s'=>r=.ok (.ret (.bool true))/\OldK s₁.heap s'.heap/\s'.os=s₁.os/\AllBare s'.gens) s₁:=by
 have rv:=sY hi
 have lenV:=hi.length
 have core:∀ H:Hp,KW H->iS K H a (ns.map V.int)->oy P w H s₁.heap->(∀ b,H b≠none->b=a)->(H a≠none->K.lookup a=none) ->
   codeAny (model P w) callerA (.call (.ref fa) ⟨[.ref a],[]⟩) (λr s'=>r=.ok (.ret (.bool true))/\OldK s₁.heap s'.heap/\s'.os=s₁.os/\AllBare s'.gens) s₁:=by
  intro H hO hS bC hA hK
  have Qq:∀ {b:Addr} {o:Obj},s₁.heap.get? b=some o->H b=none->(uv s₁.heap H).get? b=some o:=λe n=>B9 e n
  have nR:∀ {b:Addr} {o:Obj} {es:Array DictEntry} {ep:Nat},s₁.heap.get? b=some o->o.data=.dict es ep->H b=none:=λ{b o es ep} e d=>by
   cases q:H b with
   | none=>rfl
   | some u =>
    have e':b=a:=hA b (by rw[q];simp)
    subst e'
    rw[ha] at e;cases e
    have d':Data.seq vs.toArray _=Data.dict es ep:=d
    cases d'
  have nsK:∀ {b:Addr} {m:Str->Option Value},s₁.heap.Ns b m->(uv s₁.heap H).Ns b m:=λ{b m} ⟨o,es,ep,e,d,r⟩=>⟨o,es,ep,Qq e (nR e d),d,r⟩
  have hKb:K.In (uv s₁.heap H):=λb o e=>Qq (KX b o e) (by
   cases q:H b with
   | none=>rfl
   | some u =>
    have e':b=a:=hA b (by rw[q];simp)
    subst e'
    rw[hK (by rw[q];simp)] at e;cases e)
  have hM:Mod K mg (uv s₁.heap H):=⟨hKb,nsK hns,⟨mb,nsK hb,Rw⟩,let ⟨mc,h1,h2⟩:=hlim;⟨mc,nsK h1,h2⟩⟩
  have e0:yB P w K mg (uv s₁.heap H) callerA [] s₁ H:=⟨rfl,hM,λb o e=>FQ e,Nat.le_of_eq (A6 _ _),trivial,λb hb=>absurd (show b∈([]:List Addr) from hb) (by simp),bC,.of_eq hg⟩
  refine codeAny_mono ((F _ hKb (nsK hns)).run callerA [] s₁ H ⟨[.ref a],[]⟩ [.ref a] [.ref a] _ _ hr e0 (RG s₁ (.ref a)) (.cons rfl .nil) (hsp H hO hS)) λr s' h=>?_
  cases r with
  | error e=>exact(hCX H e s' h).elim
  | ok fl =>
   cases fl with
   | next=>exact False.elim h
   | brk=>exact False.elim h
   | cont=>exact False.elim h
   | ret u =>
    obtain⟨v,H',os,bare,un,hok',r',q⟩:=h
    have q':v=.bl true:=q
    subst q'
    obtain rfl:u=Value.bool true:=r'
    refine⟨rfl,OldK.of_keep λb o e=>?_,os,bare⟩
    cases q:H b with
    | none=>exact un.keep b o e q (by intro z;exact absurd (show b∈([]:List Addr) from z) (by simp)) (by simp)
    | some u =>
     rcases hO b with z | ⟨ob,xs,z⟩
     ·rw[q] at z;cases z
     ·have z2:=un.mz b ob _ z
      obtain⟨e1,_⟩:=bC b _ z
      obtain⟨e2,_⟩:=hok' b _ z2
      rw[e] at e1;cases e1
      exact e2
 cases hk:K.lookup a with
 | some o =>
  have e:=KX a o hk
  rw[ha] at e
  cases e
  refine core (λ_=>none) (λ_=>.inl rfl) (.inr ⟨_,vs.toArray,_,hk,rfl,rfl,rfl,by rw[List.size_toArray,lenV];exact hl,by simpa using rv⟩) (λb u z=>by have z':(none:Option HO)=some u:=z;cases z') (λb z=>absurd rfl z) λz=>absurd rfl z
 | none =>
  refine core (λb=>if b=a then some (.sE { cls:=.type "list", data:=.seq vs.toArray } (.lst (ns.map V.int))) else none) (λb=>?_) (.inl (.inr ⟨{ cls:=.type "list", data:=.seq vs.toArray },if_pos rfl⟩)) (λb u z=>?_) (λb z=>?_) λ_=>hk
  ·by_cases hb:b=a
   ·exact .inr ⟨_,_,if_pos hb⟩
   ·exact .inl (if_neg hb)
  ·by_cases hb:b=a
   ·have z':=(if_pos hb).symm.trans z
    cases z'
    subst hb
    exact⟨ha,by rw[List.length_map];exact hl,vs,_,rv,ha⟩
   ·have z':=(if_neg hb).symm.trans z
    cases z'
  ·by_cases hb:b=a
   ·exact hb
   ·exact absurd (if_neg hb) z
end L2
namespace L2
open PySem PySem.Spec PyProof.Rows
end L2
namespace L2
open PySem PySem.Spec PyProof.Rows
def inClass(s:Stmt)(j:Nat):Stmt:=match s with
 | .ClassDef _ _ _ body _ _ _ _ _ _ _=>body.getD j (.Pass ⟨0,0,0,0⟩)
 | _=>.Pass ⟨0,0,0,0⟩
def i7(s:Stmt):Arguments:=match s with
 | .FunctionDef _ a _ _ _ _ _ _ _ _=>a
 | _=>{ posonlyargs:=[],args:=[],vararg:=none,kwonlyargs:=[],kw_defaults:=[],kwarg:=none,defaults:=[] }
def gc(s:Stmt):List Stmt:=match s with
 | .FunctionDef _ _ b _ _ _ _ _ _ _=>b
 | _=>[]
def au(s:Stmt):Scope:=match s with
 | .FunctionDef _ _ _ _ _ _ sc _ _ _=>sc
 | _=>{ kind:=.function,names:=[],isGenerator:=false,isCoroutine:=false }
abbrev E0:XK:=λ_ _ _=>False
section
variable{P:Program}{w:World}{K:PySem.W.Frag}{mg:Str->Option Value}{base:Heap}
end
theorem n5{n:Nat}(h:n<=1000):n<sizeLine:=Nat.lt_of_le_of_lt h (by decide)
section
variable{X:Cx}
end
def bj(H H':Hp):Prop:=∀ b o,H b=some o->H' b=some o
end L2
namespace L2
open PySem PySem.Spec PyProof.Rows
section
variable{X:Cx}
def DB(_ j:Int):Prop:=j≠0/\j.natAbs.log2<9000
theorem BB:gK X (binaryOp .FloorDiv) (rI DB λi j=>.int (i.fdiv j)):=LG λ_ _ _ _ _ _ _ hc q=>floordiv_int hc.1 q (.inl (PyProof.noPylong_of_log2 hc.2))
theorem EI:gK X (binaryOp .Mult) (rI (λi j=>IntMulOk i j) λi j=>.int (i*j)):=LG λ_ _ _ _ _ _ _ hc q=>mul_int q hc
theorem DM{a b:Int}{m n:Nat}(ha:a.natAbs<2^m)(hb:b.natAbs<2^n)(h:m+n<=134217728):IntMulOk a b:=IntMulOk.of_le (intBits_le_iff.mpr ha) (intBits_le_iff.mpr hb) h
theorem x_:bootBuiltins "isinstance" = some (.builtin "isinstance"):=by decide +kernel
theorem vm:bootBuiltins "int" = some (.type "int"):=by decide +kernel
theorem vB:bootBuiltins "bool" = some (.type "bool"):=by decide +kernel
theorem jx:bootBuiltins "tuple" = some (.type "tuple"):=by decide +kernel
theorem zM:bootBuiltins "list" = some (.type "list"):=by decide +kernel
theorem Jp:bootBuiltins "sum" = some (.builtin "sum"):=by decide +kernel
def Nh(K:PySem.W.Frag):List V->Hp->VK->Prop:=λxs H Q=>∃ x T t b,xs=[x,.ty T]/\kC K H x t/\PySem.W.kitOne K t (.type T)=some b/\Q (.bl b) H
def LV(K:PySem.W.Frag):List V->Hp->VK->Prop:=λxs H Q=>∃ x C t b,xs=[x,.ref C]/\kC K H x t/\PySem.W.kitOne K t (.ref C)=some b/\Q (.bl b) H
theorem Dl:dC X (.builtin "isinstance") (Nh X.K):=by
 intro N8 s σ H xs us Q I r h
 obtain⟨x,T,t,b,rfl,ty,e,q⟩:=h
 cases r with
 | cons r1 r2 =>
  cases r2 with
  | cons r3 r4 =>
   cases r4
   cases (show _=Value.type T from r3)
   exact tV I r1 ty e λtk=>⟨.bl b,H,I.tok tk,rfl,q⟩
theorem BV:dC X (.builtin "isinstance") (LV X.K):=by
 intro N8 s σ H xs us Q I r h
 obtain⟨x,C,t,b,rfl,ty,e,q⟩:=h
 cases r with
 | cons r1 r2 =>
  cases r2 with
  | cons r3 r4 =>
   cases r4
   cases (show _=Value.ref C from r3)
   exact tV I r1 ty e λtk=>⟨.bl b,H,I.tok tk,rfl,q⟩
end
section
variable(K:PySem.W.Frag)
end
section
variable{X:Cx}
theorem Inv.lQ{N8:List (Addr×Obj)}{σ:St}{H:Hp}{s:Shared}{h':Heap}{t':Nat}{ch:List Addr}{a:Addr}{o:HO}(I:Inv X N8 σ H s)(k:∀ b u,b ∉ ch->s.heap.get? b=some u->h'.get? b=some u)
  (Qe:∀ b∈ch,nG X N8 H b) (hp:s.heap.objs.size<=a) (hl:∀ b∈ch,∃ u,s.heap.get? b=some u) (new:cp X.prog X.w (upd H a o) h' a o):Inv X N8 σ (upd H a o) { s with heap:=h',toks:=t' }:=by
 have ne:∀ b u,s.heap.get? b=some u->b≠a:=λb u e=>Nat.ne_of_lt (Nat.lt_of_lt_of_le (Heap.lt_size e) hp)
 have QK:H a=none:=I.bC.fresh hp
 have QU:∀ b u,H b=some u->b ∉ ch:=λb u e z=>by rw[(Qe b z).1] at e;cases e
 have QT:∀ b u,H b=some u->b≠a:=λb u e z=>by rw[z,QK] at e;cases e
 refine I.step (g':=s.gens) (d':=s.drawn) (ch:=ch) (λb hb=>?_) (λb u _ _ hc e _=>k b u hc e) (λb u _ _ hc e _=>⟨u.slots,k b u hc e⟩)
  (λb u _ e n=>by rw[ax (ne b u e)];exact n) (λb u hc e=>⟨u,k b u hc e⟩)
  (λb xs e=>by rw[ax (QT b _ e)];exact e) (λb ob u e=>by rw[ax (QT b _ e)];exact e) (λb ps e=>⟨#[],by rw[ax (QT b _ e),e];simp⟩) (λm hm=>?_) (λb u e=>?_) I.bare
 ·obtain⟨_,f1,_,f3,f4,f5⟩:=Qe b hb
  exact⟨f3,f1,f4,f5⟩
 ·obtain⟨ob,es,ep,ho,r⟩:=hm
  exact⟨ob,es,ep,k _ ob (λz=>(Qe _ z).2.1 rfl) ho,r⟩
 ·by_cases z:b=a
  ·subst z
   rw[aE] at e
   cases e
   exact new
  ·rw[ax z] at e
   refine(I.bC b u e).mR (λc v hc q=>k c v ?_ q) (λc q=>?_) λc ys q=>?_
   ·rcases hc with z' | z'
    ·rw[z'];exact QU b u e
    ·exact QU c _ z'
   ·rw[ax (QT c _ q)];exact q
   ·rw[ax (QT c _ q)];exact q
def IW (K : PySem.W.Frag) (a : Addr) : It :=
  ⟨λi H => ∃ xs x, iS K H a xs /\ xs[i]? = some x,
   λi H y H' => ∃ p x, H p = none /\ y = .ref p /\ H' = upd H p (.tup [.int i, x]) /\ ∀ xs, iS K H a xs -> xs[i]? = some x,
   λi H => ∃ xs, iS K H a xs /\ xs.length <= i⟩
theorem Ak{P:Program}{w:World}{K:PySem.W.Frag}{elts:List Expr}{x1:Nat}{tp:Pos}(a e it:Addr)(Qj:e≠it):Turn P w K (.Tuple elts x1 tp) (IW K a) [e,it] e (λi h=>(∃ old,IsEnum h e it i old)/\h.IsListIter it a i) where
 mem:=by simp
 obj:=λi h st b hb=>by
  obtain⟨⟨old,he⟩,⟨o,e1,c,d⟩⟩:=st
  rcases List.mem_cons.mp hb with z | z
  ·subst z
   exact⟨_,he,λv z=>by cases z⟩
  ·have z':b=it:=by simpa using z
   subst z'
   exact⟨o,e1,λv z=>by rw[d] at z;cases z⟩
 keep:=λi h h' st k=>by
  obtain⟨⟨old,he⟩,hit⟩:=st
  exact⟨⟨old,k e (by simp) _ he⟩,hit.at λo x=>k it (by simp) o x⟩
 item:=by
  intro X hP hw hK hc i N8 s σ H E I hf st hg
  subst hP hw hK
  obtain⟨xs,x,hq,hx⟩:=hg
  obtain⟨Ob,rv,p,hz⟩:=I.list hq
  obtain⟨u,hu,ru⟩:=rv.get hx
  obtain⟨⟨old,he⟩,hit⟩:=st
  have QI:e<s.heap.objs.size:=Heap.lt_size he
  have Ri:it<s.heap.objs.size:=by obtain⟨_,z,_⟩:=hit;exact Heap.lt_size z
  refine wpAny_pyNext_enum_item he hit p.isList (x:=u) (by simpa using hu) Qj λh' ho Rj hT PX hk=>⟨_,rfl,?_⟩
  refine wpAny_letOwnedTupleGo_enum (s:={ s with heap:=h',toks:=s.toks+1 }) ho λh2 he2 PK=>?_
  have QR:∀ b o,b ∉ [e,it]->s.heap.get? b=some o->h2.get? b=some o:=λb o hb q=>by
   have n1:b≠e:=λz=>hb (by simp[z])
   have n2:b≠it:=λz=>hb (by simp[z])
   exact(PK.2 b n1).trans (hk b o n1 n2 q)
  have QZ:h2.get? s.heap.objs.size=some { cls:=.type "tuple", data:=.seq #[.int i s.toks,u] }:=(PK.2 _ (Nat.ne_of_gt QI)).trans hT
  have I2:Inv X N8 σ (upd H s.heap.objs.size (.tup [.int i,x])) { s with heap:=h2,toks:=s.toks+1 } :=
   I.lQ (ch:=[e,it]) QR hf (Nat.le_refl _) (λb hb=>by
    rcases List.mem_cons.mp hb with z | z
    ·subst z;exact⟨_,he⟩
    ·have z':b=it:=by simpa using z
     subst z'
     obtain⟨o,z,_⟩:=hit
     exact⟨o,z⟩)
    ⟨by show 2<=sizeLine;decide,[.int i s.toks,u],.cons ⟨_,rfl⟩ (.cons ru .nil),⟨_,QZ,rfl,_,rfl⟩⟩
  have PH:H s.heap.objs.size=none:=I.bC.fresh (Nat.le_refl _)
  refine⟨.ref s.heap.objs.size,_,I2,rfl,⟨_,x,PH,rfl,rfl,λys hy=>by rw[I.qe hy hq];exact hx⟩,⟨⟨u,by simpa using he2⟩,Rj.at λo z=>(PK.2 it (Ne.symm Qj)).trans z⟩,λb hb=>?_⟩
  have nb:b≠s.heap.objs.size:=by
   rcases List.mem_cons.mp hb with z | z
   ·rw[z];exact Nat.ne_of_lt QI
   ·have z':b=it:=by simpa using z
    rw[z'];exact Nat.ne_of_lt Ri
  rw[ax nb]
  exact(hf b hb).1
 done:=by
  intro X hP hw hK hc i N8 s σ H E I hf st hg
  subst hP hw hK
  obtain⟨xs,hq,hx⟩:=hg
  obtain⟨Ob,rv,p,hz⟩:=I.list hq
  have hl:=rv.length
  obtain⟨⟨old,he⟩,hit⟩:=st
  obtain⟨f0,f1,f2,f3,f4,f5⟩:=hf it (by simp)
  exact wpAny_pyNext_enum_end (I.ok.hd hc) he hit p.isList (by simp;omega) λh' eb=>⟨rfl,I.turned (t':=s.toks) (λb o hb e=>eb b o hb e) f0 f1 f3 f4 f5⟩
 self:=λ_ _ _ _ _ st h=>by
  obtain⟨⟨old,he⟩,_⟩:=st
  exact wpAny_pyIter_enum he h
end
end L2
namespace L2
open PySem PySem.Spec PyProof.Rows
section
variable{prog:Program}{w:World}{A:Around}{R:Result->Shared->Prop}{s:Shared}
theorem A_{elt target iter:Expr}{ifs:List Expr}{scope:Scope}{pos:Pos}{it acc:Value}{env:Env}(I:Nat->Shared->Prop)
  (turn:∀ n s,I n s->wpAny (model prog w) A (pyNext it) (λr s₁=>match r with
   | none=>R (.ok .next) s₁
   | some v=>wpAny (model prog w) A (letOwnedTupleGo target it v) (λ_ s₂=>wpAny (model prog w) A (assign target env v) (λ_ s₃ =>
     wpAny (model prog w) A (forIn ifs true λc r=>if r=true then do let ok ← isTrue c env (eval c env);pure (ForInStep.yield ok) else pure (ForInStep.yield r)) (λok s₄ =>
      if ok=true then wpAny (model prog w) A (eval elt env) (λx s₅ =>
       wpAny (model prog w) A (call (.builtin "list.append") [acc,x]) (λ_ s₆=>∃ m,m<n/\I m s₆) (λ_ _=>False) s₅) (λ_ _=>False) s₄
      else ∃ m,m<n/\I m s₄) (λ_ _=>False) s₃) (λ_ _=>False) s₂) (λ_ _=>False) s₁) (λ_ _=>False) s)
  (n:Nat) (h:I n s) :
  codeAny (model prog w) A (.compLoop (.ListComp elt [⟨target,iter,ifs,0⟩] scope pos) 0 it acc env) R s:=by
 refine codeAny_loop rfl I (λn s hI=>?_) n h
 show wpAny _ A ((compTurn (.ListComp elt [⟨target,iter,ifs,0⟩] scope pos) 0 it acc env).onRaise (λx=>do noteFrame x env;theTreesLotGoes x)) _ _ s
 refine wpAny_noted ?_
 rw[compTurn_list]
 refine wpAny_bind (wpAny_standAt (wpAny_bind (wpAny_mono (turn n s hI) (λr s₁ h₁=>?_) λ_ _ h'=>h'.elim)))
 cases r with
 | none=>exact wpAny_pure h₁
 | some v =>
  refine wpAny_bind (wpAny_mono h₁ (λ_ s₂ h₂=>wpAny_bind (wpAny_mono h₂ (λ_ s₃ h₃=>wpAny_bind (wpAny_mono h₃ (λok s₄ h₄=>?_) λ_ _ h'=>h'.elim)) λ_ _ h'=>h'.elim)) λ_ _ h'=>h'.elim)
  cases ok with
  | false=>exact wpAny_pure ⟨rfl,h₄⟩
  | true =>
   exact wpAny_bind (wpAny_bind (wpAny_mono h₄ (λx s₅ h₅=>wpAny_bind (wpAny_mono h₅ (λ_ s₆ h₆=>wpAny_pure (wpAny_pure ⟨rfl,h₆⟩)) λ_ _ h'=>h'.elim)) λ_ _ h'=>h'.elim))
end
def xI(X:Cx)(scope:Scope)(cl:List (Str×Addr))(N:List Str)(C:Addr)(s₀:Shared)(H₀:Hp)(ex:List Addr)(N8:List (Addr×Obj)):Cx :=
 { X with N:=N,s₀:=s₀,H₀:=H₀,env:=compEnvC scope cl C X.env,outer:=X.stack,stack:=X.stack,ex:=ex,fn:=λ_=>false,pn:=X.pn++N8,xe:=λ_ _=>False }
inductive kS (X:Cx) (sc:Scope) (cl:List (Str×Addr)):List Str->List Nat->Prop where
 | nil:kS X sc cl [] []
 | cons {x:Str} {j:Nat} {c:Addr} {fs:List Str} {js:List Nat} (hN:X.N[j]?=some x) (hf:sc.names.lookup x=some .free) (hv:X.env.kindOf x=some .cell\/X.env.kindOf x=some .free) (hc:X.env.cells.lookup x=some c) (hl:cl.lookup x=some c) (r:kS X sc cl fs js):kS X sc cl (x::fs) (j::js)
inductive gF (X:Cx):List (Str×Addr)->Prop where
 | nil:gF X []
 | cons {x:Str} {c:Addr} {r:List (Str×Addr)} (h:X.env.cells.lookup x=some c) (t:gF X r):gF X ((x,c)::r)
theorem gF.at{X:Cx}:∀ {cl:List (Str×Addr)},gF X cl->∀ x c,cl.lookup x=some c->X.env.cells.lookup x=some c
 | _,.nil,_,_,e=>by simp at e
 | _,.cons (x:=y) (c:=d) h t,x,c,e=>by
  rw[List.lookup_cons] at e
  cases q:x==y with
  | true =>
   rw[q] at e
   have e':d=c:=Option.some.inj e
   have q':x=y:=by simpa using q
   rw[q',← e'];exact h
  | false =>
   rw[q] at e
   exact gF.at t x c e
def lK(cl:List (Str×Addr))(names:List (Str×NameKind)):Bool:=names.all λy=>y.2 != .free||(cl.lookup y.1).isSome
def jq(names:List (Str×NameKind)):Bool:=names.all λy=>y.2 != .cell
def lO(names:List (Str×NameKind)):Bool:=names.all λy=>y.2 != .local||(names.lookup y.1==some .local)
def ic(ts:List Str)(js:List Nat)(σ:St):St:=ts.map (λ_=>none)++js.map λj=>(σ[j]?).join
def DL(wi:TI)(g:TG)(tt:Option TT)(te:TE)(ts:List Str)(js:List Nat):TE:=fun σ H Q=>wi σ H λJ H1=>∀ D,H1 D=none ->
 ∃ W:Nat->Nat->St->Hp->Prop,(∃ m,W 0 m (ic ts js σ) (upd H1 D (.lst [])))/\∀ i m σ' H',W i m σ' H' ->
  (J.stop i H'/\Q (.ref D) H')\/(J.go i H'/\∃ N:St->Hp->Prop,(∀ σ'' H'',N σ'' H''->∃ m',m'<m/\W (i+1) m' σ'' H'') ∧
   ∀ x H2,J.xF i H' x H2->g x σ' H2 fun σ2 H3=>match tt with
    | none=>te σ2 H3 λy H4=>∃ ys,H4 D=some (.lst ys)/\ys.length<sizeLine/\N σ2 (upd H4 D (.lst (ys++[y])))
    | some t=>t σ2 H3 λb H3'=>if b=true then te σ2 H3' λy H4=>∃ ys,H4 D=some (.lst ys)/\ys.length<sizeLine/\N σ2 (upd H4 D (.lst (ys++[y]))) else N σ2 H3')
theorem qt {scope : Scope} {cl : List (Str × Addr)} {C : Addr} {env : Env} {x : Str} (h : (compEnvC scope cl C env).kindOf x = some .cell \/ (compEnvC scope cl C env).kindOf x = some .free) (nc : jq scope.names = true) : scope.names.lookup x = some .free := by
  have key : ∀ (names : List (Str × NameKind)), jq names = true ->
      ((names.map λ(n, k) => if (k == NameKind.free && env.scope.kind == .function && env.kindOf n == some .cell) then (n, NameKind.cell) else (n, k)).lookup x = some .cell ∨
       (names.map λ(n, k) => if (k == NameKind.free && env.scope.kind == .function && env.kindOf n == some .cell) then (n, NameKind.cell) else (n, k)).lookup x = some .free) -> names.lookup x = some .free := by
    intro names
    induction names with
    | nil => intro _ h; simp at h
    | cons p r ih =>
      obtain ⟨n, k⟩ := p
      intro nc h
      have nc' : (k != .cell) = true /\ jq r = true := by
        unfold jq at nc
        rw [List.all_cons, Bool.and_eq_true] at nc
        exact nc
      rw [List.map_cons] at h
      dsimp only at h
      by_cases hc : (k == NameKind.free && env.scope.kind == .function && env.kindOf n == some .cell) = true
      · rw [if_pos hc] at h
        rw [List.lookup_cons] at h ⊢
        cases q : x == n with
        | true =>
          have : k = .free := by
            rw [Bool.and_eq_true, Bool.and_eq_true] at hc
            simpa using hc.1.1
          rw [this]
        | false =>
          rw [q] at h
          exact ih nc'.2 h
      · rw [if_neg hc] at h
        rw [List.lookup_cons] at h ⊢
        cases q : x == n with
        | true =>
          rw [q] at h
          have nk : k ≠ .cell := by simpa using nc'.1
          rcases h with h | h
          · exact absurd (Option.some.inj h) nk
          · exact h
        | false =>
          rw [q] at h
          exact ih nc'.2 h
  exact key scope.names nc h
theorem xu{X:Cx}{tg elt iter:Expr}{ifs:List Expr}{scope:Scope}{cl:List (Str×Addr)}{pos Om:Pos}{wi:TI}{g:TG}{tt:Option TT}{te:TE}{ts fs:List Str}{js:List Nat}(Oq:X.calm=true)
  (OZ:closureFor scope X.env=pure cl) (hk:scope.kind=.function) (nc:jq scope.names=true) (lo:lO scope.names=true) (fh:lK cl scope.names=true) (ag:gF X cl) (fr:kS X scope cl fs js)
  (hi:PI X tg iter wi) (hg:∀ C s₀ H₀ ex N8,PG (xI X scope cl (ts++fs) C s₀ H₀ ex N8) tg g)
  (ht:∀ C s₀ H₀ ex N8,match ifs,tt with | [],none=>True | [c],some t=>PT (xI X scope cl (ts++fs) C s₀ H₀ ex N8) c t | _,_=>False)
  (he:∀ C s₀ H₀ ex N8,PE (xI X scope cl (ts++fs) C s₀ H₀ ex N8) elt te)
  (hs:∀ x,foldedSetIterable iter X.env x=pure x) {N8:List (Addr×Obj)} {s:Shared} {σ:St} {H:Hp} {Q:VK} (I:Inv X N8 σ H s) (h:DL wi g tt te ts js σ H Q)
  (use:Option (Value->Sem Unit)) (Qv:Value->Shared->Prop)
  (G3:∀ (D:Addr) (H':Hp) (s':Shared) (C:Addr),Inv X N8 σ H' s'->Q (.ref D) H'->(∃ m,s'.heap.Ns C m)->nG X N8 H' C->compPost (model X.prog X.w) X.A X.xe use Qv (.ref D) C (.ok .next) s') :
  wpAny (model X.prog X.w) X.A (comprehension (.ListComp elt [⟨tg,iter,ifs,0⟩] scope pos) scope X.env Om (newList []) false (eval iter X.env) use) Qv X.xe s:=by
 have Qs:∀ y∈scope.names,y.2≠.cell:=λy hy=>by
  have:=List.all_eq_true.mp nc y hy
  simpa using this
 have Rk:∀ y∈scope.names,y.2=.local->scope.names.lookup y.1=some .local:=λy hy hl=>by
  have:=List.all_eq_true.mp lo y hy
  rw[hl] at this
  simpa using this
 refine wpAny_comprehension_free (use:=use) rfl hs OZ hk Rk (cB (hi N8 s σ H _ I h) λv s1 h1=>cB h1 λitv s2 h2=>?_)
 obtain⟨it,fp,tn,J,H1,e,I2,T,Rh,f2,hJ⟩:=h2
 subst e
 refine wpAny_newObj_type (wpAny_newFunctionEnv Qs (by intro y hy;simp at hy) (λh₁ hns1 hsb1=>?_) hk)
 dsimp only at hns1 hsb1 ⊢
 generalize hH2:s2.heap.push { cls:=.type "list", dict:=none,data:=.seq ([]:List Value).toArray }=G at hns1 hsb1 ⊢
 have hC:G.objs.size=s2.heap.objs.size+1:=by rw[← hH2,Heap.size_push]
 have old:∀ b o,s2.heap.get? b=some o->h₁.get? b=some o:=λb o e=>by
  have hb:=Heap.lt_size e
  refine hsb1.extBut b o (Nat.ne_of_lt (Nat.lt_of_lt_of_le hb (Nat.le_of_lt (by rw[hC];exact Nat.lt_succ_self _)))) (Heap.get?_push_of_some _ ?_)
  rw[← hH2]
  exact Heap.get?_push_of_some _ e
 have hacc:h₁.get? s2.heap.objs.size=some { cls:=.type "list", dict:=none,data:=.seq #[] }:=by
  refine hsb1.extBut _ _ (Nat.ne_of_lt (by rw[hC];exact Nat.lt_succ_self _)) (Heap.get?_push_of_some _ ?_)
  rw[← hH2]
  exact Heap.get?_push_size _ rfl
 have nD:H1 s2.heap.objs.size=none:=I2.bC.fresh (Nat.le_refl _)
 have nC:H1 G.objs.size=none:=I2.bC.fresh (by omega)
 obtain⟨W,⟨m0,w0⟩,turn⟩:=hJ _ nD
 have RL:∀ b∈fp,b<s2.heap.objs.size:=λb hb=>by
  obtain⟨o,e,_⟩:=T.obj _ _ Rh b hb
  exact Heap.lt_size e
 have ltk:∀ (x:Str) (c:Addr),cl.lookup x=some c->c<s2.heap.objs.size/\H1 c=none/\(∃ v,s2.heap.IsCell c v):=λx c e=>by
  have e':=ag.at x c e
  obtain⟨v,q⟩:=I2.cell x c e'
  exact⟨q.lt,I2.gM x c e',v,q⟩
 let X':=xI X scope cl (ts++fs) G.objs.size s2 H1 fp N8
 have okX:X'.Ok:=by
  refine⟨I2.ok.mod,hk,I2.ok.glob,I2.ok.blt,by show s2.heap.objs.size<=G.objs.size;omega,λx y c e1 e2=>I2.ok.inj x y c (ag.at x c e1) (ag.at y c e2),λx hx=>?_,λx c hf _=>(nomatch (show (false:Bool)=true from hf)),I2.ok.hd,I2.ok.frames,.inl rfl,λb hb=>⟨?_,λx c e z=>?_⟩,λb o e=>I2.bs b o e,Nat.le_trans I2.ok.CO I2.sz,λb o e hb=>?_,λb hb hz=>?_,I2.stack,λb hb=>I2.uI b hb⟩
  ·have Qt:=qt (env:=X.env) hx nc
   have hm:∃ y∈scope.names,y.1=x/\y.2=.free:=by
    have:∀ (l:List (Str×NameKind)),l.lookup x=some .free->∃ y∈l,y.1=x/\y.2=.free:=by
     intro l
     induction l with
     | nil=>intro h;simp at h
     | cons p r ih =>
      intro h
      rw[List.lookup_cons] at h
      cases q:x==p.1 with
      | true =>
       rw[q] at h
       exact⟨p,List.mem_cons_self,(by simpa using q:x=p.1).symm,Option.some.inj h⟩
      | false =>
       rw[q] at h
       obtain⟨y,hy,r1,r2⟩:=ih h
       exact⟨y,List.mem_cons_of_mem _ hy,r1,r2⟩
    exact this _ Qt
   obtain⟨y,hy,r1,r2⟩:=hm
   have:=List.all_eq_true.mp fh y hy
   rw[r2] at this
   have h':(cl.lookup y.1).isSome=true:=by simpa using this
   rw[r1] at h'
   exact Option.isSome_iff_exists.mp h'
  ·exact Nat.ne_of_lt (Nat.lt_of_lt_of_le (RL b hb) (by show s2.heap.objs.size<=G.objs.size;omega))
  ·exact(f2 b hb).2.2.2.2.1 x c (ag.at x c e) z
  ·obtain⟨_,_,_,f3,_,_⟩:=f2 b hb
   rcases f3 with z | z
   ·exact I2.ok.vg b o e z
   ·exact absurd (Nat.lt_of_lt_of_le (Heap.lt_size (I2.ok.bs b o e).1) z) (Nat.lt_irrefl _)
  ·rcases List.mem_cons.mp (I2.u_ b hz) with z | z
   ·exact(f2 b hb).2.1 z
   ·exact(f2 b hb).2.2.1 z
 have keepB:∀ b o,s2.heap.get? b=some o->h₁.get? b=some o:=old
 have I3:Inv X' [] (ic ts js σ) (upd H1 s2.heap.objs.size (.lst [])) { s2 with heap:=h₁,toks:=s2.toks+([]:List (Str×Value)).length }:=by
  have neD:∀ b o,s2.heap.get? b=some o->b≠s2.heap.objs.size:=λb o e=>Nat.ne_of_lt (Heap.lt_size e)
  refine⟨okX,rfl,I2.bare,⟨λb o e n hb hx=>old b o e,λb o e n hb hx=>⟨o.slots,old b o e⟩,λb o e n hx=>by rw[ax (neD b o e)];exact n,λb o e hx=>⟨o,old b o e⟩,λb xs e=>?_,λb o u e=>?_,λb ps e=>?_⟩,⟨_,hns1,λi x v e1 e2 e3=>?_⟩,λx c e=>?_,?_,λx c e=>?_,λp hp=>?_,?_,?_⟩
  ·rw[ax (bQ e nD)];exact e
  ·rw[ax (bQ e nD)];exact e
  ·exact⟨#[],by rw[ax (bQ e nD)];exact Eq.trans e (by simp)⟩
  ·
   have hlen:(ts.map (λ_=>(none:Option V))).length=ts.length:=List.length_map _
   unfold ic at e2
   by_cases Pz:i<ts.length
   ·rw[List.getElem?_append_left (by rw[hlen];exact Pz),List.getElem?_map] at e2
    cases q:ts[i]? <;> rw[q] at e2 <;> cases e2
   ·rw[List.getElem?_append_right (by rw[hlen];omega),hlen] at e2
    have e1':fs[i-ts.length]?=some x:=by
     have e1':(ts++fs)[i]?=some x:=e1
     rw[List.getElem?_append_right (by omega)] at e1'
     exact e1'
    have all:∀ {fs:List Str} {js:List Nat},kS X scope cl fs js->∀ k:Nat,fs[k]?=some x->(js.map λj=>(σ[j]?).join)[k]?=some (some v) ->
      ∃ (j:Nat) (c:Addr),X.N[j]?=some x/\σ[j]?=some (some v)/\(X.env.kindOf x=some .cell\/X.env.kindOf x=some .free)/\X.env.cells.lookup x=some c/\cl.lookup x=some c/\scope.names.lookup x=some .free:=by
     intro fs js r
     induction r with
     | nil=>intro k e;simp at e
     | @cons y j c fs js hN hf hv hc hl r ih =>
      intro k e e'
      cases k with
      | zero =>
       have e0:y=x:=by simpa using e
       subst e0
       have RC:(σ[j]?).join=some v:=by simpa using e'
       refine⟨j,c,hN,?_,hv,hc,hl,hf⟩
       cases q:σ[j]? with
       | none=>rw[q] at RC;cases RC
       | some z=>rw[q] at RC;cases z with
        | none=>cases RC
        | some z =>
         have:z=v:=by simpa using RC
         rw[this]
      | succ k=>exact ih k (by simpa using e) (by simpa using e')
    obtain⟨j,c,q1,q2,q3,q4,q5,q6⟩:=all fr (i-ts.length) e1' e2
    obtain⟨m,hn,hl⟩:=I2.loc
    have vis:Eb X.env.scope x:=by
     rcases q3 with z | z
     ·exact .inr (.inl z)
     ·exact .inr (.inr z)
    obtain⟨u,ru,lk⟩:=hl j x v q1 q2 vis
    refine⟨u,ru,.inr ⟨?_,c,q5,?_⟩⟩
    ·rcases e3 with z | z | z
     ·exfalso
      have key:∀ (l:List (Str×NameKind)),(l.map λ(n,k)=>if (k==NameKind.free&&X.env.scope.kind==.function&&X.env.kindOf n==some .cell) then (n,NameKind.cell) else (n,k)).lookup x=some .local->l.lookup x=some .local:=by
       intro l
       induction l with
       | nil=>intro h;simp at h
       | cons p r ih =>
        obtain⟨n,k⟩:=p
        intro h
        rw[List.map_cons] at h
        dsimp only at h
        by_cases hc:(k==NameKind.free&&X.env.scope.kind==.function&&X.env.kindOf n==some .cell)=true
        ·rw[if_pos hc] at h
         rw[List.lookup_cons] at h ⊢
         cases q:x==n with
         | true=>rw[q] at h;cases h
         | false=>rw[q] at h;exact ih h
        ·rw[if_neg hc] at h
         rw[List.lookup_cons] at h ⊢
         cases q:x==n with
         | true=>rw[q] at h;exact h
         | false=>rw[q] at h;exact ih h
      have:=key _ z
      rw[q6] at this
      cases this
     ·exact .inl z
     ·exact .inr z
    ·rcases lk with ⟨k,_⟩ | ⟨_,c',e4,z⟩
     ·rcases q3 with z | z <;> rw[z] at k <;> cases k
     ·rw[q4] at e4
      cases e4
      obtain⟨o,ho,hd⟩:=z
      exact⟨o,old c o ho,hd⟩
  ·obtain⟨_,_,v,o,ho,hd⟩:=ltk x c e
   exact⟨v,o,old c o ho,hd⟩
  ·show upd H1 s2.heap.objs.size (.lst []) G.objs.size=none
   rw[ax (Nat.ne_of_gt (by rw[hC];exact Nat.lt_succ_self _))];exact nC
  ·obtain⟨q1,q2,_⟩:=ltk x c e
   rw[ax (Nat.ne_of_lt q1)];exact q2
  ·have Rc:p∈X.pn++N8:=by
    have:p∈(X.pn++N8)++[]:=hp
    rwa [List.append_nil] at this
   obtain⟨e,n,ne,nf,d⟩:=I2.pin p Rc
   have Pz:=Heap.lt_size e
   refine⟨old _ _ e,by rw[ax (Nat.ne_of_lt Pz)];exact n,?_,λhz=>?_,d⟩
   ·show p.1≠G.objs.size
    exact Nat.ne_of_lt (Nat.lt_trans Pz (by rw[hC];exact Nat.lt_succ_self _))
   ·rcases List.mem_cons.mp (I2.u_ _ hz) with z | z
    ·exact ne z
    ·exact nf z
  ·exact I2.bC.laid old (Nat.le_refl _) ⟨Nat.zero_le _,[],0,.nil,hacc⟩
  ·show (ic ts js σ).length=(ts++fs).length
   have frl:∀ {fs:List Str} {js:List Nat},kS X scope cl fs js->fs.length=js.length:=by
    intro fs js r
    induction r with
    | nil=>rfl
    | cons _ _ _ _ _ _ ih=>rw[List.length_cons,List.length_cons,ih]
   unfold ic
   rw[List.length_append,List.length_append,List.length_map,List.length_map,frl fr]
 have Qp:∀ {H':Hp},(∀ b∈fp,H' b=none)->∀ b∈fp,nG X' [] H' b:=λ{H'} hn b hb=>by
  obtain⟨_,f1,f3,_,f4,f5⟩:=f2 b hb
  refine⟨hn b hb,okX.JU b hb |>.1,okX.wa b hb,.inl hb,λx c e=>f4 x c (ag.at x c e),λp hp=>f5 p ?_⟩
  have:p∈(X.pn++N8)++[]:=hp
  rwa [List.append_nil] at this
 have fin:∀ {σ':St} {H':Hp} {s':Shared},Inv X' [] σ' H' s'->Q (.ref s2.heap.objs.size) H' ->
   compPost (model X.prog X.w) X.A X.xe use Qv (.ref s2.heap.objs.size) G.objs.size (.ok .next) s':=by
  intro σ' H' s' I4 q
  obtain⟨m,hn,_⟩:=I4.loc
  have fC:H' G.objs.size=none:=I4.free
  have Io:Inv X N8 σ H' s':=by
   refine I2.BU (s':=s') (ch:=fp) I4.os ⟨λb o e n hb hx=>?_,λb o e n hb hx=>?_,λb o e n hx=>I4.base.free b o e n hx,λb o e hx=>?_,I4.base.rR,I4.base.mz,I4.base.rX⟩ I4.bC I4.bare λb hb=>?_
   ·exact I4.base.keep b o e n hb hx
   ·exact I4.base.slot b o e n hb hx
   ·exact I4.base.there b o e hx
   ·obtain⟨_,f1,_,f3,f4,f5⟩:=f2 b hb
    exact⟨f3,f1,f4,f5⟩
  have hCl:s2.heap.objs.size<=G.objs.size:=by rw[hC];exact Nat.le_succ _
  exact G3 _ H' s' _ Io q ⟨m,hn⟩ (I2.vq hCl fC)
 have loop:∀ s3:Shared,s3={ s2 with heap:=h₁,toks:=s2.toks+([]:List (Str×Value)).length } ->
   codeAny (model X.prog X.w) X.A (.compLoop (.ListComp elt [⟨tg,iter,ifs,0⟩] scope pos) 0 (.ref it) (.ref s2.heap.objs.size) (compEnvC scope cl G.objs.size X.env))
    (compPost (model X.prog X.w) X.A X.xe use Qv (.ref s2.heap.objs.size) G.objs.size) s3:=by
  rintro s3 rfl
  refine A_ (λn s'=>∃ i σ' H',Inv X' [] σ' H' s'/\tn i s'.heap/\(∀ b∈fp,H' b=none)/\W i n σ' H') ?_ m0 ⟨0,_,_,I3,T.keep _ _ _ Rh λb _ o e=>old b o e,λb hb=>?_,w0⟩
  ·rintro n s3 ⟨i,σ3,H3,I3,st3,fr3,w3⟩
   rcases turn i n σ3 H3 w3 with ⟨stop,qn⟩ | ⟨go,N,hN,step⟩
   ·refine cB (T.done X' rfl rfl rfl Oq i [] s3 σ3 H3 _ I3 (Qp fr3) st3 stop) λr s4 ⟨hr,I4⟩=>?_
    subst hr
    exact fin I4 qn
   ·refine cB (T.item X' rfl rfl rfl Oq i [] s3 σ3 H3 _ I3 (Qp fr3) st3 go) λr s4 ⟨u,hr,h4⟩=>?_
    subst hr
    refine cB h4 λ_ s5 ⟨x,H5,I5,r5,y5,st5,fr5⟩=>?_
    have I5':=I5.pinned (Qp fr5) (T.obj _ _ st5)
    refine cB (hg _ _ _ _ _ _ s5 σ3 H5 x u _ I5' r5 (step x H5 y5)) λ_ s6 ⟨σ6,H6,I6,q6⟩=>?_
    have again:∀ {σ7:St} {H7:Hp} {s7:Shared},Inv X' ([]++og fp s5.heap) σ7 H7 s7->N σ7 H7->∃ m,m<n/\∃ i σ' H',Inv X' [] σ' H' s7/\tn i s7.heap/\(∀ b∈fp,H' b=none)/\W i m σ' H':=λ{σ7 H7 s7} I7 n7=>by
     obtain⟨m',hm,w7⟩:=hN σ7 H7 n7
     refine⟨m',hm,i+1,σ7,H7,I7.nF,T.keep _ _ _ st5 λb hb o e=>(I7.pin (b,o) (List.mem_append_right _ (List.mem_append_right _ (j5 hb e)))).1,λb hb=>?_,w7⟩
     obtain⟨o,e,d⟩:=T.obj _ _ st5 b hb
     exact(I7.pin (b,o) (List.mem_append_right _ (List.mem_append_right _ (j5 hb e)))).2.1
    have tail:∀ {H7:Hp} {s7:Shared},Inv X' ([]++og fp s5.heap) σ6 H7 s7->(te σ6 H7 λy H4=>∃ ys,H4 s2.heap.objs.size=some (.lst ys)/\ys.length<sizeLine/\N σ6 (upd H4 s2.heap.objs.size (.lst (ys++[y])))) ->
      wpAny (model X.prog X.w) X.A (eval elt (compEnvC scope cl G.objs.size X.env)) (λx s₅=>wpAny (model X.prog X.w) X.A (call (.builtin "list.append") [.ref s2.heap.objs.size,x])
       (λ_ s₆=>∃ m,m<n/\∃ i σ' H',Inv X' [] σ' H' s₆/\tn i s₆.heap/\(∀ b∈fp,H' b=none)/\W i m σ' H') (λ_ _=>False) s₅) (λ_ _=>False) s7:=by
     intro H7 s7 I7 q7
     refine cB (he _ _ _ _ _ _ s7 σ6 H7 _ I7 q7) λuy s8 ⟨y,H8,I8,ry,ys,hy,hl,q8⟩=>?_
     refine cB (t_ (X:=X') _ s8 σ6 H8 (.ref s2.heap.objs.size) [y] (.ref s2.heap.objs.size) [uy] (λ_ H9=>N σ6 H9) I8 rfl (.cons ry .nil) ⟨_,ys,y,rfl,rfl,hy,hl,q8⟩) λ_ s9 ⟨_,H9,I9,_,q9⟩=>?_
     exact again I9 q9
    cases ifs with
    | nil =>
     cases tt with
     | none=>exact wpAny_tests_nil (tail I6 q6)
     | some t=>exact(ht 0 s2 H1 [] []).elim
    | cons c r =>
     cases r with
     | nil =>
      cases tt with
      | none=>exact(ht 0 s2 H1 [] []).elim
      | some t =>
       refine wpAny_tests_one (cB (ht G.objs.size s2 H1 fp N8 _ s6 σ6 H6 _ I6 q6) λb s7 ⟨H7,I7,q7⟩=>?_)
       cases b with
       | true =>
        rw[if_pos rfl] at q7 ⊢
        exact tail I7 q7
       | false =>
        rw[if_neg Bool.false_ne_true] at q7 ⊢
        exact again I7 q7
     | cons _ _=>cases tt <;> exact(ht 0 s2 H1 [] []).elim
  ·rw[ax (Nat.ne_of_lt (RL b hb))]
   exact(f2 b hb).1
 exact codeAny_compStart_list (loop _ rfl) (T.self _ 0 _ _ _ (T.keep _ _ _ Rh λb _ o e=>old b o e) (loop _ rfl))
theorem Inv.other{X:Cx}{N8:List (Addr×Obj)}{σ:St}{H:Hp}{s:Shared}{C:Addr}{h':Heap}(I:Inv X N8 σ H s)(f:nG X N8 H C)(hs:Heap.SameBut C s.heap h'):Inv X N8 σ H { s with heap:=h' }:=by
 obtain⟨f0,f1,_,f3,f4,f5⟩:=f
 refine I.BU (s':={ s with heap:=h' }) (ch:=[C]) rfl ⟨λb o e n hb hx=>?_,λb o e n hb hx=>?_,λb o e n hx=>n,λb o e hx=>?_,λ_ _ q=>q,λ_ _ _ q=>q,λb ps q=>⟨#[],by rw[q];simp⟩⟩ (λb u e=>?_) I.bare λb hb=>?_
 ·exact(hs.2 b (λz=>hx (by rw[z];exact List.mem_singleton.mpr rfl))).trans e
 ·exact⟨o.slots,(hs.2 b (λz=>hx (by rw[z];exact List.mem_singleton.mpr rfl))).trans e⟩
 ·exact⟨o,(hs.2 b (λz=>hx (by rw[z];exact List.mem_singleton.mpr rfl))).trans e⟩
 ·refine(I.bC b u e).mR (λc v hc q=>(hs.2 c ?_).trans q) (λ_ q=>q) λ_ _ q=>q
  rcases hc with z | z
  ·rw[z];exact bQ e f0
  ·exact bQ z f0
 ·rw[List.mem_singleton.mp hb]
  exact⟨f3,f1,f4,f5⟩
theorem FZ{X:Cx}{tg elt iter:Expr}{ifs:List Expr}{scope:Scope}{cl:List (Str×Addr)}{pos:Pos}{wi:TI}{g:TG}{tt:Option TT}{te:TE}{ts fs:List Str}{js:List Nat}(Oq:X.calm=true)
  (OZ:closureFor scope X.env=pure cl) (hk:scope.kind=.function) (nc:jq scope.names=true) (lo:lO scope.names=true) (fh:lK cl scope.names=true) (ag:gF X cl) (fr:kS X scope cl fs js)
  (hi:PI X tg iter wi) (hg:∀ C s₀ H₀ ex N8,PG (xI X scope cl (ts++fs) C s₀ H₀ ex N8) tg g)
  (ht:∀ C s₀ H₀ ex N8,match ifs,tt with | [],none=>True | [c],some t=>PT (xI X scope cl (ts++fs) C s₀ H₀ ex N8) c t | _,_=>False)
  (he:∀ C s₀ H₀ ex N8,PE (xI X scope cl (ts++fs) C s₀ H₀ ex N8) elt te)
  (hs:∀ x,foldedSetIterable iter X.env x=pure x:=by intro _;rfl) :
  PE X (.ListComp elt [⟨tg,iter,ifs,0⟩] scope pos) (DL wi g tt te ts js):=by
 intro N8 s σ H Q I h
 rw[eval_ListComp]
 refine xu Oq OZ hk nc lo fh ag fr hi hg ht he hs I h none _ λD H' s' C Io q hm f=>?_
 obtain⟨m,hn⟩:=hm
 exact⟨m,hn,λh' Ry=>⟨.ref D,H',Io.other f Ry,rfl,q⟩⟩
def yF(wi:TI)(g:TG)(te:TE)(ts:List Str)(js:List Nat):TE:=fun σ H Q=>wi σ H λJ H1=>∀ D,H1 D=none ->
 ∃ W:Nat->Nat->St->Hp->Prop,(∃ m,W 0 m (ic ts js σ) (upd H1 D (.lst [])))/\∀ i m σ' H',W i m σ' H' ->
  (J.stop i H'/\Q (.ref D) H')\/(J.go i H'/\∃ N:St->Hp->Prop,(∀ σ'' H'',N σ'' H''->∃ m',m'<m/\W (i+1) m' σ'' H'') ∧
   ∀ x H2,J.xF i H' x H2->g x σ' H2 fun σ2 H3=>te σ2 H3 λy H4=>∃ ys,H4 D=some (.lst ys)/\ys.length<sizeLine/\N σ2 (upd H4 D (.lst (ys++[y]))))
theorem BA{X:Cx}{tg elt iter:Expr}{scope:Scope}{cl:List (Str×Addr)}{pos:Pos}{wi:TI}{g:TG}{te:TE}{ts fs:List Str}{js:List Nat}(Oq:X.calm=true)
  (OZ:closureFor scope X.env=pure cl) (hk:scope.kind=.function) (nc:jq scope.names=true) (lo:lO scope.names=true) (fh:lK cl scope.names=true) (ag:gF X cl) (fr:kS X scope cl fs js)
  (hi:PI X tg iter wi) (hg:∀ C s₀ H₀ ex N8,PG (xI X scope cl (ts++fs) C s₀ H₀ ex N8) tg g) (he:∀ C s₀ H₀ ex N8,PE (xI X scope cl (ts++fs) C s₀ H₀ ex N8) elt te)
  (hs:∀ x,foldedSetIterable iter X.env x=pure x:=by intro _;rfl):PE X (.ListComp elt [⟨tg,iter,[],0⟩] scope pos) (yF wi g te ts js) :=
 FZ (tt:=none) Oq OZ hk nc lo fh ag fr hi hg (λ_ _ _ _ _=>trivial) he hs
end L2
namespace L2
open PySem PySem.Spec PyProof.Rows
def gB(h:Heap)(b:Bool)(l:Addr)(xs:Array Value):Prop:=match b with
 | true=>h.IsList l xs
 | false=>h.IsTuple l xs
def e6(h:Heap)(b:Bool)(it l:Addr)(i:Nat):Prop:=match b with
 | true=>h.IsListIter it l i
 | false=>h.IsTupleIter it l i
theorem gB.at{h h':Heap}{b:Bool}{l:Addr}{xs:Array Value}(x:gB h b l xs)(k:∀ o,h.get? l=some o->h'.get? l=some o):gB h' b l xs:=by
 cases b with
 | true=>obtain⟨o,ho,r⟩:=(show h.IsList l xs from x);exact(show h'.IsList l xs from ⟨o,k o ho,r⟩)
 | false=>obtain⟨o,ho,r⟩:=(show h.IsTuple l xs from x);exact(show h'.IsTuple l xs from ⟨o,k o ho,r⟩)
theorem e6.at{h h':Heap}{b:Bool}{it l:Addr}{i:Nat}(x:e6 h b it l i)(k:∀ o,h.get? it=some o->h'.get? it=some o):e6 h' b it l i:=by
 cases b with
 | true=>obtain⟨o,ho,r⟩:=(show h.IsListIter it l i from x);exact(show h'.IsListIter it l i from ⟨o,k o ho,r⟩)
 | false=>obtain⟨o,ho,r⟩:=(show h.IsTupleIter it l i from x);exact(show h'.IsTupleIter it l i from ⟨o,k o ho,r⟩)
theorem e6.obj{h:Heap}{b:Bool}{it l:Addr}{i:Nat}(x:e6 h b it l i):∃ o vs,h.get? it=some o/\o.data=.fields vs:=by
 cases b with
 | true=>obtain⟨o,ho,_,hd⟩:=(show h.IsListIter it l i from x);exact⟨o,_,ho,hd⟩
 | false=>obtain⟨o,ho,_,hd⟩:=(show h.IsTupleIter it l i from x);exact⟨o,_,ho,hd⟩
theorem gB.obj{h:Heap}{b:Bool}{l:Addr}{xs:Array Value}(x:gB h b l xs):∃ o n,h.get? l=some o/\o.data=.seq xs n:=by
 cases b with
 | true=>obtain⟨o,ho,_,n,hd⟩:=(show h.IsList l xs from x);exact⟨o,n,ho,hd⟩
 | false=>obtain⟨o,ho,_,n,hd⟩:=(show h.IsTuple l xs from x);exact⟨o,n,ho,hd⟩
section
variable{prog:Program}{w:World}{A:Around}{E:Value->Shared->Prop}{s:Shared}
theorem iX{it t:Addr}{i:Nat}{items:Array Value}{x:Value}{Q:Value->Shared->Prop}(hit:s.heap.IsTupleIter it t i)
  (ht:s.heap.IsTuple t items) (hx:items[i]?=some x)
  (hQ:∀ h',h'.IsTupleIter it t (i+1)->Heap.SameBut it s.heap h'->Q x { s with heap:=h' }) :
  wpAny (model prog w) A (Builtin.SmallTypes.nextOf (.ref it)) Q E s:=by
 obtain⟨o,ho,hc,hd⟩:=id hit
 obtain⟨ol,hol,_,nl,hdl⟩:=ht
 unfold Builtin.SmallTypes.nextOf
 refine wpAny_bind (wpAny_callSpecial?_slot (name:=Str.ofString "__next__") hit.typeIs F.slot_tuple_iterator_next
  (wpAny_call_entry F.slot_tuple_iterator_next hit.typeIs F.entry_tuple_iterator_next ?_ (F.args_tuple_iterator_next_1 _)))
 show wpAny _ _ (field (.ref it) 0 >>= _) _ _ s
 refine wpAny_bind (wpAny_field ho hd (x:=.ref t) rfl ?_)
 show wpAny _ _ (if (Value.ref t==Value.none)=true then _ else _) _ _ s
 rw[if_neg (show ¬ ((Value.ref t==Value.none)=true) from Bool.false_ne_true)]
 show wpAny _ _ (field (.ref it) 1 >>= _) _ _ s
 refine wpAny_bind (wpAny_field ho hd (x:=.int i 0) rfl ?_)
 show wpAny _ _ (seqItems? (.ref t) >>= _) _ _ s
 refine wpAny_bind (wpAny_seqItems hol hdl ?_)
 simp only[Int.toNat_natCast,hx]
 refine wpAny_bind (wpAny_setField ho hd (by simp) (wpAny_pure ⟨x,rfl,wpAny_pure (hQ _ ?_ (Heap.SameBut.update ..))⟩))
 exact⟨_,Heap.get?_update_self _ ho (Obj.isFreed_of_fields (Obj.data_mapFields hd _)),(Obj.cls_mapFields ..).trans hc,by
  rw[Obj.data_mapFields hd];simp[rawInt]⟩
theorem fP{it t:Addr}{i:Nat}{items:Array Value}{Q:Value->Shared->Prop}(hh:A.handled=none)
  (hit:s.heap.IsTupleIter it t i) (ht:s.heap.IsTuple t items) (hx:items[i]?=none)
  (hE:∀ h' e,Heap.ExtBut it s.heap h'->(∃ o,h'.get? e=some o/\o.cls=.type "StopIteration")->E (.ref e) { s with heap:=h' }) :
  wpAny (model prog w) A (Builtin.SmallTypes.nextOf (.ref it)) Q E s:=by
 obtain⟨o,ho,hc,hd⟩:=id hit
 obtain⟨ol,hol,_,nl,hdl⟩:=ht
 unfold Builtin.SmallTypes.nextOf
 refine wpAny_bind (wpAny_callSpecial?_slot (name:=Str.ofString "__next__") hit.typeIs F.slot_tuple_iterator_next
  (wpAny_call_entry F.slot_tuple_iterator_next hit.typeIs F.entry_tuple_iterator_next ?_ (F.args_tuple_iterator_next_1 _)))
 show wpAny _ _ (field (.ref it) 0 >>= _) _ _ s
 refine wpAny_bind (wpAny_field ho hd (x:=.ref t) rfl ?_)
 show wpAny _ _ (if (Value.ref t==Value.none)=true then _ else _) _ _ s
 rw[if_neg (show ¬ ((Value.ref t==Value.none)=true) from Bool.false_ne_true)]
 show wpAny _ _ (field (.ref it) 1 >>= _) _ _ s
 refine wpAny_bind (wpAny_field ho hd (x:=.int i 0) rfl ?_)
 show wpAny _ _ (seqItems? (.ref t) >>= _) _ _ s
 refine wpAny_bind (wpAny_seqItems hol hdl ?_)
 simp only[Int.toNat_natCast,hx]
 refine wpAny_bind (wpAny_rule (wpAny_bind (wpAny_setField ho hd (by simp) ?_)))
 show wpAny _ _ (newExc (.type "StopIteration") [] >>= _) _ _ _
 refine wpAny_bind ?_
 simp only[newExc,newTuple]
 refine wpAny_bind (wpAny_newObj_type ?_ (by size_fits))
 refine wpAny_bind (m:=firstArgMember _ _) (wpAny_of_eq (a:=Value.none) (by first | rfl | (simp only[firstArgMember];rfl)) ?_)
 refine wpAny_newObj_type ?_ (by size_fits)
 simp only[raiseNew]
 refine wpAny_bind (wpAny_handled ?_)
 first | rw[show A.in1.handled=none from hh] | rw[hh]
 refine wpAny_bind (wpAny_pure (wpAny_throw ?_))
 exact hE _ _ (((Heap.SameBut.update ..).extBut.push _).push _) ⟨_,Heap.get?_push_size _ rfl,rfl⟩
theorem cW{b:Bool}{it l:Addr}{i:Nat}{items:Array Value}{x:Value}{Q:Value->Shared->Prop}(hit:e6 s.heap b it l i)(hl:gB s.heap b l items)(hx:items[i]?=some x)
  (hQ:∀ h',e6 h' b it l (i+1)->Heap.SameBut it s.heap h'->Q x { s with heap:=h' }):wpAny (model prog w) A (Builtin.SmallTypes.nextOf (.ref it)) Q E s:=by
 cases b with
 | true=>exact wpAny_nextOf_list_item hit hl hx hQ
 | false=>exact iX hit hl hx hQ
theorem iI{b:Bool}{it l:Addr}{i:Nat}{items:Array Value}{Q:Value->Shared->Prop}(hh:A.handled=none)(hit:e6 s.heap b it l i)(hl:gB s.heap b l items)(hx:items[i]?=none)
  (hE:∀ h' e,Heap.ExtBut it s.heap h'->(∃ o,h'.get? e=some o/\o.cls=.type "StopIteration")->E (.ref e) { s with heap:=h' }):wpAny (model prog w) A (Builtin.SmallTypes.nextOf (.ref it)) Q E s:=by
 cases b with
 | true=>exact wpAny_nextOf_list_end hh hit hl hx hE
 | false=>exact fP hh hit hl hx hE
theorem Ae{b1 b2:Bool}{z TI TO i1 i2 l1 l2:Addr}{k1 k2:Nat}{xs ys:Array Value}{x y a b:Value}{Q:Value->Shared->Prop}(D:ZipApart z TI TO i1 i2 l1 l2)
  (hz:IsZip s.heap z TI TO .none) (OV:IsPair s.heap TI (.ref i1) (.ref i2)) (OY:IsPair s.heap TO a b)
  (h1:e6 s.heap b1 i1 l1 k1) (h2:e6 s.heap b2 i2 l2 k2) (PD:gB s.heap b1 l1 xs) (PF:gB s.heap b2 l2 ys) (hx:xs[k1]?=some x) (hy:ys[k2]?=some y)
  (hQ:∀ h',IsZip h' z TI TO (rawInt s.heap.objs.size)->IsPair h' TO x y->e6 h' b1 i1 l1 (k1+1)->e6 h' b2 i2 l2 (k2+1)->IsPair h' s.heap.objs.size x y->h'.objs.size=s.heap.objs.size+1 ->
   (∀ c o,c≠z->c≠TO->c≠i1->c≠i2->s.heap.get? c=some o->h'.get? c=some o)->Q (.ref s.heap.objs.size) { s with heap:=h' }) :
  wpAny (model prog w) A (Builtin.«zip.__next__» ⟨[.ref z],[]⟩) (λfin s'=>∃ v,fin=.done (.ret v)/\Q v s') E s:=by
 show wpAny _ _ (field (.ref z) 2 >>= _) _ _ _
 refine wpAny_bind (wpAny_field hz rfl (x:=.bool false) rfl ?_)
 show wpAny _ _ (field (.ref z) 3 >>= _) _ _ _
 refine wpAny_bind (wpAny_field hz rfl (x:=.ref TI) rfl ?_)
 refine wpAny_bind (wpAny_seqItems OV rfl ?_)
 show wpAny _ _ (Builtin.SmallTypes.ownedTupleIsFree (.ref z) >>= _) _ _ _
 refine wpAny_bind ?_
 unfold Builtin.SmallTypes.ownedTupleIsFree
 refine wpAny_bind (wpAny_field hz rfl (x:=.none) rfl (wpAny_pure ?_))
 simp only[if_true]
 refine wpAny_bind (wpAny_rule ?_)
 refine wpAny_bind (wpAny_field hz rfl (x:=.ref TO) rfl ?_)
 refine wpAny_bind (wpAny_setField_rec hz (by simp) λh₁ hz1 hs1=>?_)
 replace hz1:IsZip h₁ z TI TO .ellipsis:=hz1
 refine wpAny_bind ?_
 simp only[List.zipIdx_cons,List.zipIdx_nil,List.forIn_cons,List.forIn_nil]
 refine wpAny_bind (wpAny_bind (wpAny_onRaise ?_))
 show wpAny _ _ (Builtin.SmallTypes.nextOf (.ref i1) >>= _) _ _ _
 refine wpAny_bind (cW (h1.at λo e=>hs1.extBut _ _ D.i1z e) (PD.at λo e=>hs1.extBut _ _ D.l1z e) hx λh₂ h1₂ hs2=>wpAny_pure ?_)
 have hTO2:IsPair h₂ TO a b:=hs2.extBut _ _ D.TOi1 (hs1.extBut _ _ D.TOz OY)
 refine wpAny_bind (wpAny_seqItems hTO2 rfl ?_)
 refine wpAny_bind (wpAny_updateSeq_pair hTO2 λh₃ hTO3 hs3=>?_)
 replace hTO3:IsPair h₃ TO x b:=hTO3
 refine wpAny_bind (wpAny_letGo (wpAny_pure ?_))
 refine wpAny_bind (wpAny_bind (wpAny_onRaise ?_))
 show wpAny _ _ (Builtin.SmallTypes.nextOf (.ref i2) >>= _) _ _ _
 refine wpAny_bind (cW (h2.at λo e=>hs3.extBut _ _ D.TOi2.symm (hs2.extBut _ _ D.i12.symm (hs1.extBut _ _ D.i2z e)))
  (PF.at λo e=>hs3.extBut _ _ D.l2TO (hs2.extBut _ _ D.l2i1 (hs1.extBut _ _ D.l2z e))) hy λh₄ h2₄ hs4=>wpAny_pure ?_)
 have hTO4:IsPair h₄ TO x b:=hs4.extBut _ _ D.TOi2 hTO3
 refine wpAny_bind (wpAny_seqItems hTO4 rfl ?_)
 refine wpAny_bind (wpAny_updateSeq_pair hTO4 λh₅ hTO5 hs5=>?_)
 replace hTO5:IsPair h₅ TO x y:=hTO5
 refine wpAny_bind (wpAny_letGo (wpAny_pure (wpAny_pure ?_)))
 refine wpAny_bind (wpAny_seqItems hTO5 rfl ?_)
 refine wpAny_bind (wpAny_newTuple ?_)
 have PX:h₅.objs.size=s.heap.objs.size:=by rw[hs5.1,hs4.1,hs3.1,hs2.1,hs1.1]
 have hz5:IsZip h₅ z TI TO .ellipsis:=hs5.extBut _ _ D.TOz.symm (hs4.extBut _ _ D.i2z.symm (hs3.extBut _ _ D.TOz.symm (hs2.extBut _ _ D.i1z.symm hz1)))
 have hk5:∀ c o,c≠z->c≠TO->c≠i1->c≠i2->s.heap.get? c=some o->h₅.get? c=some o:=λc o c1 c2 c3 c4 e =>
  hs5.extBut _ _ c2 (hs4.extBut _ _ c4 (hs3.extBut _ _ c2 (hs2.extBut _ _ c3 (hs1.extBut _ _ c1 e))))
 have h1₅:e6 h₅ b1 i1 l1 (k1+1):=h1₂.at λo e=>hs5.extBut _ _ D.TOi1.symm (hs4.extBut _ _ D.i12 (hs3.extBut _ _ D.TOi1.symm e))
 have h2₅:e6 h₅ b2 i2 l2 (k2+1):=h2₄.at λo e=>hs5.extBut _ _ D.TOi2.symm e
 have QP:z<h₅.objs.size:=Heap.lt_size hz5
 show wpAny _ _ (Builtin.SmallTypes.ownedTupleHandOut (.ref z) (.ref h₅.objs.size) >>= _) _ _ _
 refine wpAny_bind ?_
 unfold Builtin.SmallTypes.ownedTupleHandOut
 have hz6:IsZip (h₅.push { cls:=.type "tuple", data:=.seq #[x,y] }) z TI TO .ellipsis:=Heap.get?_push_of_some _ hz5
 refine wpAny_bind (wpAny_setField_rec hz6 (by simp) λh₇ hz7 hs7=>?_)
 replace hz7:IsZip h₇ z TI TO (rawInt h₅.objs.size):=hz7
 refine wpAny_setField_rec hz7 (by simp) λh₈ hz₈ hs8=>?_
 replace hz₈:IsZip h₈ z TI TO (rawInt h₅.objs.size):=hz₈
 have up:∀ c o,c≠z->h₅.get? c=some o->h₈.get? c=some o:=λc o c1 e=>hs8.extBut _ _ c1 (hs7.extBut _ _ c1 (Heap.get?_push_of_some _ e))
 have hT8:IsPair h₈ h₅.objs.size x y:=hs8.extBut _ _ (Nat.ne_of_gt QP) (hs7.extBut _ _ (Nat.ne_of_gt QP) (Heap.get?_push_size _ rfl))
 have hz8:h₈.objs.size=h₅.objs.size+1:=by rw[hs8.1,hs7.1,Heap.size_push]
 rw[PX] at hz₈ hT8 hz8
 refine wpAny_pure ⟨_,rfl,?_⟩
 show Q (.ref h₅.objs.size) _
 rw[PX]
 exact hQ h₈ hz₈ (up _ _ D.TOz hTO5) (h1₅.at λo e=>up _ o D.i1z e) (h2₅.at λo e=>up _ o D.i2z e) hT8 hz8 λc o c1 c2 c3 c4 e=>up c o c1 (hk5 c o c1 c2 c3 c4 e)
theorem CH{b1 b2:Bool}{z TI TO i1 i2 l1 l2:Addr}{k1 k2:Nat}{xs ys:Array Value}{a b:Value}{Q:Fin->Shared->Prop}(hh:A.handled=none)(D:ZipApart z TI TO i1 i2 l1 l2)
  (hz:IsZip s.heap z TI TO .none) (OV:IsPair s.heap TI (.ref i1) (.ref i2)) (OY:IsPair s.heap TO a b)
  (h1:e6 s.heap b1 i1 l1 k1) (h2:e6 s.heap b2 i2 l2 k2) (PD:gB s.heap b1 l1 xs) (PF:gB s.heap b2 l2 ys) (PR:xs[k1]?=none\/ys[k2]?=none)
  (hE:∀ h' e,(∀ c o,c≠z->c≠TO->c≠i1->c≠i2->s.heap.get? c=some o->h'.get? c=some o)->(∃ o,h'.get? e=some o/\o.cls=.type "StopIteration")->E (.ref e) { s with heap:=h' }) :
  wpAny (model prog w) A (Builtin.«zip.__next__» ⟨[.ref z],[]⟩) Q E s:=by
 show wpAny _ _ (field (.ref z) 2 >>= _) _ _ _
 refine wpAny_bind (wpAny_field hz rfl (x:=.bool false) rfl ?_)
 show wpAny _ _ (field (.ref z) 3 >>= _) _ _ _
 refine wpAny_bind (wpAny_field hz rfl (x:=.ref TI) rfl ?_)
 refine wpAny_bind (wpAny_seqItems OV rfl ?_)
 show wpAny _ _ (Builtin.SmallTypes.ownedTupleIsFree (.ref z) >>= _) _ _ _
 refine wpAny_bind ?_
 unfold Builtin.SmallTypes.ownedTupleIsFree
 refine wpAny_bind (wpAny_field hz rfl (x:=.none) rfl (wpAny_pure ?_))
 simp only[if_true]
 refine wpAny_bind (wpAny_rule ?_)
 refine wpAny_bind (wpAny_field hz rfl (x:=.ref TO) rfl ?_)
 refine wpAny_bind (wpAny_setField_rec hz (by simp) λh₁ hz1 hs1=>?_)
 replace hz1:IsZip h₁ z TI TO .ellipsis:=hz1
 refine wpAny_bind ?_
 simp only[List.zipIdx_cons,List.zipIdx_nil,List.forIn_cons,List.forIn_nil]
 refine wpAny_bind (wpAny_bind (wpAny_onRaise ?_))
 show wpAny _ _ (Builtin.SmallTypes.nextOf (.ref i1) >>= _) _ _ _
 cases hx:xs[k1]? with
 | none =>
  refine wpAny_bind (iI hh (h1.at λo e=>hs1.extBut _ _ D.i1z e) (PD.at λo e=>hs1.extBut _ _ D.l1z e) hx λh₂ e hs2 he=>?_)
  obtain⟨oe,PJ,Qr⟩:=he
  have hz2:IsZip h₂ z TI TO .ellipsis:=hs2 _ _ D.i1z.symm hz1
  have Q3:e≠z:=λx=>by subst x;rw[hz2] at PJ;cases PJ;simp at Qr
  refine wpAny_setField_rec hz2 (by simp) λh₃ _ hs3=>hE h₃ e (λc o c1 _ c3 _ x=>hs3.extBut _ _ c1 (hs2 _ _ c3 (hs1.extBut _ _ c1 x))) ⟨oe,hs3.extBut _ _ Q3 PJ,Qr⟩
 | some x =>
  have hy:ys[k2]?=none:=by rcases PR with h | h;rw[hx] at h;cases h;exact h
  refine wpAny_bind (cW (h1.at λo e=>hs1.extBut _ _ D.i1z e) (PD.at λo e=>hs1.extBut _ _ D.l1z e) hx λh₂ h1₂ hs2=>wpAny_pure ?_)
  have hTO2:IsPair h₂ TO a b:=hs2.extBut _ _ D.TOi1 (hs1.extBut _ _ D.TOz OY)
  refine wpAny_bind (wpAny_seqItems hTO2 rfl ?_)
  refine wpAny_bind (wpAny_updateSeq_pair hTO2 λh₃ hTO3 hs3=>?_)
  refine wpAny_bind (wpAny_letGo (wpAny_pure ?_))
  refine wpAny_bind (wpAny_bind (wpAny_onRaise ?_))
  show wpAny _ _ (Builtin.SmallTypes.nextOf (.ref i2) >>= _) _ _ _
  refine wpAny_bind (iI hh (h2.at λo e=>hs3.extBut _ _ D.TOi2.symm (hs2.extBut _ _ D.i12.symm (hs1.extBut _ _ D.i2z e)))
   (PF.at λo e=>hs3.extBut _ _ D.l2TO (hs2.extBut _ _ D.l2i1 (hs1.extBut _ _ D.l2z e))) hy λh₄ e hs4 he=>?_)
  obtain⟨oe,PJ,Qr⟩:=he
  have hz4:IsZip h₄ z TI TO .ellipsis:=hs4 _ _ D.i2z.symm (hs3.extBut _ _ D.TOz.symm (hs2.extBut _ _ D.i1z.symm hz1))
  have Q3:e≠z:=λx=>by subst x;rw[hz4] at PJ;cases PJ;simp at Qr
  refine wpAny_setField_rec hz4 (by simp) λh₅ _ hs5=>hE h₅ e (λc o c1 c2 c3 c4 x=>hs5.extBut _ _ c1 (hs4 _ _ c4 (hs3.extBut _ _ c2 (hs2.extBut _ _ c3 (hs1.extBut _ _ c1 x))))) ⟨oe,hs5.extBut _ _ Q3 PJ,Qr⟩
theorem xf{b:Bool}{l:Addr}{items:Array Value}{Q:Value->Shared->Prop}(hl:gB s.heap b l items)
  (h:∀ o,o=({ cls:=.type (if b then "list_iterator" else "tuple_iterator"),data:=.fields #[.ref l,.int 0 0] }:Obj)->Q (.ref s.heap.objs.size) { s with heap:=s.heap.push o }):wpAny (model prog w) A (pyIter (.ref l)) Q E s:=by
 cases b with
 | true=>exact wpAny_pyIter_list hl (h _ rfl)
 | false=>exact wpAny_pyIter_tuple hl (h _ rfl)
theorem n_{b1 b2:Bool}{z TI TO i1 i2 l1 l2:Addr}{k1 k2:Nat}{xs ys:Array Value}{x y a b:Value}{Q:Option Value->Shared->Prop}(D:ZipApart z TI TO i1 i2 l1 l2)
  (hz:IsZip s.heap z TI TO .none) (OV:IsPair s.heap TI (.ref i1) (.ref i2)) (OY:IsPair s.heap TO a b)
  (h1:e6 s.heap b1 i1 l1 k1) (h2:e6 s.heap b2 i2 l2 k2) (PD:gB s.heap b1 l1 xs) (PF:gB s.heap b2 l2 ys) (hx:xs[k1]?=some x) (hy:ys[k2]?=some y)
  (hQ:∀ h',IsZip h' z TI TO (rawInt s.heap.objs.size)->IsPair h' TO x y->e6 h' b1 i1 l1 (k1+1)->e6 h' b2 i2 l2 (k2+1)->IsPair h' s.heap.objs.size x y->h'.objs.size=s.heap.objs.size+1 ->
   (∀ c o,c≠z->c≠TO->c≠i1->c≠i2->s.heap.get? c=some o->h'.get? c=some o)->Q (some (.ref s.heap.objs.size)) { s with heap:=h' }) :
  wpAny (model prog w) A (pyNext (.ref z)) Q E s:=by
 have hT:s.TypeIs (.ref z) "zip" := ⟨_,hz,rfl⟩
 unfold pyNext
 exact wpAny_bind (wpAny_attempt (wpAny_callSpecial?_slot (name:=Str.ofString "__next__") hT F.slot_zip_next
  (wpAny_call_entry F.slot_zip_next hT F.entry_zip_next
   (Ae D hz OV OY h1 h2 PD PF hx hy λh' a1 a2 a3 a4 a5 a6 a7=>wpAny_pure (hQ h' a1 a2 a3 a4 a5 a6 a7)) (F.args_zip_next_1 _))))
theorem pC{b1 b2:Bool}{z TI TO i1 i2 l1 l2:Addr}{k1 k2:Nat}{xs ys:Array Value}{a b:Value}{Q:Option Value->Shared->Prop}(hh:A.handled=none)(D:ZipApart z TI TO i1 i2 l1 l2)
  (hz:IsZip s.heap z TI TO .none) (OV:IsPair s.heap TI (.ref i1) (.ref i2)) (OY:IsPair s.heap TO a b)
  (h1:e6 s.heap b1 i1 l1 k1) (h2:e6 s.heap b2 i2 l2 k2) (PD:gB s.heap b1 l1 xs) (PF:gB s.heap b2 l2 ys) (PR:xs[k1]?=none\/ys[k2]?=none)
  (hQ:∀ h',(∀ c o,c≠z->c≠TO->c≠i1->c≠i2->s.heap.get? c=some o->h'.get? c=some o)->Q none { s with heap:=h' }):wpAny (model prog w) A (pyNext (.ref z)) Q E s:=by
 have hT:s.TypeIs (.ref z) "zip" := ⟨_,hz,rfl⟩
 unfold pyNext
 refine wpAny_bind (wpAny_attempt (wpAny_callSpecial?_slot (name:=Str.ofString "__next__") hT F.slot_zip_next
  (wpAny_call_entry F.slot_zip_next hT F.entry_zip_next (CH hh D hz OV OY h1 h2 PD PF PR λh' e hk he=>?_) (F.args_zip_next_1 _))))
 obtain⟨o,ho,hc⟩:=he
 refine wpAny_bind (wpAny_isInstance (T := "StopIteration") (b:=true) ⟨o,ho,hc⟩ isSubtype_stop ?_)
 exact wpAny_pure (hQ _ hk)
abbrev F_(b:Bool)(l:Addr):Obj:={ cls:=.type (if b then "list_iterator" else "tuple_iterator"),data:=.fields #[.ref l,.int 0 0] }
abbrev Jf(h:Heap)(b1:Bool)(l1:Addr):Heap:=h.push (F_ b1 l1)
abbrev GN(h:Heap)(b1 b2:Bool)(l1 l2:Addr):Heap:=(Jf h b1 l1).push (F_ b2 l2)
abbrev LO(h:Heap)(b1 b2:Bool)(l1 l2:Addr):Heap:=(GN h b1 b2 l1 l2).push { cls:=.type "tuple", data:=.seq #[.ref h.objs.size,.ref (Jf h b1 l1).objs.size] }
abbrev LH(h:Heap)(b1 b2:Bool)(l1 l2:Addr):Heap:=(LO h b1 b2 l1 l2).push { cls:=.type "tuple", data:=.seq #[.none,.none] }
abbrev HU(h:Heap)(b1 b2:Bool)(l1 l2:Addr):Heap:=(LH h b1 b2 l1 l2).push { cls:=.type "zip", data:=.fields #[.none,.bool false,.bool false,.ref (GN h b1 b2 l1 l2).objs.size,.ref (LO h b1 b2 l1 l2).objs.size] }
end
theorem gy{prog:Program}{w:World}{A:Around}{E:Value->Shared->Prop}{s:Shared}{b:Bool}{l:Addr}{items:Array Value}{Q:Value->Shared->Prop}(hl:gB s.heap b l items)
  (h:Q (.ref s.heap.objs.size) { s with heap:=s.heap.push (F_ b l) }):wpAny (model prog w) A (pyIter (.ref l)) Q E s:=xf hl λo e=>by subst e;exact h
theorem gB.push{h:Heap}{b:Bool}{l:Addr}{xs:Array Value}(x:gB h b l xs)(o:Obj):gB (h.push o) b l xs:=x.at λ_ e=>Heap.get?_push_of_some _ e
theorem qH(b1 b2:Bool)(l1 l2:Addr)(xs ys:Array Value) :
  Meets (Builtin.«zip.__new__» ⟨[.type "zip", .ref l1,.ref l2],[]⟩) (λ_ R s=>gB s.heap b1 l1 xs/\gB s.heap b2 l2 ys ∧
   R (.ok (.ret (.ref (LH s.heap b1 b2 l1 l2).objs.size))) { s with heap:=HU s.heap b1 b2 l1 l2 }) :=
 .of_wp λprog w A R s h=>by
  obtain⟨hp,g,d,tk,os⟩:=s;obtain⟨PD,PF,h⟩:=h
  have RU:=sub_zip
  have hL1:gB (Shared.heap ⟨hp,g,d,tk,os⟩) b1 l1 xs:=PD
  have hL2:gB (Shared.heap ⟨hp.push (F_ b1 l1),g,d,tk,os⟩) b2 l2 ys:=gB.push PF _
  wp_walk using gy hL1,gy hL2
  exact⟨_,rfl,h⟩
section
variable{prog:Program}{w:World}{A:Around}{E:Value->Shared->Prop}{s:Shared}
theorem e6.new(h:Heap)(b:Bool)(it l:Addr)(e:h.get? it=some (F_ b l)):e6 h b it l 0:=by
 cases b with
 | true=>exact⟨_,e,rfl,rfl⟩
 | false=>exact⟨_,e,rfl,rfl⟩
theorem Ah{b1 b2:Bool}{l1 l2:Addr}{xs ys:Array Value}{Q:Value->Shared->Prop}(PD:gB s.heap b1 l1 xs)(PF:gB s.heap b2 l2 ys)
  (h:∀ h',IsZip h' (s.heap.objs.size+4) (s.heap.objs.size+2) (s.heap.objs.size+3) .none->IsPair h' (s.heap.objs.size+2) (.ref s.heap.objs.size) (.ref (s.heap.objs.size+1)) ->
   IsPair h' (s.heap.objs.size+3) .none .none->e6 h' b1 s.heap.objs.size l1 0->e6 h' b2 (s.heap.objs.size+1) l2 0->h'.objs.size=s.heap.objs.size+5 ->
   (∀ c o,s.heap.get? c=some o->h'.get? c=some o)->Q (.ref (s.heap.objs.size+4)) { s with heap:=h' }) :
  wpAny (model prog w) A (call (.type "zip") [.ref l1,.ref l2]) Q E s:=by
 refine callType_new F.called_zip (by decide) (F.typeCall_zip_2 _ _) (F.newCall_zip_2 _ _) (λobj=>F.args_object_init_3 obj _ _) F.entry_zip_new
  (qH b1 b2 l1 l2 xs ys) ⟨PD,PF,?_⟩
 have z1:(Jf s.heap b1 l1).objs.size=s.heap.objs.size+1:=Heap.size_push ..
 have z2:(GN s.heap b1 b2 l1 l2).objs.size=s.heap.objs.size+2:=by rw[Heap.size_push,z1]
 have z3:(LO s.heap b1 b2 l1 l2).objs.size=s.heap.objs.size+3:=by rw[Heap.size_push,z2]
 have z4:(LH s.heap b1 b2 l1 l2).objs.size=s.heap.objs.size+4:=by rw[Heap.size_push,z3]
 have z5:(HU s.heap b1 b2 l1 l2).objs.size=s.heap.objs.size+5:=by rw[Heap.size_push,z4]
 have g5:(HU s.heap b1 b2 l1 l2).get? (LH s.heap b1 b2 l1 l2).objs.size=some _:=Heap.get?_push_size _ rfl
 have g4:(HU s.heap b1 b2 l1 l2).get? (LO s.heap b1 b2 l1 l2).objs.size=some _:=Heap.get?_push_of_some _ (Heap.get?_push_size _ rfl)
 have g3:(HU s.heap b1 b2 l1 l2).get? (GN s.heap b1 b2 l1 l2).objs.size=some _:=Heap.get?_push_of_some _ (Heap.get?_push_of_some _ (Heap.get?_push_size _ rfl))
 have g2:(HU s.heap b1 b2 l1 l2).get? (Jf s.heap b1 l1).objs.size=some _:=Heap.get?_push_of_some _ (Heap.get?_push_of_some _ (Heap.get?_push_of_some _ (Heap.get?_push_size _ rfl)))
 have g1:(HU s.heap b1 b2 l1 l2).get? s.heap.objs.size=some _:=Heap.get?_push_of_some _ (Heap.get?_push_of_some _ (Heap.get?_push_of_some _ (Heap.get?_push_of_some _ (Heap.get?_push_size _ rfl))))
 show _/\_
 rw[z2,z3,z4] at g5
 rw[z1,z2] at g3
 rw[z3] at g4
 rw[z1] at g2
 rw[z4]
 exact⟨⟨_,g5,rfl⟩,h _ g5 g3 g4 (e6.new _ b1 _ _ g1) (e6.new _ b2 _ _ g2) z5 λc o x =>
  Heap.get?_push_of_some _ (Heap.get?_push_of_some _ (Heap.get?_push_of_some _ (Heap.get?_push_of_some _ (Heap.get?_push_of_some _ x))))⟩
end
def lZ(K:PySem.W.Frag)(H:Hp)(b:Bool)(a:Addr)(xs:List V):Prop:=match b with
 | true=>iS K H a xs
 | false=>iF K H a xs
section
variable{X:Cx}
theorem Inv.row{N8:List (Addr×Obj)}{σ:St}{H:Hp}{s:Shared}{b:Bool}{a:Addr}{xs:List V}(I:Inv X N8 σ H s)(h:lZ X.K H b a xs):∃ Ob:List Value,Vals xs Ob/\gB s.heap b a Ob.toArray/\xs.length<=sizeLine:=by
 cases b with
 | true =>
  obtain⟨Ob,r,p,z⟩:=I.list h
  exact⟨Ob,r,p.isList,z⟩
 | false =>
  obtain⟨Ob,r,p,z⟩:=I.tuple h
  exact⟨Ob,r,p,z⟩
theorem Inv.nM{N8:List (Addr×Obj)}{σ:St}{H:Hp}{s:Shared}{b:Bool}{a:Addr}{xs ys:List V}(I:Inv X N8 σ H s)(h:lZ X.K H b a xs)(h':lZ X.K H b a ys):xs=ys:=by
 cases b with
 | true=>exact I.qe h h'
 | false=>exact I.n8 h h'
theorem Inv.zy{N8:List (Addr×Obj)}{σ:St}{H:Hp}{s:Shared}{h':Heap}{t':Nat}{ch:List Addr}(I:Inv X N8 σ H s)(k:∀ b u,b ∉ ch->s.heap.get? b=some u->h'.get? b=some u)
  (Qe:∀ b∈ch,nG X N8 H b):Inv X N8 σ H { s with heap:=h',toks:=t' }:=by
 have QU:∀ b u,H b=some u->b ∉ ch:=λb u e z=>by rw[(Qe b z).1] at e;cases e
 refine I.step (g':=s.gens) (d':=s.drawn) (ch:=ch) (λb hb=>?_) (λb u _ _ hc e _=>k b u hc e) (λb u _ _ hc e _=>⟨u.slots,k b u hc e⟩)
  (λb u _ e n=>n) (λb u hc e=>⟨u,k b u hc e⟩) (λb xs e=>e) (λb ob u e=>e) (λb ps e=>⟨#[],by rw[e];simp⟩) (λm hm=>?_) (λb u e=>?_) I.bare
 ·obtain⟨_,f1,_,f3,f4,f5⟩:=Qe b hb
  exact⟨f3,f1,f4,f5⟩
 ·obtain⟨ob,es,ep,ho,r⟩:=hm
  exact⟨ob,es,ep,k _ ob (λz=>(Qe _ z).2.1 rfl) ho,r⟩
 ·refine(I.bC b u e).mR (λc v hc q=>k c v ?_ q) (λc q=>q) λc ys q=>q
  rcases hc with z' | z'
  ·rw[z'];exact QU b u e
  ·exact QU c _ z'
theorem cL{N8:List (Addr×Obj)}{σ:St}{H:Hp}{s:Shared}{b:Bool}{a c:Addr}{xs:List V}(I:Inv X N8 σ H s)(h:lZ X.K H b a xs)(f:nG X N8 H c):a≠c:=by
 have rd:∀ {u:HO},Rd H a u->a≠c:=λ{u} r=>by
  rcases r with r | ⟨o,r⟩
  ·exact bQ r f.1
  ·exact bQ r f.1
 have mk:∀ {o:Obj},X.K.lookup a=some o->a≠c:=λ{o} e z=>by
  subst z
  have e':=I.ok.mod.Fe _ _ e
  rcases f.2.2.2.1 with q | q
  ·exact I.ok.vg _ _ e' q
  ·exact absurd (Nat.lt_of_lt_of_le (Heap.lt_size (I.ok.bs _ _ e').1) q) (Nat.lt_irrefl _)
 cases b with
 | true =>
  rcases(show iS X.K H a xs from h) with r | ⟨o,Ob,n,e,_⟩
  ·exact rd r
  ·exact mk e
 | false =>
  rcases(show iF X.K H a xs from h) with r | ⟨o,Ob,n,e,_⟩
  ·exact rd r
  ·exact mk e
def ME (K : PySem.W.Frag) (b1 b2 : Bool) (a1 a2 : Addr) : It :=
  ⟨λi H => ∃ xs ys x y, lZ K H b1 a1 xs /\ lZ K H b2 a2 ys /\ xs[i]? = some x /\ ys[i]? = some y,
   λi H v H' => ∃ p x y, H p = none /\ v = .ref p /\ H' = upd H p (.tup [x, y]) /\ (∀ xs, lZ K H b1 a1 xs -> xs[i]? = some x) /\ (∀ ys, lZ K H b2 a2 ys -> ys[i]? = some y),
   λi H => ∃ xs ys, lZ K H b1 a1 xs /\ lZ K H b2 a2 ys /\ (xs.length <= i \/ ys.length <= i)⟩
theorem DJ{P:Program}{w:World}{K:PySem.W.Frag}{elts:List Expr}{x1:Nat}{tp:Pos}(b1 b2:Bool)(a1 a2 z TI TO i1 i2:Addr)(D:TI≠z/\TO≠z/\i1≠z/\i2≠z/\TI≠TO/\TI≠i1/\TI≠i2/\TO≠i1/\TO≠i2/\i1≠i2) :
  Turn P w K (.Tuple elts x1 tp) (ME K b1 b2 a1 a2) [z,TO,i1,i2,TI] z (λi h=>IsZip h z TI TO .none/\IsPair h TI (.ref i1) (.ref i2)/\(∃ a b,IsPair h TO a b)/\e6 h b1 i1 a1 i/\e6 h b2 i2 a2 i) where
 mem:=by simp
 obj:=λi h st b hb=>by
  obtain⟨hz,OV,⟨a,c,OY⟩,h1,h2⟩:=st
  simp only[List.mem_cons,List.mem_nil_iff,or_false] at hb
  rcases hb with q | q | q | q | q <;> subst q
  ·exact⟨_,hz,λv z=>by cases z⟩
  ·exact⟨_,OY,λv z=>by cases z⟩
  ·obtain⟨o,vs,e,d⟩:=h1.obj
   exact⟨o,e,λv z=>by rw[d] at z;cases z⟩
  ·obtain⟨o,vs,e,d⟩:=h2.obj
   exact⟨o,e,λv z=>by rw[d] at z;cases z⟩
  ·exact⟨_,OV,λv z=>by cases z⟩
 keep:=λi h h' st k=>by
  obtain⟨hz,OV,⟨a,c,OY⟩,h1,h2⟩:=st
  exact⟨k z (by simp) _ hz,k TI (by simp) _ OV,⟨a,c,k TO (by simp) _ OY⟩,h1.at λo e=>k i1 (by simp) o e,h2.at λo e=>k i2 (by simp) o e⟩
 item:=by
  intro X hP hw hK hc i N8 s σ H E I hf st hg
  subst hP hw hK
  obtain⟨xs,ys,x,y,OW,OL,hx,hy⟩:=hg
  obtain⟨QQ,Q7,p1,RW⟩:=I.row OW
  obtain⟨P_,Q8,p2,RX⟩:=I.row OL
  obtain⟨u1,hu1,ru1⟩:=Q7.get hx
  obtain⟨u2,hu2,ru2⟩:=Q8.get hy
  obtain⟨hz,OV,⟨a,c,OY⟩,h1,h2⟩:=st
  obtain⟨d1,d2,d3,d4,d5,d6,d7,d8,d9,d10⟩:=D
  obtain⟨o1,n1,e1,dd1⟩:=p1.obj
  obtain⟨o2,n2,e2,RB⟩:=p2.obj
  obtain⟨oi1,vs1,RD,di1⟩:=h1.obj
  obtain⟨oi2,vs2,RE,di2⟩:=h2.obj
  have D:ZipApart z TI TO i1 i2 a1 a2:=⟨d1,d2,d3,d4,d5,d6,d7,d8,d9,d10,cL I OW (hf z (by simp)),cL I OW (hf TO (by simp)),cL I OW (hf i1 (by simp)),cL I OW (hf i2 (by simp)),
   cL I OL (hf z (by simp)),cL I OL (hf TO (by simp)),cL I OL (hf i1 (by simp)),cL I OL (hf i2 (by simp))⟩
  refine n_ D hz OV OY h1 h2 p1 p2 (x:=u1) (y:=u2) (by simpa using hu1) (by simpa using hu2) λh' g1 g2 g3 g4 g5 g6 g7=>⟨_,rfl,?_⟩
  refine wpAny_letOwnedTupleGo_zip (s:={ s with heap:=h' }) g1 λh3 hz3 Qu=>?_
  have PH:H s.heap.objs.size=none:=I.bC.fresh (Nat.le_refl _)
  have lt:∀ {c:Addr} {o:Obj},s.heap.get? c=some o->c≠s.heap.objs.size:=λe=>Nat.ne_of_lt (Heap.lt_size e)
  have QS:∀ b o,b ∉ [z,TO,i1,i2,TI]->s.heap.get? b=some o->h3.get? b=some o:=λb o hb q=>by
   simp only[List.mem_cons,List.mem_nil_iff,or_false,not_or] at hb
   exact(Qu.2 b hb.1).trans (g7 b o hb.1 hb.2.1 hb.2.2.1 hb.2.2.2.1 q)
  have hT3:h3.get? s.heap.objs.size=some { cls:=.type "tuple", data:=.seq #[u1,u2] }:=(Qu.2 _ (lt hz).symm).trans g5
  have I3:Inv X N8 σ (upd H s.heap.objs.size (.tup [x,y])) { s with heap:=h3,toks:=s.toks } :=
   I.lQ (ch:=[z,TO,i1,i2,TI]) QS hf (Nat.le_refl _) (λb hb=>by
    simp only[List.mem_cons,List.mem_nil_iff,or_false] at hb
    rcases hb with q | q | q | q | q <;> subst q
    ·exact⟨_,hz⟩
    ·exact⟨_,OY⟩
    ·exact⟨_,RD⟩
    ·exact⟨_,RE⟩
    ·exact⟨_,OV⟩)
    ⟨by show 2<=sizeLine;decide,[u1,u2],.cons ru1 (.cons ru2 .nil),⟨_,hT3,rfl,_,rfl⟩⟩
  refine⟨.ref s.heap.objs.size,_,I3,rfl,⟨_,x,y,PH,rfl,rfl,λzs Q6=>by rw[I.nM Q6 OW];exact hx,λzs Q6=>by rw[I.nM Q6 OL];exact hy⟩,
   ⟨hz3,(Qu.2 TI d1).trans (g7 TI _ d1 d5 d6 d7 OV),⟨_,_,(Qu.2 TO d2).trans g2⟩,g3.at λo e=>(Qu.2 i1 d3).trans e,g4.at λo e=>(Qu.2 i2 d4).trans e⟩,λb hb=>?_⟩
  have nb:b≠s.heap.objs.size:=by
   simp only[List.mem_cons,List.mem_nil_iff,or_false] at hb
   rcases hb with q | q | q | q | q <;> subst q
   ·exact lt hz
   ·exact lt OY
   ·exact lt RD
   ·exact lt RE
   ·exact lt OV
  rw[ax nb]
  exact(hf b hb).1
 done:=by
  intro X hP hw hK hc i N8 s σ H E I hf st hg
  subst hP hw hK
  obtain⟨xs,ys,OW,OL,PR⟩:=hg
  obtain⟨QQ,Q7,p1,RW⟩:=I.row OW
  obtain⟨P_,Q8,p2,RX⟩:=I.row OL
  obtain⟨hz,OV,⟨a,c,OY⟩,h1,h2⟩:=st
  obtain⟨d1,d2,d3,d4,d5,d6,d7,d8,d9,d10⟩:=D
  have D:ZipApart z TI TO i1 i2 a1 a2:=⟨d1,d2,d3,d4,d5,d6,d7,d8,d9,d10,cL I OW (hf z (by simp)),cL I OW (hf TO (by simp)),cL I OW (hf i1 (by simp)),cL I OW (hf i2 (by simp)),
   cL I OL (hf z (by simp)),cL I OL (hf TO (by simp)),cL I OL (hf i1 (by simp)),cL I OL (hf i2 (by simp))⟩
  have l1:=Q7.length
  have l2:=Q8.length
  refine pC (I.ok.hd hc) D hz OV OY h1 h2 p1 p2 ?_ λh' k=>⟨rfl,?_⟩
  ·rcases PR with q | q
   ·exact .inl (by simp;omega)
   ·exact .inr (by simp;omega)
  ·exact I.zy (t':=s.toks) (ch:=[z,TO,i1,i2,TI]) (λb u hb e=>by
    simp only[List.mem_cons,List.mem_nil_iff,or_false,not_or] at hb
    exact k b u hb.1 hb.2.1 hb.2.2.1 hb.2.2.2.1 e) hf
 self:=λ_ _ _ _ _ st h=>by
  obtain⟨hz,_⟩:=st
  exact wpAny_pyIter_zip hz h
theorem JO(n:Nat):n+2≠n+4/\n+3≠n+4/\n≠n+4/\n+1≠n+4/\n+2≠n+3/\n+2≠n/\n+2≠n+1/\n+3≠n/\n+3≠n+1/\n≠n+1:=by
 refine⟨?_,?_,?_,?_,?_,?_,?_,?_,?_,?_⟩ <;> omega
def Li(K:PySem.W.Frag)(tl:TA):TI:=fun σ H R=>tl σ H λvs H1=>∃ b1 b2 a1 a2,vs=[.ref a1,.ref a2]/\(∃ xs,lZ K H1 b1 a1 xs)/\(∃ ys,lZ K H1 b2 a2 ys)/\R (ME K b1 b2 a1 a2) H1
theorem gI{elts:List Expr}{x1:Nat}{tp:Pos}{l1 l2:Expr}{tl:TA}{p pos:Pos}(hg:Gl X "zip")(hm:X.mg "zip" = none)(hl:PA X [l1,l2] tl)(hs:starEach [l1,l2] X.env=[(false,eval l1 X.env),(false,eval l2 X.env)]:=by rfl)(PK:starEach [l2] X.env=[(false,eval l2 X.env)]:=by rfl) :
  PI X (.Tuple elts x1 tp) (.Call (.Name "zip" p) [l1,l2] [] pos) (Li X.K tl):=by
 intro N8 s σ H R I h
 refine Call_ (j6 I hg hm PyProof.Rows.boot_zip (PyProof.Rows.callWith_type1 (cB (hl pos N8 s σ H _ I h) λus s1 ⟨vs,H1,I1,r1,q1⟩=>?_) (by rw[hs,PK]) (by rw[PK];rfl)))
 obtain⟨b1,b2,a1,a2,e,⟨xs,OW⟩,⟨ys,OL⟩,q⟩:=q1
 subst e
 cases r1 with
 | cons r rr =>
  cases rr with
  | cons r' rr =>
   cases rr
   cases (show _=Value.ref a1 from r)
   cases (show _=Value.ref a2 from r')
   obtain⟨QQ,Q7,p1,RW⟩:=I1.row OW
   obtain⟨P_,Q8,p2,RX⟩:=I1.row OL
   refine Ah p1 p2 λh' g1 g2 g3 g4 g5 g6 g7=>?_
   have I2:Inv X N8 σ H1 { s1 with heap:=h' }:=I1.kept (t':=s1.toks) g7
   refine wpAny_pyIter_zip (s:={ s1 with heap:=h' }) g1 ?_
   refine⟨s1.heap.objs.size+4,[s1.heap.objs.size+4,s1.heap.objs.size+3,s1.heap.objs.size,s1.heap.objs.size+1,s1.heap.objs.size+2],_,_,H1,rfl,I2,
    DJ b1 b2 a1 a2 _ _ _ _ _ (JO s1.heap.objs.size),⟨g1,g2,⟨_,_,g3⟩,g4,g5⟩,λb hb=>?_,q⟩
   have hle:s1.heap.objs.size<=b:=by
    simp only[List.mem_cons,List.mem_nil_iff,or_false] at hb
    rcases hb with q | q | q | q | q
    ·rw[q];exact Nat.le_add_right _ 4
    ·rw[q];exact Nat.le_add_right _ 3
    ·rw[q];exact Nat.le_refl _
    ·rw[q];exact Nat.le_add_right _ 1
    ·rw[q];exact Nat.le_add_right _ 2
   exact I1.vq hle (I1.bC.fresh hle)
end
end L2
namespace L2
open PySem PySem.Spec PyProof.Rows
def MR(K:PySem.W.Frag)(b:Bool)(a:Addr):It:=match b with
 | true=>Nz K a
 | false=>NC K a
section
variable{X:Cx}{tg:Expr}
def K4(K:PySem.W.Frag)(tl:TE):TI:=fun σ H R=>tl σ H λx H1=>∃ b a,x=.ref a/\(∃ xs,lZ K H1 b a xs)/\R (MR K b a) H1
theorem eQ{l:Expr}{tl:TE}(hl:PE X l tl):PI X tg l (K4 X.K tl):=by
 intro N8 s σ H R I h
 refine cB (hl N8 s σ H _ I h) λv s1 ⟨x,H1,I1,r1,q1⟩=>?_
 obtain⟨b,a,e,⟨xs,hq⟩,q⟩:=q1
 subst e
 cases r1
 cases b with
 | true =>
  obtain⟨Ob,rv,p,hz⟩:=I1.list hq
  refine wpAny_pyIter_list p.isList ?_
  refine⟨s1.heap.objs.size,[s1.heap.objs.size],_,_,H1,rfl,I1.kept (t':=s1.toks) λb o e=>Heap.get?_push_of_some _ e,AM a _,⟨_,Heap.get?_push_size _ rfl,rfl,rfl⟩,λb hb=>?_,q⟩
  have e:b=s1.heap.objs.size:=by simpa using hb
  subst e
  exact I1.vq (Nat.le_refl _) (I1.bC.fresh (Nat.le_refl _))
 | false =>
  obtain⟨Ob,rv,p,hz⟩:=I1.tuple hq
  refine wpAny_pyIter_tuple (show s1.heap.IsTuple a Ob.toArray from p) ?_
  refine⟨s1.heap.objs.size,[s1.heap.objs.size],_,_,H1,rfl,I1.kept (t':=s1.toks) λb o e=>Heap.get?_push_of_some _ e,yH a _,⟨_,Heap.get?_push_size _ rfl,rfl,rfl⟩,λb hb=>?_,q⟩
  have e:b=s1.heap.objs.size:=by simpa using hb
  subst e
  exact I1.vq (Nat.le_refl _) (I1.bC.fresh (Nat.le_refl _))
end
section
end
section
variable{X:Cx}
theorem Be(hc:X.calm=true):dC X (.builtin "sum") (λxs H Q=>∃ (a:Addr) (ns:List Int),xs=[.ref a]/\iS X.K H a (ns.map V.int)/\Q (.int ns.sum) H):=by
 intro N8 s σ H xs us Q I r h
 obtain⟨a,ns,rfl,hq,q⟩:=h
 cases r with
 | cons r1 r2 =>
  cases r2
  cases (show _=Value.ref a from r1)
  obtain⟨Ob,rv,p,hz⟩:=I.list hq
  have hi:=intsAre_of rv
  obtain⟨xs',e⟩:=hi.allInts.items
  have e3:numsOf (intItems xs').toList=ns:=by rw[← e];exact hi.numsOf
  rw[nums_intItems] at e3
  refine sum_intListG (I.ok.hd hc) (by rw[← e];exact p.isList) λh' tk t' hk=>⟨.int ns.sum,H,I.kept (t':=tk) hk,⟨t',?_⟩,q⟩
  rw[preSum_eq,List.take_of_length_le (by simp),e3]
end
end L2
namespace L2
open PySem PySem.Spec PyProof.Rows
structure h_ (K:PySem.W.Frag) (C:Addr):Prop where
 ga:PySem.W.findIn K (.ref C) "__getattribute__" = some (some (.builtin "BaseException.__getattribute__"))
 gn:PySem.W.findIn K (.ref C) "__getattr__" = some none
 hd:PySem.W.hasDictIn K C=true
 sa:PySem.W.findIn K (.ref C) "__setattr__" = some (some (.builtin "object.__setattr__"))
 mb:PySem.W.mroIn K C (.type "BaseException")=some true
 mo:PySem.W.mroIn K C (.type "object")=some true
 ca:PySem.W.findIn K (.ref C) "__class__" = some (some (.builtin "object.__class__"))
 cg:PySem.W.specialIn K (.builtin "object.__class__") "__get__" = some (some (.builtin "getset_descriptor.__get__"))
 ct:PySem.W.takesIn K (.builtin "object.__class__")=some true
section
variable{prog:Program}{w:World}{A:Around}{E:Value->Shared->Prop}{s:Shared}{K:PySem.W.Frag}{x C:Addr}{ox:Obj}{od:Option Obj}{name:Str}
theorem DV:builtinKind "BaseException.__getattribute__" = some .slot:=by decide +kernel
theorem Ag:splitId "BaseException.__getattribute__" = some ("BaseException", "__getattribute__"):=by decide +kernel
theorem Jd{tk:Tok}{fill expr:Bool}{Q:Value->Shared->Prop}(c:h_ K C)(X:K.In s.heap)(I:PySem.W.InstAt s.heap x ox C od)
  (h:wpAny (model prog w) A.in1 (Builtin.«object.__getattribute__» ⟨[.ref x,.str name tk],[]⟩)
   (λfin s'=>match fin with | .done (.ret v)=>wpAny (model prog w) A (handedOut v) Q E s' | _=>False) (λ_ _=>False) s) :
  wpAny (model prog w) A (getAttrBy (.ref x) (.str name tk) fill expr) Q E s:=by
 have PY:(Value.builtin "BaseException.__getattribute__" == Value.builtin "object.__getattribute__")=false:=by decide +kernel
 have Rz:(onTheHeap (Value.ref C)&&Value.builtin "BaseException.__getattribute__" == Value.builtin "object.__getattribute__")=false:=by rw[PY];rfl
 have hx0:(expr&&onTheHeap (Value.builtin "BaseException.__getattribute__"))=false:=by cases expr <;> rfl
 have sub:PySem.W.Looks (model prog w) s.heap (isInstance (.ref x) (.type "BaseException")) true:=I.type.andThen (PySem.W.looks_mroIn X c.mb)
 unfold getAttrBy
 refine wpAny_holding (wpAny_bind (I.type.here (wpAny_bind ((PySem.W.looks_findIn X c.ga).here ?_))))
 dsimp only
 rw[Rz,if_neg Bool.false_ne_true]
 unfold getAttrByItsOwn hookBefore
 refine wpAny_bind ?_
 show wpAny _ _ (typeLookup (.ref C) "__getattr__") _ _ _
 refine(PySem.W.looks_findIn X c.gn).here ?_
 refine wpAny_bind (wpAny_attempt (wpAny_holding ?_))
 unfold callGetattribute
 rw[hx0,if_neg Bool.false_ne_true]
 unfold boundAndCalled
 refine wpAny_bind (wpAny_of_eq (PySem.F.attr_ValueError.ga.bind _) ?_)
 refine wpAny_call (codeAny_call_builtin PySem.F.attr_ValueError.ga.plain PySem.F.entry_bexc_ga (@PySem.W.check_slot (model prog w) _ _ s "BaseException.__getattribute__" "BaseException" "__getattribute__" (.ref x) [.str name tk] [] _ DV Ag sub (PySem.F.args_bexc_ga _ _) ?_))
 refine wpAny_mono h (λfin s' z=>?_) (λ_ _ z=>z.elim)
 rcases fin with (v | _ | _ | _) | _ <;> first | exact z | exact z.elim
end
end L2
namespace L2
open PySem PySem.Spec PyProof.Rows
open PySem.Builtin.ObjectAttr (storeInOwnDict storeTaker? setByDescriptor)
abbrev fS:List Value:=[.type "ValueError", .type "Exception", .type "BaseException", .type "object"]
def gT:List Value->Bool
 | .ref _::r=>gT r
 | l=>l==fS
theorem rm(self:Value):refuseLoop self "__setattr__" fS=pure ():=by kernel_rfl
theorem o3(self:Value):∀ {l:List Value},gT l=true->refuseLoop self "__setattr__" l=pure ()
 | .ref c::r,e=>by rw[PySem.refuseLoop_ref];exact o3 self e
 | [],e=>by cases (show false=true from e)
 | .type n::r,e=>by rw[show Value.type n::r=fS from beq_iff_eq.mp e];exact rm self
 | .none::r,e=>by rw[show Value.none::r=fS from beq_iff_eq.mp e];exact rm self
section
variable{prog:Program}{w:World}{A:Around}{E:Value->Shared->Prop}{s:Shared}{K:PySem.W.Frag}{x C:Addr}{ox:Obj}{od:Option Obj}{name:Str}
theorem sq{a g:Value}(hc:(PySem.W.clsIn K C).isSome=true)(ha:PySem.W.findIn K (.ref C) name=some (some a))(hg:PySem.W.specialIn K a "__get__" = some (some g))(ht:PySem.W.takesIn K a=some true):PySem.W.findObj K C od name=some (.bind g a):=by
 obtain⟨cd,hc⟩:=Option.isSome_iff_exists.mp hc
 unfold PySem.W.findObj
 rw[hc,Option.bind_some,ha,Option.bind_some]
 simp[hg,ht]
theorem A7{Q:Option Value->Shared->Prop}(c:h_ K C)(X:K.In s.heap)(I:PySem.W.InstAt s.heap x ox C od)(h:Q (some (.ref C)) { s with toks:=s.toks+1 }):wpAny (model prog w) A (getAttr? (.ref x) "__class__") Q E s:=by
 have hc:(PySem.W.clsIn K C).isSome=true:=by obtain⟨cd,hc,_⟩:=PySem.W.any_some c.hd;rw[hc];rfl
 have hf:PySem.W.findObj K C od "__class__" = some (.bind (.builtin "getset_descriptor.__get__") (.builtin "object.__class__")):=sq hc c.ca c.cg c.ct
 unfold getAttr? getAttrBy?
 refine wpAny_bind (wpAny_mkText (wpAny_bind (wpAny_attempt ?_)))
 refine Jd (s:={ s with toks:=s.toks+1 }) c X I ?_
 unfold Builtin.«object.__getattribute__»
 refine wpAny_bind (wpAny_pure ?_)
 dsimp only
 refine wpAny_bind (wpAny_pure ?_)
 refine wpAny_bind (I.type.here (s:={ s with toks:=s.toks+1 }) (wpAny_bind ((PySem.W.looks_find X I hf).here (s:={ s with toks:=s.toks+1 }) ?_)))
 show wpAny _ _ (holding [.builtin "object.__class__"] (call (.builtin "getset_descriptor.__get__") [.builtin "object.__class__", .ref x,.ref C]) >>= ret) _ _ _
 refine wpAny_bind (wpAny_holding (wpAny_call (PySem.W.class_get (s:={ s with toks:=s.toks+1 }) (ox:=ox) (od:=od) X I c.mo ?_)))
 refine wpAny_pure ?_
 exact PySem.W.handed_on rfl (wpAny_pure h)
theorem xo(c:h_ K C):PySem.W.KitX K (.ref x) (.ref C) (λh=>PySem.W.InstAt h x ox C od) where
 ty:=λ_ _ _ I=>I.type
 it:=λ_ _ X _=>by
  obtain⟨cdD,QG,_⟩:=PySem.W.any_some c.hd
  unfold PySem.W.clsIn at QG
  split at QG
  ·rename_i c' d' cd' sl' ho
   intro A' Q' E' s' k q
   unfold isType loadHead
   exact wpAny_bind (wpAny_loadPart (k _ _ (X _ _ ho)) (wpAny_pure q))
  ·cases QG
 ne:=λh tp dd Ob n sl X htp=>by
  obtain⟨cdD,QG,_⟩:=PySem.W.any_some c.hd
  refine Bool.eq_false_iff.mpr λq=>?_
  have e:C=tp:=Value.ref.inj (beq_iff_eq.mp q)
  subst e
  unfold PySem.W.clsIn at QG
  split at QG
  ·rename_i c' d' cd' sl' ho
   have z:=(X _ _ ho).symm.trans htp
   cases z
  ·cases QG
 ca:=λX I k=>A7 c X I k
theorem E1{tk:Tok}{v:Value}{R:Result->Shared->Prop}(po:((PySem.W.clsIn K C).any λcd=>gT cd.mro)=true)(c:h_ K C)(X:K.In s.heap)(I:PySem.W.InstAt s.heap x ox C od)(ht:PySem.W.takerIn K C name=some none)
  (h:∀ b,wpAny (model prog w) A.in1 (storeInOwnDict (.ref x) (.ref C) (.str name tk) name v b)
   (λfin s'=>match fin with | .done f=>R (.ok f) s' | .again c'=>c'.quiet=true/\codeAny (model prog w) A c' R s') (λe s'=>R (.error e) s') s) :
  codeAny (model prog w) A (.call (.builtin "object.__setattr__") ⟨[.ref x,.str name tk,v],[]⟩) R s:=by
 have SF:=PySem.F.store_object
 obtain⟨cd,hc,ho⟩:=PySem.W.any_some po
 have sub:PySem.W.Looks (model prog w) s.heap (isInstance (.ref x) (.type "object")) true:=I.type.andThen (PySem.W.looks_mroIn X c.mo)
 refine codeAny_call_builtin SF.slot.plain SF.entry (@PySem.W.check_slot (model prog w) _ _ s "object.__setattr__" "object" "__setattr__" (.ref x) [.str name tk,v] [] _ SF.kind SF.split sub (SF.args (.ref x) (.str name tk) v) ?_)
 obtain⟨attr,ha,hr⟩:=Option.bind_eq_some_iff.mp ht
 have hm:PySem.W.Looks (model prog w) s.heap (mroOf (.ref C)) cd.mro:=(PySem.W.looks_clsIn X hc).andThen .now
 have L3:PySem.W.Looks (model prog w) s.heap (storeTaker? attr) none:=by
  cases attr with
  | none=>cases hr;exact .now
  | some a =>
   obtain⟨b,hb,e⟩:=Option.map_eq_some_iff.mp hr
   refine(PySem.W.looks_takesIn X hb).andThen ?_
   cases b with
   | true=>cases e
   | false=>exact .now
 rw[PySem.W.osa_eq,PySem.refuse_eq]
 refine wpAny_bind (wpAny_bind (I.type.here (wpAny_bind (hm.here ?_))))
 rw[o3 _ ho]
 refine wpAny_pure (wpAny_bind (I.type.here (wpAny_bind ((PySem.W.looks_findIn X ha).here (wpAny_bind (L3.here ?_))))))
 exact h _
theorem Dg{vs:Array Value}{v:Value}{Q:Unit->Shared->Prop}(po:((PySem.W.clsIn K C).any λcd=>gT cd.mro)=true)(c:h_ K C)(X:K.In s.heap)(hx:s.heap.get? x=some ⟨.ref C,none,.fields vs,#[]⟩)(ht:PySem.W.takerIn K C name=some none)
  (h:∀ h' tk d,h'.get? x=some ⟨.ref C,some d,.fields vs,#[]⟩->s.heap.get? d=none->h'.Ns1 d (λy=>if y=name then some v else none)->(∀ b o,b≠x->s.heap.get? b=some o->h'.get? b=some o)->Q () { s with heap:=h',toks:=tk }) :
  wpAny (model prog w) A (setAttr (.ref x) name v) Q E s:=by
 have I:PySem.W.InstAt s.heap x ⟨.ref C,none,.fields vs,#[]⟩ C none:=⟨hx,rfl,rfl,trivial⟩
 refine PySem.W.set_plain X I c.sa (E1 (s:={ s with toks:=s.toks+1 }) po c X I ht λb=>?_)
 obtain⟨cd,hc,RI⟩:=PySem.W.any_some c.hd
 have Pz:=Heap.lt_size hx
 refine wpAny_bind (wpAny_pure (wpAny_bind (wpAny_bind (wpAny_loadPart hx (wpAny_bind (PySem.W.Looks.here (s:={ s with toks:=s.toks+1 }) (PySem.W.looks_clsIn X hc) ?_))))))
 rw[RI]
 refine wpAny_bind (wpAny_alloc ?_)
 have Rz:(s.heap.push { cls:=.type "dict", data:=.dict #[] }).get? x=some ⟨.ref C,none,.fields vs,#[]⟩:=Heap.get?_push_of_some _ hx
 refine wpAny_bind (wpAny_update Rz ?_)
 refine wpAny_pure (a:=some s.heap.objs.size) (wpAny_bind (wpAny_pure (wpAny_bind ?_)))
 have PY:((s.heap.push { cls:=.type "dict", data:=.dict #[] }).update x λo=>{ o with dict:=some s.heap.objs.size }).get? x=some ⟨.ref C,some s.heap.objs.size,.fields vs,#[]⟩:=Heap.get?_update_self _ Rz rfl
 have e1:(s.heap.push { cls:=.type "dict", data:=.dict #[] }).get? s.heap.objs.size=some { cls:=.type "dict", data:=.dict #[] }:=Heap.get?_push_size s.heap rfl
 have nxd:s.heap.objs.size≠x:=Nat.ne_of_gt Pz
 have e2:((s.heap.push { cls:=.type "dict", data:=.dict #[] }).update x λo=>{ o with dict:=some s.heap.objs.size }).get? s.heap.objs.size=some { cls:=.type "dict", data:=.dict #[] }:=by
  rw[Heap.get?_update_other _ _ (Ne.symm nxd)]
  exact e1
 have e3:((s.heap.push { cls:=.type "dict", data:=.dict #[] }).update x λo=>{ o with dict:=some s.heap.objs.size }).Ns s.heap.objs.size (λ_=>none):=⟨_,#[],_,e2,rfl,(λe he=>absurd he (by simp)),λ_=>rfl⟩
 refine wpAny_nsSet1 (s:={ s with heap:=(s.heap.push { cls:=.type "dict", data:=.dict #[] }).update x λo=>{ o with dict:=some s.heap.objs.size },toks:=s.toks+1 }) (Heap.Ns1.of_empty e3) λh' Q5 PK=>?_
 obtain⟨oD,esD,epD,hoD,hdD,QG⟩:=Q5.count (PySem.Within.cons (ns:=[]) name v (λy hy=>absurd rfl hy))
 refine wpAny_bind (wpAny_lookBehind hoD (by rw[hdD];exact pastItsLine_dict (Nat.le_trans QG (by show 1<=sizeLine+1;exact Nat.le_add_left _ _))) ?_)
 refine wpAny_pure (h h' _ s.heap.objs.size ((PK.2 x (Ne.symm nxd)).trans PY) (Heap.get?_none_of_le (Nat.le_refl _)) Q5 λb o hb e=>?_)
 refine(PK.2 b (Nat.ne_of_lt (Heap.lt_size e))).trans ?_
 rw[Heap.get?_update_other _ _ (Ne.symm hb)]
 exact Heap.get?_push_of_some _ e
end
def rh(K:PySem.W.Frag)(C:Addr)(newId:String)(f:Addr):Bool:=match K.lookup C with
 | some ⟨.type "type", _,.cls cd,sl⟩=>(match cd.mro,sl.toList with
  | .ref C'::bm,[_,_,_,_,some (.builtin n),_]=>C'==C&&n==newId&&!cd.hasDel&&PySem.W.tailIn K fS bm&&PySem.W.nsOkIn K cd.ns&&PySem.W.nsIn K cd.ns "__init__" == some (some (.ref f))
  | _,_=>false)
 | _=>false
section
variable{prog:Program}{w:World}{A:Around}{E:Value->Shared->Prop}{h:Heap}{g:Array GenState}{d:Drawn}{t:Nat}{os:OsState}
variable{nm q:Str}{C N:Addr}{bs bm:List Value}{Qk:Bool}{sn:List Str}{sub:List Value}{ab:Bool}{col:Option Bool}{dd:Option Addr}{k0 k1 k2 k3 k5:Option Value}{newId Ro:String}
theorem qE(F:ExcBaseFacts "ValueError" newId Ro fS)(T:OwnTail h fS bm){mN:Str->Option Value}{rest:List Value}{f:Addr}{Q:Fin->Shared->Prop}
  (hC:h.get? C=some (excClassObj nm q C N bs bm Qk sn sub ab col dd k0 k1 k2 k3 k5 newId)) (hn:h.Ns N mN) (Qz:mN "__init__" = some (.ref f))
  (hb:∀ h':Heap,(∀ b o,h.get? b=some o->h'.get? b=some o)->∀ self,PySem.W.Looks (model prog w) h' (bindSpecial (.ref f) self) (.ref f,[self]))
  (hq:∀ h':Heap,(∀ b o,h.get? b=some o->h'.get? b=some o)->h'.get? h.objs.size=some { cls:=.type "tuple", data:=.seq rest.toArray } ->
   h'.get? (h.objs.size+1)=some { cls:=.ref C,data:=.fields #[.ref h.objs.size,.none,.none,.none,.bool false,.none] }->h'.objs.size=h.objs.size+2 ->
   wpAny (model prog w) A (call (.ref f) (.ref (h.objs.size+1)::rest)) (λv s'=>v=.none/\Q (.done (.ret (.ref (h.objs.size+1)))) s') E ⟨h',g,d,t,os⟩) (CL:rest.length<=sizeLine:=by size_fits) :
  wpAny (model prog w) A (Builtin.«type.__call__» ⟨.ref C::rest,[]⟩) Q E ⟨h,g,d,t,os⟩:=by
 repeat (first | with_reducible refine wpAny_loadPart_at hC ?_ | with_reducible refine wpAny_madeBy_exc hC ?_ | wp_step)
 refine codeAny_call_builtin_code (Code.quiet_builtin _ F.quiet) (wpAny_check_new_subT F T hC ?_)
 refine codeAny_exc_new_subT F T hC ?_ CL
 show wpAny _ _ _ _ _ _
 have kp:∀ b o,h.get? b=some o->((h.push { cls:=.type "tuple", data:=.seq rest.toArray }).push { cls:=.ref C,data:=.fields #[.ref h.objs.size,.none,.none,.none,.bool false,.none] }).get? b=some o:=λb o e=>Heap.get?_push_of_some _ (Heap.get?_push_of_some _ e)
 have hC1:=kp _ _ hC
 have hn₁:((h.push { cls:=.type "tuple", data:=.seq rest.toArray }).push { cls:=.ref C,data:=.fields #[.ref h.objs.size,.none,.none,.none,.bool false,.none] }).Ns N mN:=hn.keeps kp
 have RM:((h.push { cls:=.type "tuple", data:=.seq rest.toArray }).push
   { cls:=.ref C,data:=.fields #[.ref h.objs.size,.none,.none,.none,.bool false,.none] }).get? (h.objs.size+1)=some
   { cls:=.ref C,data:=.fields #[.ref h.objs.size,.none,.none,.none,.bool false,.none] }:=by heap_get
 have htup:((h.push { cls:=.type "tuple", data:=.seq rest.toArray }).push
   { cls:=.ref C,data:=.fields #[.ref h.objs.size,.none,.none,.none,.bool false,.none] }).get? h.objs.size=some { cls:=.type "tuple", data:=.seq rest.toArray }:=Heap.get?_push_of_some _ (Heap.get?_push_size _ rfl)
 have PX:((h.push { cls:=.type "tuple", data:=.seq rest.toArray }).push { cls:=.ref C,data:=.fields #[.ref h.objs.size,.none,.none,.none,.bool false,.none] }).objs.size=h.objs.size+2:=by rw[Heap.size_push,Heap.size_push]
 have hcC:(Value.ref C::bm).contains (.ref C)=true:=by simp
 have T1:=T.keeps kp
 have hb₁:=hb _ kp (.ref (h.objs.size+1))
 have fin:=hq _ kp htup RM PX
 generalize ((h.push { cls:=.type "tuple", data:=.seq rest.toArray }).push { cls:=.ref C,data:=.fields #[.ref h.objs.size,.none,.none,.none,.bool false,.none] })=h1 at *
 unfold isInstance
 repeat (first | with_reducible refine wpAny_loadPart_at RM ?_ | (with_reducible refine wpAny_isSubtype_exc hC1 ?_;rw[hcC]) | wp_step)
 show wpAny _ _ (typeLookup (.ref C) _) _ _ _
 refine wpAny_typeLookup_tail hC1 hn₁ T1 F.mroIs F.init.lookup ?_
 rw[Qz]
 refine wpAny_holding (wpAny_bind (hb₁.here ?_))
 refine wpAny_bind (wpAny_mono fin (λv s' z=>?_) λ_ _ z=>z)
 obtain⟨rfl,z⟩:=z
 wp_walk
 exact z
end
end L2
namespace L2
open PySem PySem.Spec PyProof.Rows
def iR(C:Addr)(dd:Option Addr)(e:Addr):HO:=.ext λh=>∃ vs,h.get? e=some ⟨.ref C,dd,.fields vs,#[]⟩
theorem Ey{P:Program}{w:World}{H:Hp}{h:Heap}{C e:Addr}{dd:Option Addr}{vs:Array Value}(he:h.get? e=some ⟨.ref C,dd,.fields vs,#[]⟩):cp P w H h e (iR C dd e) :=
 ⟨⟨vs,he⟩,⟨_,he⟩,λ_ _ ⟨vs,q⟩ k=>⟨vs,k _ q⟩⟩
def ExcAt(H:Hp)(e C:Addr)(fo:Option (List (Str×V))):Prop:=match fo with
 | none=>H e=some (iR C none e)
 | some fs=>∃ d,H e=some (iR C (some d) e)/\H d=some (.xd fs)
section
variable{X:Cx}{N8:List (Addr×Obj)}{σ:St}{H:Hp}{s:Shared}
theorem Inv.qR(I:Inv X N8 σ H s){C e:Addr}{dd:Option Addr}(he:H e=some (iR C dd e)):∃ vs,s.heap.get? e=some ⟨.ref C,dd,.fields vs,#[]⟩:=(I.bC e _ he).1
theorem Inv.Fj(I:Inv X N8 σ H s){C e:Addr}{fo:Option (List (Str×V))}(h:ExcAt H e C fo):∃ ox od,PySem.W.InstAt s.heap e ox C od/\(fo=none->od=none) ∧
  ∀ fs,fo=some fs->∃ (o:Obj) (mA:Str->Option Value),od=some o/\(∀ n,PySem.W.lookIn n o=some (mA n))/\∀ f,oF (fs.lookup f) (mA f):=by
 cases fo with
 | none =>
  obtain⟨vs,q⟩:=I.qR h
  exact⟨_,none,⟨q,rfl,rfl,trivial⟩,λ_=>rfl,λfs z=>(by cases z)⟩
 | some fs =>
  obtain⟨d,h1,h2⟩:=h
  obtain⟨vs,q⟩:=I.qR h1
  obtain⟨mA,n,r⟩:=(show ∃ mA,s.heap.Ns1 d mA/\∀ f,oF (fs.lookup f) (mA f) from I.bC d _ h2)
  obtain⟨o,ho,hl⟩:=oh n
  refine⟨_,some o,⟨q,rfl,rfl,ho⟩,λz=>(by cases z),λQ9 z=>?_⟩
  cases z
  exact⟨o,mA,rfl,hl,r⟩
theorem Inv.uE{a:Addr}(I:Inv X N8 σ H s)(hn:s.heap.get? a=none):H a=none:=by
 cases q:H a with
 | none=>rfl
 | some u =>
  exfalso
  have:∀ (u:HO),cp X.prog X.w H s.heap a u->∃ ob,s.heap.get? a=some ob:=by
   intro u
   induction u with
   | lst xs=>intro ⟨_,_,_,_,e⟩;exact⟨_,e⟩
   | tup xs=>intro ⟨_,_,_,p⟩;obtain⟨ob,e,_⟩:=p;exact⟨ob,e⟩
   | dK O_=>intro ⟨_,_,_,_,p⟩;obtain⟨ob,_,_,e,_⟩:=p;exact⟨ob,e⟩
   | dT O_=>intro ⟨_,_,_,_,ob,_,_,e,_⟩;exact⟨ob,e⟩
   | set S n=>intro p;obtain⟨es,ob,xs,ep,e,_⟩:=p;exact⟨_,e⟩
   | ins C dx fs=>intro ⟨_,_,_,e,_⟩;exact⟨_,e⟩
   | own x=>intro ⟨ob,e⟩;exact⟨ob,e⟩
   | xd fs=>intro ⟨mA,n,_⟩;obtain⟨ob,e,_⟩:=oh n;exact⟨ob,e⟩
   | met f x=>intro e;exact⟨_,e⟩
   | iO lo hi=>intro ⟨_,_,_,e⟩;exact⟨_,e⟩
   | sE o u _=>intro ⟨e,_⟩;exact⟨_,e⟩
   | Gh ps=>intro e;exact⟨_,e⟩
   | ext φ=>intro ⟨_,⟨ob,e⟩,_⟩;exact⟨ob,e⟩
  obtain⟨ob,e⟩:=this u (I.bC a u q)
  rw[hn] at e;cases e
theorem Inv.Gf{h':Heap}{t':Nat}{a:Addr}{o:HO}(I:Inv X N8 σ H s)(k:∀ b u,s.heap.get? b=some u->h'.get? b=some u)(hn:s.heap.get? a=none)(new:cp X.prog X.w (upd H a o) h' a o) :
  Inv X N8 σ (upd H a o) { s with heap:=h',toks:=t' }:=by
 have ne:∀ b u,s.heap.get? b=some u->b≠a:=λb u e z=>by rw[z,hn] at e;cases e
 have QK:H a=none:=I.uE hn
 have QT:∀ b u,H b=some u->b≠a:=λb u e z=>by rw[z,QK] at e;cases e
 refine I.un ⟨λb u e _ _ _=>k b u e,λb u e _ _ _=>⟨u.slots,k b u e⟩,λb u e n _=>by rw[ax (ne b u e)];exact n,λb u e _=>⟨u,k b u e⟩,
  λb xs e=>by rw[ax (QT b _ e)];exact e,λb ob u e=>by rw[ax (QT b _ e)];exact e,λb ps e=>⟨#[],by rw[ax (QT b _ e),e];simp⟩⟩ λb u e=>?_
 by_cases z:b=a
 ·subst z
  rw[aE] at e
  cases e
  exact new
 ·rw[ax z] at e
  refine(I.bC b u e).mR (λc v _ q=>k c v q) (λc q=>?_) λc ys q=>?_
  ·rw[ax (QT c _ q)];exact q
  ·rw[ax (QT c _ q)];exact q
end
section
variable{X:Cx}{o:Expr}{ta:TE}{f m:Str}{pos apos:Pos}
def MX(K:PySem.W.Frag):List V->Hp->VK->Prop:=λxs H Q=>∃ e C fo b,h_ K C/\ExcAt H e C fo ∧
 ((∃ T,xs=[.ref e,.ty T]/\PySem.W.kitOne K (.ref C) (.type T)=some b)\/(∃ D,xs=[.ref e,.ref D]/\PySem.W.kitOne K (.ref C) (.ref D)=some b))/\Q (.bl b) H
theorem wA:dC X (.builtin "isinstance") (MX X.K):=by
 intro N8 s σ H xs us Q I r h
 obtain⟨e,C,fo,b,c,ha,hc,q⟩:=h
 obtain⟨ox,od,J,_⟩:=I.Fj ha
 rcases hc with ⟨T,rfl,hk⟩ | ⟨D,rfl,hk⟩
 ·cases r with
  | cons r1 r2 =>
   cases r2 with
   | cons r3 r4 =>
    cases r4
    cases (show _=Value.ref e from r1)
    cases (show _=Value.type T from r3)
    exact PySem.W.kia_one (xo c) I.jZ J hk (λz=>nomatch z) λtk=>⟨.bl b,H,I.tok tk,rfl,q⟩
 ·cases r with
  | cons r1 r2 =>
   cases r2 with
   | cons r3 r4 =>
    cases r4
    cases (show _=Value.ref e from r1)
    cases (show _=Value.ref D from r3)
    exact PySem.W.kia_one (xo c) I.jZ J hk (λz=>nomatch z) λtk=>⟨.bl b,H,I.tok tk,rfl,q⟩
end
theorem xW{K:PySem.W.Frag}{h:Heap}{N:Addr}{mg:Str->Option Value}{n:Str}{v:Value}(X:K.In h)(G:h.Ns N mg)(e:PySem.W.nsIn K N n=some (some v)):mg n=some v:=by
 obtain⟨o,es,ep,ho,hd,_,hf⟩:=G
 unfold PySem.W.nsIn at e
 split at e
 ·rename_i c d es' n' sl q
  have:=X _ _ q
  rw[ho] at this
  cases this
  cases hd
  split at e
  ·rename_i en he
   cases e
   rw[← hf]
   unfold nsFind findBy
   rw[← Array.find?_toList,he]
   rfl
  ·split at e <;> cases e
 ·cases e
theorem EL{K:PySem.W.Frag}{h:Heap}{C:Addr}{newId:String}(X:K.In h)(q:PySem.W.excIn K C fS newId=true) :
  ∃ bm N nm qn bs Qk sn sub ab col dd k0 k1 k2 k3 k5 mN,h.get? C=some (excClassObj nm qn C N bs bm Qk sn sub ab col dd k0 k1 k2 k3 k5 newId)/\h.Ns N mN/\mN "__init__" = none/\OwnTail h fS bm:=by
 unfold PySem.W.excIn at q
 split at q
 ·rename_i dd cd sl ho
  split at q
  ·rename_i C' bm k0 k1 k2 k3 n k5 hm hs
   simp only[Bool.and_eq_true,beq_iff_eq,Bool.not_eq_true'] at q
   obtain⟨⟨⟨⟨⟨rfl,rfl⟩,QH⟩,ht⟩,bC⟩,Qz⟩:=q
   obtain⟨nm,bs,mro,ns,qn,hd,sn,sub,ab,col,del⟩:=cd
   dsimp only at hm QH bC Qz
   subst hm QH
   have hsl:sl=#[k0,k1,k2,k3,some (.builtin n),k5]:=by
    obtain⟨l⟩:=sl
    simp only at hs
    rw[hs]
   subst hsl
   exact⟨bm,ns,nm,qn,bs,hd,sn,sub,ab,col,dd,k0,k1,k2,k3,k5,_,X _ _ ho,.of_isNs (PySem.W.isNs_of_in X bC),PySem.W.nsMap_none_of_in X bC Qz,PySem.W.tail_of_in X ht⟩
  ·cases q
 ·cases q
theorem Bp{K:PySem.W.Frag}{h:Heap}{C f:Addr}{newId:String}(X:K.In h)(q:rh K C newId f=true) :
  ∃ bm N nm qn bs Qk sn sub ab col dd k0 k1 k2 k3 k5 mN,h.get? C=some (excClassObj nm qn C N bs bm Qk sn sub ab col dd k0 k1 k2 k3 k5 newId)/\h.Ns N mN/\mN "__init__" = some (.ref f)/\OwnTail h fS bm:=by
 unfold rh at q
 split at q
 ·rename_i dd cd sl ho
  split at q
  ·rename_i C' bm k0 k1 k2 k3 n k5 hm hs
   simp only[Bool.and_eq_true,beq_iff_eq,Bool.not_eq_true'] at q
   obtain⟨⟨⟨⟨⟨rfl,rfl⟩,QH⟩,ht⟩,bC⟩,Qz⟩:=q
   obtain⟨nm,bs,mro,ns,qn,hd,sn,sub,ab,col,del⟩:=cd
   dsimp only at hm QH bC Qz
   subst hm QH
   have hsl:sl=#[k0,k1,k2,k3,some (.builtin n),k5]:=by
    obtain⟨l⟩:=sl
    simp only at hs
    rw[hs]
   subst hsl
   have hN:=Heap.Ns.of_isNs (PySem.W.isNs_of_in X bC)
   exact⟨bm,ns,nm,qn,bs,hd,sn,sub,ab,col,dd,k0,k1,k2,k3,k5,_,X _ _ ho,hN,xW X hN Qz,PySem.W.tail_of_in X ht⟩
  ·cases q
 ·cases q
section
variable{X:Cx}{C f:Addr}{fd:FuncData}{ps:List Str}{sp:Sp}{x:Str}{p pos:Pos}{e:Expr}{es:List Expr}{t:TA}{k:Nat}
end
end L2
namespace L2
open PySem PySem.Spec PyProof.Rows
open PySem.SeqAt (shaped noMix noMixAll)
section
variable{X:Cx}
end
end L2
namespace L2
open PySem PySem.Spec PyProof.Rows
open PySem.SeqAt (shaped noMix noMixAll)
section
variable{X:Cx}{N8:List (Addr×Obj)}{σ:St}{H:Hp}{s:Shared}
theorem Ez{x:V}{u t:Value}(I:Inv X N8 σ H s)(rx:RelV x u)(ty:kC X.K H x t):∃ HH:Heap->Prop,PySem.W.KitX X.K u t HH/\HH s.heap/\u≠.builtin "__main__.__loader__#opaque" := by
 cases ty with
 | b_=>cases (show u=Value.none from rx);exact⟨_,PySem.W.kitx_none,True.intro,λz=>nomatch z⟩
 | bl y=>cases (show u=Value.bool y from rx);exact⟨_,PySem.W.kitx_bool,True.intro,λz=>nomatch z⟩
 | int i=>obtain⟨t,q⟩:=(show ∃ t,u=Value.int i t from rx);cases q;exact⟨_,PySem.W.kitx_int,True.intro,λz=>nomatch z⟩
 | str y=>obtain⟨t,q⟩:=(show ∃ t,u=Value.str y t from rx);cases q;exact⟨_,PySem.W.kitx_str,True.intro,λz=>nomatch z⟩
 | Gk y=>obtain⟨t,q⟩:=(show ∃ t,u=Value.float y t from rx);cases q;exact⟨_,PySem.W.kitx_float,True.intro,λz=>nomatch z⟩
 | @lst a xs ea =>
  cases (show u=Value.ref a from rx)
  obtain⟨_,_,n,_,h1⟩:=(show cp X.prog X.w H s.heap a (.lst xs) from I.bC a _ ea)
  exact⟨_,PySem.W.kitx_list,⟨_,h1,rfl⟩,λz=>nomatch z⟩
 | @sE a ob xs ea =>
  cases (show u=Value.ref a from rx)
  obtain⟨_,_,_,n,_,h1⟩:=(show cp X.prog X.w H s.heap a (.sE ob (.lst xs)) from I.bC a _ ea)
  exact⟨_,PySem.W.kitx_list,⟨_,h1,rfl⟩,λz=>nomatch z⟩
 | @tup a xs ea =>
  cases (show u=Value.ref a from rx)
  obtain⟨_,_,_,o,h1,h2,_⟩:=(show cp X.prog X.w H s.heap a (.tup xs) from I.bC a _ ea)
  exact⟨_,PySem.W.kitx_tuple,⟨o,h1,h2⟩,λz=>nomatch z⟩
 | @dK a O_ ea =>
  cases (show u=Value.ref a from rx)
  obtain⟨_,_,vs,_,o,es,ep,h1,h2,_⟩:=(show cp X.prog X.w H s.heap a (.dK O_) from I.bC a _ ea)
  exact⟨_,PySem.W.kitx_dict,⟨o,h1,h2.1⟩,λz=>nomatch z⟩
 | @dT a O_ ea =>
  cases (show u=Value.ref a from rx)
  obtain⟨_,_,xs,_,o,es,ep,h1,h2,_⟩:=(show cp X.prog X.w H s.heap a (.dT O_) from I.bC a _ ea)
  exact⟨_,PySem.W.kitx_dict,⟨o,h1,h2.1⟩,λz=>nomatch z⟩
 | @ins a C dx fs ea cl ha hn JR hm =>
  cases (show u=Value.ref a from rx)
  obtain⟨mA,O,_⟩:=nu I.bC ea
  obtain⟨od,J,_⟩:=O.look
  exact⟨_,PySem.W.kitx_own (cl.get _) cl.hd ha hn JR hm,J,λz=>nomatch z⟩
end
section
variable{X:Cx}
def Lw(K:PySem.W.Frag):List V->Hp->VK->Prop:=λxs H Q=>∃ (x:V) (tp:Addr) (Ts:List String) (t:Value) (b:Bool),xs=[x,.ref tp]/\H tp=some (.tup (Ts.map V.ty))/\kC K H x t/\PySem.W.kitAny K t (Ts.map Value.type)=some b/\Q (.bl b) H
theorem zg:∀ {Ts:List String} {us:List Value},Vals (Ts.map V.ty) us->us=Ts.map Value.type
 | [],us,r=>by rw[List.map_nil] at r;cases r;rfl
 | T::Ts,us,r=>by
  rw[List.map_cons] at r
  cases r with
  | cons r1 r2 =>
   cases (show _=Value.type T from r1)
   rw[zg r2]
   rfl
theorem Ai:dC X (.builtin "isinstance") (Lw X.K):=by
 intro N8 s σ H xs us Q I r h
 obtain⟨x,tp,Ts,t,b,rfl,htp,ty,e,q⟩:=h
 cases r with
 | cons r1 r2 =>
  cases r2 with
  | cons r3 r4 =>
   cases r4
   cases (show _=Value.ref tp from r3)
   obtain⟨HH,Z,p,ne⟩:=Ez I r1 ty
   obtain⟨_,Ob,rv,o,h1,h2,n,h3⟩:=(show cp X.prog X.w H s.heap tp (.tup (Ts.map V.ty)) from I.bC tp _ htp)
   have ei:=zg rv
   subst ei
   obtain⟨cls,dd,data,sl⟩:=o
   dsimp only at h2 h3
   subst h2 h3
   exact PySem.W.kia_tup Z I.jZ p h1 e ne λtk=>⟨.bl b,H,I.tok tk,rfl,q⟩
theorem zu:∀ {bs:List Bool} {us:List Value},Vals (bs.map V.bl) us->us=bs.map Value.bool
 | [],us,r=>by rw[List.map_nil] at r;cases r;rfl
 | b::bs,us,r=>by
  rw[List.map_cons] at r
  cases r with
  | cons r1 r2 =>
   cases (show _=Value.bool b from r1)
   rw[zu r2]
   rfl
theorem IP:bootBuiltins "all" = some (.builtin "all"):=by decide +kernel
theorem Bh(hc:X.calm=true):dC X (.builtin "all") (λxs H Q=>∃ (a:Addr) (bs:List Bool),xs=[.ref a]/\iS X.K H a (bs.map V.bl)/\Q (.bl (bs.all id)) H):=by
 intro N8 s σ H xs us Q I r h
 obtain⟨a,bs,rfl,hq,q⟩:=h
 cases r with
 | cons r1 r2 =>
  cases r2
  cases (show _=Value.ref a from r1)
  obtain⟨Ob,rv,p,hz⟩:=I.list hq
  have ei:=zu rv
  subst ei
  have hl:=p.isList
  have Pz:a<s.heap.objs.size:=by obtain⟨_,e,_⟩:=hl;exact Heap.lt_size e
  refine call_all_walk (wpAny_pyIter_list hl ?_)
  refine⟨s.heap.objs.size,[s.heap.objs.size,a],[s.heap.objs.size],(bs.map Value.bool).toArray.size,_,_,λi=>(bs[i]?).getD true,rfl,Walks.list (A:=X.A.in1) (I.ok.hd hc) _ a (Nat.ne_of_lt Pz) (bs.map Value.bool).toArray,
   ⟨⟨_,Heap.get?_push_size _ rfl,rfl,rfl⟩,hl.push _⟩,λi v s' Q' E' hP hQ=>?_,λh' tk hk=>?_⟩
  ·have hP':(bs.map Value.bool)[i]?=some v:=by simpa using hP
   rw[List.getElem?_map] at hP'
   obtain⟨b,e1,e2⟩:=Option.map_eq_some_iff.mp hP'
   subst e2
   simp only[e1,Option.getD_some] at hQ
   exact wpAny_truthy_bool hQ
  ·have e:((List.range (bs.map Value.bool).toArray.size).all λi=>(bs[i]?).getD true)=bs.all id:=by
    rw[List.size_toArray,List.length_map]
    rw[Bool.eq_iff_iff,List.all_eq_true,List.all_eq_true]
    constructor
    ·intro h b hb
     obtain⟨i,hi,e⟩:=List.getElem_of_mem hb
     have:=h i (List.mem_range.mpr hi)
     simp only[List.getElem?_eq_getElem hi,Option.getD_some,e] at this
     exact this
    ·intro h i hi
     have Q4:=List.mem_range.mp hi
     simp only[List.getElem?_eq_getElem Q4,Option.getD_some]
     exact h _ (List.getElem_mem Q4)
   rw[e]
   refine⟨.bl _,H,I.kept (t':=tk) (λb x e=>?_),rfl,q⟩
   exact hk b x (λhm=>by rw[List.mem_singleton.mp hm] at e;exact Nat.lt_irrefl _ (Heap.lt_size e)) (Heap.get?_push_of_some _ e)
end
end L2
namespace L2
open PySem PySem.Spec PyProof.Rows
open PySem.MeetsSeq PySem.MeetsSeq2 PySem.MeetsSeq3
theorem oo:fillsNumberSlot (.type "tuple") "mul" = pure false :=
 PySem.fillsNumberSlot_seq (id := "tuple.__mul__") (r:=some (.builtin "tuple.__rmul__")) F.slot_tuple_mul.lookup (by decide +kernel) F.slot_tuple_rmul.lookup (by decide +kernel)
theorem uw:seqRepeat? (.type "tuple")=pure (some (.builtin "tuple.__mul__")):=by
 unfold seqRepeat?
 rw[PySem.seqSlot_of (T := "tuple") (name := "__mul__") (id := "tuple.__mul__") F.slot_tuple_mul.lookup (by decide +kernel),PySem.seqSlot_of (T := "tuple") (name := "__rmul__") (id := "tuple.__rmul__") F.slot_tuple_rmul.lookup (by decide +kernel)]
 rfl
theorem vz(a:Int)(t:Tok)(l:Addr)(items:Array Value)(n:Nat)(dd:Option Addr)(sl:Array (Option Value)) :
  Meets (Builtin.«int.__rmul__» ⟨[.int a t,.ref l],[]⟩) (λ_ R s=>s.heap.get? l=some ⟨.type "tuple", dd,.seq items n,sl⟩/\R (.ok (.ret Value.notImplemented)) s) :=
 .of_wp λprog w A R s h=>by obtain⟨hp,g,d,tk,os⟩:=s;obtain⟨hl,h⟩:=h;wp_walk;exact⟨_,rfl,h⟩
theorem AX(l:Addr)(items:Array Value)(n:Nat)(dd:Option Addr)(sl:Array (Option Value))(u:Tok) :
  Meets (Builtin.«tuple.__mul__» ⟨[.ref l,.int 1 u],[]⟩) (λ_ R s=>s.heap.get? l=some ⟨.type "tuple", dd,.seq items n,sl⟩/\R (.ok (.ret (.ref l))) s) :=
 .of_wp λprog w A R s h=>by
  obtain⟨hp,g,d,tk,os⟩:=s;obtain⟨hl,h⟩:=h;have f1:=AutoSeq1.idx_int;have f2:=AutoSeq1.sub_tuple_tuple
  wp_walk using AutoSeq1.wpAny_loadPart' hl
  exact⟨_,rfl,h⟩
theorem A0(l:Addr)(items:Array Value)(n:Nat)(dd:Option Addr)(sl:Array (Option Value))(x:Int)(u:Tok)(c0:¬ (decide (x < -2^63)||decide (x>=2^63))=true)(c1:¬ (items.isEmpty||x==1)=true)(c2:¬ (decide (x<=0)||items.isEmpty)=true)
  (c3:¬ (items.size:Int)*x>(2^63-1)/8) (c4:¬ Builtin.Tuple.tupleTooMany ((items.size:Int)*x)=true) (PX:(List.foldl (λx1 x2=>x1++x2) #[] (List.replicate x.toNat items)).size<=sizeLine) :
  Meets (Builtin.«tuple.__mul__» ⟨[.ref l,.int x u],[]⟩) (λ_ R s=>s.heap.get? l=some ⟨.type "tuple", dd,.seq items n,sl⟩/\R (.ok (.ret (.ref s.heap.objs.size))) { s with heap:=s.heap.push { cls:=.type "tuple", data:=.seq (List.foldl (λx1 x2=>x1++x2) #[] (List.replicate x.toNat items)) },toks:=s.toks }) :=
 .of_wp λprog w A R s h=>by
  obtain⟨hp,g,d,tk,os⟩:=s;obtain⟨hl,h⟩:=h;have f1:=AutoSeq1.idx_int;have f2:=AutoSeq1.sub_tuple_tuple
  wp_walk using AutoSeq1.wpAny_loadPart' hl
  refine wpAny_ite_false (decide_eq_false c0) ?_;wp_walk using AutoSeq1.wpAny_loadPart' hl
  refine wpAny_ite_false (decide_eq_false c3) ?_;wp_walk using AutoSeq1.wpAny_loadPart' hl
  exact⟨_,rfl,h⟩
theorem AG(l:Addr)(items:Array Value)(n:Nat)(dd:Option Addr)(sl:Array (Option Value))(x:Int)(u:Tok)(c0:¬ (decide (x < -2^63)||decide (x>=2^63))=true)(c1:¬ (items.isEmpty||x==1)=true)(c2:(decide (x<=0)||items.isEmpty)=true) :
  Meets (Builtin.«tuple.__mul__» ⟨[.ref l,.int x u],[]⟩) (λ_ R s=>s.heap.get? l=some ⟨.type "tuple", dd,.seq items n,sl⟩/\R (.ok (.ret (.ref s.heap.objs.size))) { s with heap:=s.heap.push { cls:=.type "tuple", data:=.seq #[] },toks:=s.toks }) :=
 .of_wp λprog w A R s h=>by
  obtain⟨hp,g,d,tk,os⟩:=s;obtain⟨hl,h⟩:=h;have f1:=AutoSeq1.idx_int;have f2:=AutoSeq1.sub_tuple_tuple
  wp_walk using AutoSeq1.wpAny_loadPart' hl
  refine wpAny_ite_false (decide_eq_false c0) ?_;wp_walk using AutoSeq1.wpAny_loadPart' hl
  exact⟨_,rfl,h⟩
section
variable{X:Cx}
def Ge(K:PySem.W.Frag):R2:=λx y H Q=>∃ a k xs,x=.ref a/\y=.int k/\iF K H a xs/\xs≠[]/\-(2^63)<=k/\k<2^63/\xs.length*k.toNat<=sizeLine/\(k=1->Q (.ref a) H)/\(k≠1->∀ p,H p=none->Q (.ref p) (upd H p (.tup (List.replicate k.toNat xs).flatten)))
theorem FT:gK X (binaryOp .Mult) (Ge X.K):=by
 intro N8 s σ H x y v u Q I rx ry h
 obtain⟨a,k,xs,rfl,rfl,hq,Qj,h1,h2,hz,q1,q2⟩:=h
 cases rx
 obtain⟨t,rfl⟩:=ry
 obtain⟨Ob,r,⟨o,e,hc,n,hd⟩,_⟩:=I.tuple hq
 obtain⟨cls,dd,data,sl⟩:=o
 dsimp only at hc hd
 subst hc hd
 have hl:=r.length
 refine wpAny_binaryOp_repeat_ref (T := "tuple") (U := "int") (by decide) ⟨_,e,rfl⟩ (λs'=>typeIs_int s' k t) oo F.fills_int_mul F.slot_int_rmul uw F.slot_int_index.lookup
  (call_meets F.slot_int_rmul (typeIs_int s k t) F.entry_int_rmul (F.args_int_rmul_2 _ _) (vz k t a Ob.toArray n dd sl) ⟨e,rfl,⟨_,e,rfl⟩,?_⟩)
 by_cases hk1:k=1
 ·subst hk1
  exact call_meets F.slot_tuple_mul ⟨_,e,rfl⟩ F.entry_tuple_mul (F.args_tuple_mul_2 _ _) (AX a Ob.toArray n dd sl t) ⟨e,⟨.ref a,H,I,rfl,q1 rfl⟩⟩
 ·have hb1:(k==1)=false:=by simpa using hk1
  have Qz:Ob≠[]:=λz=>Qj (r.m9.mp z)
  have hie:Ob.toArray.isEmpty=false:=by cases Ob with | nil=>exact absurd rfl Qz | cons _ _=>rfl
  have c0:¬ (decide (k < -2^63)||decide (k>=2^63))=true:=by simp;omega
  have c1:¬ (Ob.toArray.isEmpty||k==1)=true:=by rw[hie,hb1];simp
  have fin:∀ ys,ys=(List.replicate k.toNat Ob).flatten.toArray->EP X N8 σ Q (.ref s.heap.objs.size) { s with heap:=s.heap.push { cls:=.type "tuple", data:=.seq ys },toks:=s.toks }:=λys ey=>by
   subst ey
   refine⟨.ref s.heap.objs.size,_,I.laid (t':=s.toks) (o:=.tup (List.replicate k.toNat xs).flatten) (λb ob q=>Heap.get?_push_of_some _ q) (Nat.le_refl _) ?_,rfl,q2 hk1 _ (I.bC.fresh (Nat.le_refl _))⟩
   exact⟨by rw[len_rep,Nat.mul_comm];exact hz,_,r.rep k.toNat,IsTup.new _ _⟩
  have PH:List.foldl (λx1 x2=>x1++x2) #[] (List.replicate k.toNat Ob.toArray)=(List.replicate k.toNat Ob).flatten.toArray:=by
   have:=foldl_rep Ob k.toNat []
   rw[List.nil_append] at this
   exact this
  by_cases hk0:k<=0
  ·have c2:(decide (k<=0)||Ob.toArray.isEmpty)=true:=by rw[decide_eq_true hk0];rfl
   refine call_meets F.slot_tuple_mul ⟨_,e,rfl⟩ F.entry_tuple_mul (F.args_tuple_mul_2 _ _) (AG a Ob.toArray n dd sl k t c0 c1 c2) ⟨e,fin _ ?_⟩
   rw[show k.toNat=0 by omega]
   rfl
  ·have c2:¬ (decide (k<=0)||Ob.toArray.isEmpty)=true:=by rw[decide_eq_false hk0,hie];simp
   have em:((Ob.toArray.size:Nat):Int)*k=((xs.length*k.toNat:Nat):Int):=by
    rw[List.size_toArray,← hl,Int.natCast_mul,Int.toNat_of_nonneg (by omega)]
   have hs:(sizeLine:Int)<=(2^63-1)/8:=by decide
   refine call_meets F.slot_tuple_mul ⟨_,e,rfl⟩ F.entry_tuple_mul (F.args_tuple_mul_2 _ _) (A0 a Ob.toArray n dd sl k t c0 c1 c2 ?_ ?_ ?_) ⟨e,fin _ PH⟩
   ·rw[em];omega
   ·rw[em]
    unfold Builtin.Tuple.tupleTooMany
    simp only[decide_eq_true_eq]
    omega
   ·rw[PH,List.size_toArray,len_rep,Nat.mul_comm,← hl]
    exact hz
end
end L2
namespace L2
open PySem PySem.Spec PyProof.Rows
structure aS (K:PySem.W.Frag) (x qual:Str) (st:Stmt) (dv:Value) (f:Addr) (fd:FuncData):Prop where
 ex:∃ (oc:Value) (od:Option Addr) (kV doc pm:Value) (an:Option Addr) (OA ct:Value) (Qx:Array (Option Value)),
  fd=PySem.W.fnOf x qual (i7 st) (gc st) (au st) dv kV doc pm an OA ct/\K.lookup f=some ⟨oc,od,.func fd,Qx⟩/\PySem.W.codeIn K OA qual=true
 kp:PySem.W.keepIn K (.ref f)=true
section
variable{P:Program}{w:World}{K:PySem.W.Frag}{mg:Str->Option Value}{base:Heap}
theorem aS.binds{x qual:Str}{st:Stmt}{T:Addr}{o:Obj}{items:Array Value}{n:Nat}{f:Addr}{fd:FuncData}{ps:List Str}{ds:List Value}(F:aS K x qual st (.ref T) f fd)(ho:K.lookup T=some o)(hs:o.data=.seq items n)
  (h:∀ (kV doc pm:Value) (an:Option Addr) (OA ct:Value) (us:List Value),(us++ds).length=ps.length->∃ k,bindArgs (PySem.W.fnOf x qual (i7 st) (gc st) (au st) (.ref T) kV doc pm an OA ct) ⟨us,[]⟩=seqItems? (.ref T) >>= k/\k (some items)=pure (ps.zip (us++ds))):Binds K fd ps ds:=by
 obtain⟨oc,od,kV,doc,pm,an,OA,ct,Qx,rfl,lk,Py⟩:=F.ex
 intro s us X hl
 obtain⟨k,h1,h2⟩:=h kV doc pm an OA ct us hl
 exact BindsTo.of_defaults rfl (X _ _ ho) hs h1 h2
end
theorem Kh{X:Cx}{x:Str}{v:V}{pos:Pos}(hg:Gl X x)(hm:∃ u,X.mg x=some u/\RelV v u)(hd:(x==("__debug__" : Str))=false:=by decide):PE X (.Name x pos) (tC v):=by
 obtain⟨u,h1,h2⟩:=hm
 exact zH hg h1 h2 hd
theorem JK:bootBuiltins "max" = some (.builtin "max"):=by decide +kernel
end L2
namespace L2
open PySem PySem.Spec PyProof.Rows
theorem Fq{X:Cx}{tg elt iter:Expr}{scope:Scope}{cl:List (Str×Addr)}{pos QX py:Pos}{i:Nat}{y:Str}{wi:TI}{g:TG}{te:TE}{ts fs:List Str}{js:List Nat}(hN:X.N.Nodup)(hiy:X.N[i]?=some y)(hy:Loc X.env.scope y)(Oq:X.calm=true)
  (OZ:closureFor scope X.env=pure cl) (hk:scope.kind=.function) (nc:jq scope.names=true) (lo:lO scope.names=true) (fh:lK cl scope.names=true) (ag:gF X cl) (fr:kS X scope cl fs js)
  (hi:PI X tg iter wi) (hg:∀ C s₀ H₀ ex N8,PG (xI X scope cl (ts++fs) C s₀ H₀ ex N8) tg g) (he:∀ C s₀ H₀ ex N8,PE (xI X scope cl (ts++fs) C s₀ H₀ ex N8) elt te)
  (hs:∀ x,foldedSetIterable iter X.env x=pure x:=by intro _;rfl) (RV:swapsWith (.ListComp elt [⟨tg,iter,[],0⟩] scope pos) (some (.Name y py)) QX.line X.env=pure true:=by rfl)
  (hf:X.fn y=true\/X.env.scope.names.lookup y=some .local:=by first | exact .inl rfl | exact .inr rfl | assumption) :
  PS X (.Assign [.Name y py] (.ListComp elt [⟨tg,iter,[],0⟩] scope pos) QX) (Je (yF wi g te ts js) (aH i)):=by
 intro N8 s σ H D I h
 rw[exec_Assign_Name_used _ _ _ _ RV]
 refine wpAny_bind (wpAny_standAt (wpAny_bind ?_))
 show wpAny _ X.A (do let _ ← comprehension (.ListComp elt [⟨tg,iter,[],0⟩] scope pos) scope X.env _ (newList []) false (eval iter X.env) (some (assign (.Name y py) X.env))) _ _ s
 refine wpAny_bind (wpAny_mono (xu (tt:=none) Oq OZ hk nc lo fh ag fr hi hg (λ_ _ _ _ _=>trivial) he hs I (show DL wi g none te ts js σ H (λx H1=>D.nx (σ.set i (some x)) H1) from h) (some (assign (.Name y py) X.env)) (λ_ s'=>SP X N8 D .next s') λDd H' s' C Io q hm f=>?_) (λ_ s' hq=>wpAny_pure (wpAny_pure hq)) λ_ _ e=>e)
 show wpAny _ X.A (assign (.Name y py) X.env (.ref Dd)) _ _ s'
 refine wpAny_assign_Name (tX Io hN hiy hy (v:=.ref Dd) rfl (λs'' I'' ⟨a,sb,ha⟩=>?_) hf)
 obtain⟨m,hn⟩:=hm
 obtain⟨f0,f1,f2,f3,f4,f5⟩:=f
 have naC:a≠C:=by
  rcases ha with z | z
  ·rw[z];exact λw=>f1 w.symm
  ·exact f4 y a z
 refine⟨m,hn.sameBut sb (Ne.symm naC),λh' Ry=>?_⟩
 exact⟨_,H',I''.other ⟨f0,f1,f2,f3,f4,f5⟩ Ry,q⟩
end L2
namespace L2
open PySem PySem.Spec PyProof.Rows
end L2
namespace L2
open PySem PySem.Spec PyProof.Rows
theorem qC(a b c:Value):checkTypeCall "zip" ⟨[a,b,c],[]⟩=pure ():=by kernel_rfl
theorem sS(a b c:Value):checkBuiltinCall "zip.__new__" ⟨[.type "zip", a,b,c],[]⟩=pure ():=by kernel_rfl
abbrev bI(h:Heap)(T:Addr)(a b c:Value):Prop:=h.get? T=some { cls:=.type "tuple", data:=.seq #[a,b,c] }
structure Z3 (z TI TO i1 i2 i3:Addr):Prop where
 TIz:TI≠z
 TOz:TO≠z
 i1z:i1≠z
 i2z:i2≠z
 JT:i3≠z
 TITO:TI≠TO
 TIi1:TI≠i1
 TIi2:TI≠i2
 MG:TI≠i3
 TOi1:TO≠i1
 TOi2:TO≠i2
 F4:TO≠i3
 i12:i1≠i2
 M6:i1≠i3
 Mi:i2≠i3
structure L3 (z TO i1 i2 i3 l:Addr):Prop where
 z:l≠z
 o:l≠TO
 i1:l≠i1
 i2:l≠i2
 i3:l≠i3
section
variable{prog:Program}{w:World}{A:Around}{E:Value->Shared->Prop}{s:Shared}
theorem dM{T:Addr}{a b c x:Value}{k:Nat}{Q:Unit->Shared->Prop}(hT:bI s.heap T a b c)
  (h:∀ h',h'.get? T=some { cls:=.type "tuple", data:=.seq ((#[a,b,c]:Array Value).setIfInBounds k x) }->Heap.SameBut T s.heap h'->Q () { s with heap:=h' }) :
  wpAny (model prog w) A (updateSeq T (·.setIfInBounds k x)) Q E s:=by
 refine wpAny_updateSeq hT rfl (h _ ?_ (Heap.SameBut.update ..))
 rw[Heap.get?_update_self _ hT rfl]
 simp[Obj.mapSeq]
variable{b1 b2 b3:Bool}{z TI TO i1 i2 i3 l1 l2 l3:Addr}{k1 k2 k3:Nat}{xs ys zs:Array Value}{x y v a b c:Value}
theorem Af{Q:Value->Shared->Prop}(D:Z3 z TI TO i1 i2 i3)(D1:L3 z TO i1 i2 i3 l1)(D2:L3 z TO i1 i2 i3 l2)(D3:L3 z TO i1 i2 i3 l3)
  (hz:IsZip s.heap z TI TO .none) (OV:bI s.heap TI (.ref i1) (.ref i2) (.ref i3)) (OY:bI s.heap TO a b c)
  (h1:e6 s.heap b1 i1 l1 k1) (h2:e6 s.heap b2 i2 l2 k2) (h3:e6 s.heap b3 i3 l3 k3) (PD:gB s.heap b1 l1 xs) (PF:gB s.heap b2 l2 ys) (QM:gB s.heap b3 l3 zs) (hx:xs[k1]?=some x) (hy:ys[k2]?=some y) (hv:zs[k3]?=some v)
  (hQ:∀ h',IsZip h' z TI TO (rawInt s.heap.objs.size)->bI h' TO x y v->e6 h' b1 i1 l1 (k1+1)->e6 h' b2 i2 l2 (k2+1)->e6 h' b3 i3 l3 (k3+1)->bI h' s.heap.objs.size x y v->h'.objs.size=s.heap.objs.size+1 ->
   (∀ c o,c≠z->c≠TO->c≠i1->c≠i2->c≠i3->s.heap.get? c=some o->h'.get? c=some o)->Q (.ref s.heap.objs.size) { s with heap:=h' }) :
  wpAny (model prog w) A (Builtin.«zip.__next__» ⟨[.ref z],[]⟩) (λfin s'=>∃ v,fin=.done (.ret v)/\Q v s') E s:=by
 show wpAny _ _ (field (.ref z) 2 >>= _) _ _ _
 refine wpAny_bind (wpAny_field hz rfl (x:=.bool false) rfl ?_)
 show wpAny _ _ (field (.ref z) 3 >>= _) _ _ _
 refine wpAny_bind (wpAny_field hz rfl (x:=.ref TI) rfl ?_)
 refine wpAny_bind (wpAny_seqItems OV rfl ?_)
 show wpAny _ _ (Builtin.SmallTypes.ownedTupleIsFree (.ref z) >>= _) _ _ _
 refine wpAny_bind ?_
 unfold Builtin.SmallTypes.ownedTupleIsFree
 refine wpAny_bind (wpAny_field hz rfl (x:=.none) rfl (wpAny_pure ?_))
 simp only[if_true]
 refine wpAny_bind (wpAny_rule ?_)
 refine wpAny_bind (wpAny_field hz rfl (x:=.ref TO) rfl ?_)
 refine wpAny_bind (wpAny_setField_rec hz (by simp) λh₁ hz1 hs1=>?_)
 replace hz1:IsZip h₁ z TI TO .ellipsis:=hz1
 refine wpAny_bind ?_
 simp only[List.zipIdx_cons,List.zipIdx_nil,List.forIn_cons,List.forIn_nil]
 refine wpAny_bind (wpAny_bind (wpAny_onRaise ?_))
 show wpAny _ _ (Builtin.SmallTypes.nextOf (.ref i1) >>= _) _ _ _
 refine wpAny_bind (cW (h1.at λo e=>hs1.extBut _ _ D.i1z e) (PD.at λo e=>hs1.extBut _ _ D1.z e) hx λh₂ h1₂ hs2=>wpAny_pure ?_)
 have hTO2:bI h₂ TO a b c:=hs2.extBut _ _ D.TOi1 (hs1.extBut _ _ D.TOz OY)
 refine wpAny_bind (wpAny_seqItems hTO2 rfl ?_)
 refine wpAny_bind (dM hTO2 λh₃ hTO3 hs3=>?_)
 replace hTO3:bI h₃ TO x b c:=hTO3
 refine wpAny_bind (wpAny_letGo (wpAny_pure ?_))
 have QY:∀ q o,q≠z->q≠TO->q≠i1->s.heap.get? q=some o->h₃.get? q=some o:=λq o c1 c2 c3 e=>hs3.extBut _ _ c2 (hs2.extBut _ _ c3 (hs1.extBut _ _ c1 e))
 refine wpAny_bind (wpAny_bind (wpAny_onRaise ?_))
 show wpAny _ _ (Builtin.SmallTypes.nextOf (.ref i2) >>= _) _ _ _
 refine wpAny_bind (cW (h2.at λo e=>QY _ o D.i2z D.TOi2.symm D.i12.symm e) (PF.at λo e=>QY _ o D2.z D2.o D2.i1 e) hy λh₄ h2₄ hs4=>wpAny_pure ?_)
 have hTO4:bI h₄ TO x b c:=hs4.extBut _ _ D.TOi2 hTO3
 refine wpAny_bind (wpAny_seqItems hTO4 rfl ?_)
 refine wpAny_bind (dM hTO4 λh₅ hTO5 hs5=>?_)
 replace hTO5:bI h₅ TO x y c:=hTO5
 refine wpAny_bind (wpAny_letGo (wpAny_pure ?_))
 have k5:∀ q o,q≠z->q≠TO->q≠i1->q≠i2->s.heap.get? q=some o->h₅.get? q=some o:=λq o c1 c2 c3 c4 e=>hs5.extBut _ _ c2 (hs4.extBut _ _ c4 (QY q o c1 c2 c3 e))
 refine wpAny_bind (wpAny_bind (wpAny_onRaise ?_))
 show wpAny _ _ (Builtin.SmallTypes.nextOf (.ref i3) >>= _) _ _ _
 refine wpAny_bind (cW (h3.at λo e=>k5 _ o D.JT D.F4.symm D.M6.symm D.Mi.symm e) (QM.at λo e=>k5 _ o D3.z D3.o D3.i1 D3.i2 e) hv λh₆ h3₆ hs6=>wpAny_pure ?_)
 have hTO6:bI h₆ TO x y c:=hs6.extBut _ _ D.F4 hTO5
 refine wpAny_bind (wpAny_seqItems hTO6 rfl ?_)
 refine wpAny_bind (dM hTO6 λh₇ hTO7 hs7=>?_)
 replace hTO7:bI h₇ TO x y v:=hTO7
 refine wpAny_bind (wpAny_letGo (wpAny_pure (wpAny_pure ?_)))
 refine wpAny_bind (wpAny_seqItems hTO7 rfl ?_)
 refine wpAny_bind (wpAny_newTuple ?_)
 have PX:h₇.objs.size=s.heap.objs.size:=by rw[hs7.1,hs6.1,hs5.1,hs4.1,hs3.1,hs2.1,hs1.1]
 have hz₃:IsZip h₃ z TI TO .ellipsis:=hs3.extBut _ _ D.TOz.symm (hs2.extBut _ _ D.i1z.symm hz1)
 have hz5:IsZip h₅ z TI TO .ellipsis:=hs5.extBut _ _ D.TOz.symm (hs4.extBut _ _ D.i2z.symm hz₃)
 have hz7:IsZip h₇ z TI TO .ellipsis:=hs7.extBut _ _ D.TOz.symm (hs6.extBut _ _ D.JT.symm hz5)
 have k7:∀ q o,q≠z->q≠TO->q≠i1->q≠i2->q≠i3->s.heap.get? q=some o->h₇.get? q=some o:=λq o c1 c2 c3 c4 c5 e=>hs7.extBut _ _ c2 (hs6.extBut _ _ c5 (k5 q o c1 c2 c3 c4 e))
 have h1₇:e6 h₇ b1 i1 l1 (k1+1):=h1₂.at λo e=>hs7.extBut _ _ D.TOi1.symm (hs6.extBut _ _ D.M6 (hs5.extBut _ _ D.TOi1.symm (hs4.extBut _ _ D.i12 (hs3.extBut _ _ D.TOi1.symm e))))
 have h2₇:e6 h₇ b2 i2 l2 (k2+1):=h2₄.at λo e=>hs7.extBut _ _ D.TOi2.symm (hs6.extBut _ _ D.Mi (hs5.extBut _ _ D.TOi2.symm e))
 have h3₇:e6 h₇ b3 i3 l3 (k3+1):=h3₆.at λo e=>hs7.extBut _ _ D.F4.symm e
 have QP:z<h₇.objs.size:=Heap.lt_size hz7
 show wpAny _ _ (Builtin.SmallTypes.ownedTupleHandOut (.ref z) (.ref h₇.objs.size) >>= _) _ _ _
 refine wpAny_bind ?_
 unfold Builtin.SmallTypes.ownedTupleHandOut
 have hz₈:IsZip (h₇.push { cls:=.type "tuple", data:=.seq #[x,y,v] }) z TI TO .ellipsis:=Heap.get?_push_of_some _ hz7
 refine wpAny_bind (wpAny_setField_rec hz₈ (by simp) λh₉ hz9 hs9=>?_)
 replace hz9:IsZip h₉ z TI TO (rawInt h₇.objs.size):=hz9
 refine wpAny_setField_rec hz9 (by simp) λhA hzA hsA=>?_
 replace hzA:IsZip hA z TI TO (rawInt h₇.objs.size):=hzA
 have up:∀ c o,c≠z->h₇.get? c=some o->hA.get? c=some o:=λc o c1 e=>hsA.extBut _ _ c1 (hs9.extBut _ _ c1 (Heap.get?_push_of_some _ e))
 have hTA:bI hA h₇.objs.size x y v:=hsA.extBut _ _ (Nat.ne_of_gt QP) (hs9.extBut _ _ (Nat.ne_of_gt QP) (Heap.get?_push_size _ rfl))
 have RY:hA.objs.size=h₇.objs.size+1:=by rw[hsA.1,hs9.1,Heap.size_push]
 rw[PX] at hzA hTA RY
 refine wpAny_pure ⟨_,rfl,?_⟩
 show Q (.ref h₇.objs.size) _
 rw[PX]
 exact hQ hA hzA (up _ _ D.TOz hTO7) (h1₇.at λo e=>up _ o D.i1z e) (h2₇.at λo e=>up _ o D.i2z e) (h3₇.at λo e=>up _ o D.JT e) hTA RY λc o c1 c2 c3 c4 c5 e=>up c o c1 (k7 c o c1 c2 c3 c4 c5 e)
theorem BZ{Q:Fin->Shared->Prop}(hh:A.handled=none)(D:Z3 z TI TO i1 i2 i3)(D1:L3 z TO i1 i2 i3 l1)(D2:L3 z TO i1 i2 i3 l2)(D3:L3 z TO i1 i2 i3 l3)
  (hz:IsZip s.heap z TI TO .none) (OV:bI s.heap TI (.ref i1) (.ref i2) (.ref i3)) (OY:bI s.heap TO a b c)
  (h1:e6 s.heap b1 i1 l1 k1) (h2:e6 s.heap b2 i2 l2 k2) (h3:e6 s.heap b3 i3 l3 k3) (PD:gB s.heap b1 l1 xs) (PF:gB s.heap b2 l2 ys) (QM:gB s.heap b3 l3 zs) (PR:xs[k1]?=none\/ys[k2]?=none\/zs[k3]?=none)
  (hE:∀ h' e,(∀ c o,c≠z->c≠TO->c≠i1->c≠i2->c≠i3->s.heap.get? c=some o->h'.get? c=some o)->(∃ o,h'.get? e=some o/\o.cls=.type "StopIteration")->E (.ref e) { s with heap:=h' }) :
  wpAny (model prog w) A (Builtin.«zip.__next__» ⟨[.ref z],[]⟩) Q E s:=by
 show wpAny _ _ (field (.ref z) 2 >>= _) _ _ _
 refine wpAny_bind (wpAny_field hz rfl (x:=.bool false) rfl ?_)
 show wpAny _ _ (field (.ref z) 3 >>= _) _ _ _
 refine wpAny_bind (wpAny_field hz rfl (x:=.ref TI) rfl ?_)
 refine wpAny_bind (wpAny_seqItems OV rfl ?_)
 show wpAny _ _ (Builtin.SmallTypes.ownedTupleIsFree (.ref z) >>= _) _ _ _
 refine wpAny_bind ?_
 unfold Builtin.SmallTypes.ownedTupleIsFree
 refine wpAny_bind (wpAny_field hz rfl (x:=.none) rfl (wpAny_pure ?_))
 simp only[if_true]
 refine wpAny_bind (wpAny_rule ?_)
 refine wpAny_bind (wpAny_field hz rfl (x:=.ref TO) rfl ?_)
 refine wpAny_bind (wpAny_setField_rec hz (by simp) λh₁ hz1 hs1=>?_)
 replace hz1:IsZip h₁ z TI TO .ellipsis:=hz1
 refine wpAny_bind ?_
 simp only[List.zipIdx_cons,List.zipIdx_nil,List.forIn_cons,List.forIn_nil]
 refine wpAny_bind (wpAny_bind (wpAny_onRaise ?_))
 show wpAny _ _ (Builtin.SmallTypes.nextOf (.ref i1) >>= _) _ _ _
 cases hx:xs[k1]? with
 | none =>
  refine wpAny_bind (iI hh (h1.at λo e=>hs1.extBut _ _ D.i1z e) (PD.at λo e=>hs1.extBut _ _ D1.z e) hx λh₂ e hs2 he=>?_)
  obtain⟨oe,PJ,Qr⟩:=he
  have hz2:IsZip h₂ z TI TO .ellipsis:=hs2 _ _ D.i1z.symm hz1
  have Q3:e≠z:=λx=>by subst x;rw[hz2] at PJ;cases PJ;simp at Qr
  refine wpAny_setField_rec hz2 (by simp) λh₃ _ hs3=>hE h₃ e (λc o c1 _ c3 _ _ x=>hs3.extBut _ _ c1 (hs2 _ _ c3 (hs1.extBut _ _ c1 x))) ⟨oe,hs3.extBut _ _ Q3 PJ,Qr⟩
 | some x =>
  refine wpAny_bind (cW (h1.at λo e=>hs1.extBut _ _ D.i1z e) (PD.at λo e=>hs1.extBut _ _ D1.z e) hx λh₂ h1₂ hs2=>wpAny_pure ?_)
  have hTO2:bI h₂ TO a b c:=hs2.extBut _ _ D.TOi1 (hs1.extBut _ _ D.TOz OY)
  refine wpAny_bind (wpAny_seqItems hTO2 rfl ?_)
  refine wpAny_bind (dM hTO2 λh₃ hTO3 hs3=>?_)
  replace hTO3:bI h₃ TO x b c:=hTO3
  refine wpAny_bind (wpAny_letGo (wpAny_pure ?_))
  have QY:∀ q o,q≠z->q≠TO->q≠i1->s.heap.get? q=some o->h₃.get? q=some o:=λq o c1 c2 c3 e=>hs3.extBut _ _ c2 (hs2.extBut _ _ c3 (hs1.extBut _ _ c1 e))
  have hz₃:IsZip h₃ z TI TO .ellipsis:=hs3.extBut _ _ D.TOz.symm (hs2.extBut _ _ D.i1z.symm hz1)
  refine wpAny_bind (wpAny_bind (wpAny_onRaise ?_))
  show wpAny _ _ (Builtin.SmallTypes.nextOf (.ref i2) >>= _) _ _ _
  cases hy:ys[k2]? with
  | none =>
   refine wpAny_bind (iI hh (h2.at λo e=>QY _ o D.i2z D.TOi2.symm D.i12.symm e) (PF.at λo e=>QY _ o D2.z D2.o D2.i1 e) hy λh₄ e hs4 he=>?_)
   obtain⟨oe,PJ,Qr⟩:=he
   have hz4:IsZip h₄ z TI TO .ellipsis:=hs4 _ _ D.i2z.symm hz₃
   have Q3:e≠z:=λx=>by subst x;rw[hz4] at PJ;cases PJ;simp at Qr
   refine wpAny_setField_rec hz4 (by simp) λh₅ _ hs5=>hE h₅ e (λc o c1 c2 c3 c4 _ x=>hs5.extBut _ _ c1 (hs4 _ _ c4 (QY c o c1 c2 c3 x))) ⟨oe,hs5.extBut _ _ Q3 PJ,Qr⟩
  | some y =>
   have hv:zs[k3]?=none:=by
    rcases PR with h | h | h
    ·rw[hx] at h;cases h
    ·rw[hy] at h;cases h
    ·exact h
   refine wpAny_bind (cW (h2.at λo e=>QY _ o D.i2z D.TOi2.symm D.i12.symm e) (PF.at λo e=>QY _ o D2.z D2.o D2.i1 e) hy λh₄ h2₄ hs4=>wpAny_pure ?_)
   have hTO4:bI h₄ TO x b c:=hs4.extBut _ _ D.TOi2 hTO3
   refine wpAny_bind (wpAny_seqItems hTO4 rfl ?_)
   refine wpAny_bind (dM hTO4 λh₅ hTO5 hs5=>?_)
   refine wpAny_bind (wpAny_letGo (wpAny_pure ?_))
   have k5:∀ q o,q≠z->q≠TO->q≠i1->q≠i2->s.heap.get? q=some o->h₅.get? q=some o:=λq o c1 c2 c3 c4 e=>hs5.extBut _ _ c2 (hs4.extBut _ _ c4 (QY q o c1 c2 c3 e))
   have hz5:IsZip h₅ z TI TO .ellipsis:=hs5.extBut _ _ D.TOz.symm (hs4.extBut _ _ D.i2z.symm hz₃)
   refine wpAny_bind (wpAny_bind (wpAny_onRaise ?_))
   show wpAny _ _ (Builtin.SmallTypes.nextOf (.ref i3) >>= _) _ _ _
   refine wpAny_bind (iI hh (h3.at λo e=>k5 _ o D.JT D.F4.symm D.M6.symm D.Mi.symm e) (QM.at λo e=>k5 _ o D3.z D3.o D3.i1 D3.i2 e) hv λh₆ e hs6 he=>?_)
   obtain⟨oe,PJ,Qr⟩:=he
   have hz6:IsZip h₆ z TI TO .ellipsis:=hs6 _ _ D.JT.symm hz5
   have Q3:e≠z:=λx=>by subst x;rw[hz6] at PJ;cases PJ;simp at Qr
   refine wpAny_setField_rec hz6 (by simp) λh₇ _ hs7=>hE h₇ e (λc o c1 c2 c3 c4 c5 x=>hs7.extBut _ _ c1 (hs6 _ _ c5 (k5 c o c1 c2 c3 c4 x))) ⟨oe,hs7.extBut _ _ Q3 PJ,Qr⟩
end
end L2
namespace L2
open PySem PySem.Spec PyProof.Rows
section
variable{prog:Program}{w:World}{A:Around}{E:Value->Shared->Prop}{s:Shared}
variable{b1 b2 b3:Bool}{z TI TO i1 i2 i3 l1 l2 l3:Addr}{k1 k2 k3:Nat}{xs ys zs:Array Value}{x y v a b c:Value}
theorem oA{Q:Option Value->Shared->Prop}(D:Z3 z TI TO i1 i2 i3)(D1:L3 z TO i1 i2 i3 l1)(D2:L3 z TO i1 i2 i3 l2)(D3:L3 z TO i1 i2 i3 l3)
  (hz:IsZip s.heap z TI TO .none) (OV:bI s.heap TI (.ref i1) (.ref i2) (.ref i3)) (OY:bI s.heap TO a b c)
  (h1:e6 s.heap b1 i1 l1 k1) (h2:e6 s.heap b2 i2 l2 k2) (h3:e6 s.heap b3 i3 l3 k3) (PD:gB s.heap b1 l1 xs) (PF:gB s.heap b2 l2 ys) (QM:gB s.heap b3 l3 zs) (hx:xs[k1]?=some x) (hy:ys[k2]?=some y) (hv:zs[k3]?=some v)
  (hQ:∀ h',IsZip h' z TI TO (rawInt s.heap.objs.size)->bI h' TO x y v->e6 h' b1 i1 l1 (k1+1)->e6 h' b2 i2 l2 (k2+1)->e6 h' b3 i3 l3 (k3+1)->bI h' s.heap.objs.size x y v->h'.objs.size=s.heap.objs.size+1 ->
   (∀ c o,c≠z->c≠TO->c≠i1->c≠i2->c≠i3->s.heap.get? c=some o->h'.get? c=some o)->Q (some (.ref s.heap.objs.size)) { s with heap:=h' }) :
  wpAny (model prog w) A (pyNext (.ref z)) Q E s:=by
 have hT:s.TypeIs (.ref z) "zip" := ⟨_,hz,rfl⟩
 unfold pyNext
 exact wpAny_bind (wpAny_attempt (wpAny_callSpecial?_slot (name:=Str.ofString "__next__") hT F.slot_zip_next
  (wpAny_call_entry F.slot_zip_next hT F.entry_zip_next
   (Af D D1 D2 D3 hz OV OY h1 h2 h3 PD PF QM hx hy hv λh' a1 a2 a3 a4 a5 a6 a7 a8=>wpAny_pure (hQ h' a1 a2 a3 a4 a5 a6 a7 a8)) (F.args_zip_next_1 _))))
theorem pV{Q:Option Value->Shared->Prop}(hh:A.handled=none)(D:Z3 z TI TO i1 i2 i3)(D1:L3 z TO i1 i2 i3 l1)(D2:L3 z TO i1 i2 i3 l2)(D3:L3 z TO i1 i2 i3 l3)
  (hz:IsZip s.heap z TI TO .none) (OV:bI s.heap TI (.ref i1) (.ref i2) (.ref i3)) (OY:bI s.heap TO a b c)
  (h1:e6 s.heap b1 i1 l1 k1) (h2:e6 s.heap b2 i2 l2 k2) (h3:e6 s.heap b3 i3 l3 k3) (PD:gB s.heap b1 l1 xs) (PF:gB s.heap b2 l2 ys) (QM:gB s.heap b3 l3 zs) (PR:xs[k1]?=none\/ys[k2]?=none\/zs[k3]?=none)
  (hQ:∀ h',(∀ c o,c≠z->c≠TO->c≠i1->c≠i2->c≠i3->s.heap.get? c=some o->h'.get? c=some o)->Q none { s with heap:=h' }):wpAny (model prog w) A (pyNext (.ref z)) Q E s:=by
 have hT:s.TypeIs (.ref z) "zip" := ⟨_,hz,rfl⟩
 unfold pyNext
 refine wpAny_bind (wpAny_attempt (wpAny_callSpecial?_slot (name:=Str.ofString "__next__") hT F.slot_zip_next
  (wpAny_call_entry F.slot_zip_next hT F.entry_zip_next (BZ hh D D1 D2 D3 hz OV OY h1 h2 h3 PD PF QM PR λh' e hk he=>?_) (F.args_zip_next_1 _))))
 obtain⟨o,ho,hc⟩:=he
 refine wpAny_bind (wpAny_isInstance (T := "StopIteration") (b:=true) ⟨o,ho,hc⟩ isSubtype_stop ?_)
 exact wpAny_pure (hQ _ hk)
end
abbrev LS(h:Heap)(b1 b2 b3:Bool)(l1 l2 l3:Addr):Heap:=(GN h b1 b2 l1 l2).push (F_ b3 l3)
abbrev LU(h:Heap)(b1 b2 b3:Bool)(l1 l2 l3:Addr):Heap:=(LS h b1 b2 b3 l1 l2 l3).push { cls:=.type "tuple", data:=.seq #[.ref h.objs.size,.ref (Jf h b1 l1).objs.size,.ref (GN h b1 b2 l1 l2).objs.size] }
abbrev LR(h:Heap)(b1 b2 b3:Bool)(l1 l2 l3:Addr):Heap:=(LU h b1 b2 b3 l1 l2 l3).push { cls:=.type "tuple", data:=.seq #[.none,.none,.none] }
abbrev Jq(h:Heap)(b1 b2 b3:Bool)(l1 l2 l3:Addr):Heap:=(LR h b1 b2 b3 l1 l2 l3).push { cls:=.type "zip", data:=.fields #[.none,.bool false,.bool false,.ref (LS h b1 b2 b3 l1 l2 l3).objs.size,.ref (LU h b1 b2 b3 l1 l2 l3).objs.size] }
theorem qS(b1 b2 b3:Bool)(l1 l2 l3:Addr)(xs ys zs:Array Value) :
  Meets (Builtin.«zip.__new__» ⟨[.type "zip", .ref l1,.ref l2,.ref l3],[]⟩) (λ_ R s=>gB s.heap b1 l1 xs/\gB s.heap b2 l2 ys/\gB s.heap b3 l3 zs ∧
   R (.ok (.ret (.ref (LR s.heap b1 b2 b3 l1 l2 l3).objs.size))) { s with heap:=Jq s.heap b1 b2 b3 l1 l2 l3 }) :=
 .of_wp λprog w A R s h=>by
  obtain⟨hp,g,d,tk,os⟩:=s;obtain⟨PD,PF,QM,h⟩:=h
  have RU:=sub_zip
  have hL1:gB (Shared.heap ⟨hp,g,d,tk,os⟩) b1 l1 xs:=PD
  have hL2:gB (Shared.heap ⟨hp.push (F_ b1 l1),g,d,tk,os⟩) b2 l2 ys:=gB.push PF _
  have hL3:gB (Shared.heap ⟨(hp.push (F_ b1 l1)).push (F_ b2 l2),g,d,tk,os⟩) b3 l3 zs:=gB.push (gB.push QM _) _
  wp_walk using gy hL1,gy hL2,gy hL3
  exact⟨_,rfl,h⟩
section
variable{prog:Program}{w:World}{A:Around}{E:Value->Shared->Prop}{s:Shared}
theorem AO{b1 b2 b3:Bool}{l1 l2 l3:Addr}{xs ys zs:Array Value}{Q:Value->Shared->Prop}(PD:gB s.heap b1 l1 xs)(PF:gB s.heap b2 l2 ys)(QM:gB s.heap b3 l3 zs)
  (h:∀ h',IsZip h' (s.heap.objs.size+5) (s.heap.objs.size+3) (s.heap.objs.size+4) .none->bI h' (s.heap.objs.size+3) (.ref s.heap.objs.size) (.ref (s.heap.objs.size+1)) (.ref (s.heap.objs.size+2)) ->
   bI h' (s.heap.objs.size+4) .none .none .none->e6 h' b1 s.heap.objs.size l1 0->e6 h' b2 (s.heap.objs.size+1) l2 0->e6 h' b3 (s.heap.objs.size+2) l3 0 ->
   (∀ c o,s.heap.get? c=some o->h'.get? c=some o)->Q (.ref (s.heap.objs.size+5)) { s with heap:=h' }) :
  wpAny (model prog w) A (call (.type "zip") [.ref l1,.ref l2,.ref l3]) Q E s:=by
 refine callType_new F.called_zip (by decide) (qC _ _ _) (sS _ _ _) (λobj=>F.initArgs_range_3 obj _ _ _) F.entry_zip_new
  (qS b1 b2 b3 l1 l2 l3 xs ys zs) ⟨PD,PF,QM,?_⟩
 have z1:(Jf s.heap b1 l1).objs.size=s.heap.objs.size+1:=Heap.size_push ..
 have z2:(GN s.heap b1 b2 l1 l2).objs.size=s.heap.objs.size+2:=by rw[Heap.size_push,z1]
 have z3:(LS s.heap b1 b2 b3 l1 l2 l3).objs.size=s.heap.objs.size+3:=by rw[Heap.size_push,z2]
 have z4:(LU s.heap b1 b2 b3 l1 l2 l3).objs.size=s.heap.objs.size+4:=by rw[Heap.size_push,z3]
 have z5:(LR s.heap b1 b2 b3 l1 l2 l3).objs.size=s.heap.objs.size+5:=by rw[Heap.size_push,z4]
 have g6:(Jq s.heap b1 b2 b3 l1 l2 l3).get? (LR s.heap b1 b2 b3 l1 l2 l3).objs.size=some _:=Heap.get?_push_size _ rfl
 have g5:(Jq s.heap b1 b2 b3 l1 l2 l3).get? (LU s.heap b1 b2 b3 l1 l2 l3).objs.size=some _:=Heap.get?_push_of_some _ (Heap.get?_push_size _ rfl)
 have g4:(Jq s.heap b1 b2 b3 l1 l2 l3).get? (LS s.heap b1 b2 b3 l1 l2 l3).objs.size=some _:=Heap.get?_push_of_some _ (Heap.get?_push_of_some _ (Heap.get?_push_size _ rfl))
 have g3:(Jq s.heap b1 b2 b3 l1 l2 l3).get? (GN s.heap b1 b2 l1 l2).objs.size=some _:=Heap.get?_push_of_some _ (Heap.get?_push_of_some _ (Heap.get?_push_of_some _ (Heap.get?_push_size _ rfl)))
 have g2:(Jq s.heap b1 b2 b3 l1 l2 l3).get? (Jf s.heap b1 l1).objs.size=some _:=Heap.get?_push_of_some _ (Heap.get?_push_of_some _ (Heap.get?_push_of_some _ (Heap.get?_push_of_some _ (Heap.get?_push_size _ rfl))))
 have g1:(Jq s.heap b1 b2 b3 l1 l2 l3).get? s.heap.objs.size=some _:=Heap.get?_push_of_some _ (Heap.get?_push_of_some _ (Heap.get?_push_of_some _ (Heap.get?_push_of_some _ (Heap.get?_push_of_some _ (Heap.get?_push_size _ rfl)))))
 show _/\_
 rw[z3,z4,z5] at g6
 rw[z1,z2,z3] at g4
 rw[z4] at g5
 rw[z2] at g3
 rw[z1] at g2
 rw[z5]
 exact⟨⟨_,g6,rfl⟩,h _ g6 g4 g5 (e6.new _ b1 _ _ g1) (e6.new _ b2 _ _ g2) (e6.new _ b3 _ _ g3) λc o x =>
  Heap.get?_push_of_some _ (Heap.get?_push_of_some _ (Heap.get?_push_of_some _ (Heap.get?_push_of_some _ (Heap.get?_push_of_some _ (Heap.get?_push_of_some _ x)))))⟩
end
def Mt (K : PySem.W.Frag) (b1 b2 b3 : Bool) (a1 a2 a3 : Addr) : It :=
  ⟨λi H => ∃ xs ys zs x y v, lZ K H b1 a1 xs /\ lZ K H b2 a2 ys /\ lZ K H b3 a3 zs /\ xs[i]? = some x /\ ys[i]? = some y /\ zs[i]? = some v,
   λi H r H' => ∃ p x y v, H p = none /\ r = .ref p /\ H' = upd H p (.tup [x, y, v]) /\ (∀ xs, lZ K H b1 a1 xs -> xs[i]? = some x) /\ (∀ ys, lZ K H b2 a2 ys -> ys[i]? = some y) /\ (∀ zs, lZ K H b3 a3 zs -> zs[i]? = some v),
   λi H => ∃ xs ys zs, lZ K H b1 a1 xs /\ lZ K H b2 a2 ys /\ lZ K H b3 a3 zs /\ (xs.length <= i \/ ys.length <= i \/ zs.length <= i)⟩
theorem ue{X:Cx}{N8:List (Addr×Obj)}{σ:St}{H:Hp}{s:Shared}{b:Bool}{z TI TO i1 i2 i3 a:Addr}{xs:List V}(I:Inv X N8 σ H s)(h:lZ X.K H b a xs)(hf:∀ b∈[z,TO,i1,i2,i3,TI],nG X N8 H b):L3 z TO i1 i2 i3 a :=
 ⟨cL I h (hf z (by simp)),cL I h (hf TO (by simp)),cL I h (hf i1 (by simp)),cL I h (hf i2 (by simp)),cL I h (hf i3 (by simp))⟩
theorem Al{P:Program}{w:World}{K:PySem.W.Frag}{elts:List Expr}{x1:Nat}{tp:Pos}(b1 b2 b3:Bool)(a1 a2 a3 z TI TO i1 i2 i3:Addr)(D:Z3 z TI TO i1 i2 i3) :
  Turn P w K (.Tuple elts x1 tp) (Mt K b1 b2 b3 a1 a2 a3) [z,TO,i1,i2,i3,TI] z (λi h=>IsZip h z TI TO .none/\bI h TI (.ref i1) (.ref i2) (.ref i3)/\(∃ a b c,bI h TO a b c)/\e6 h b1 i1 a1 i/\e6 h b2 i2 a2 i/\e6 h b3 i3 a3 i) where
 mem:=by simp
 obj:=λi h st b hb=>by
  obtain⟨hz,OV,⟨a,c,d,OY⟩,h1,h2,h3⟩:=st
  simp only[List.mem_cons,List.mem_nil_iff,or_false] at hb
  rcases hb with q | q | q | q | q | q <;> subst q
  ·exact⟨_,hz,λv z=>by cases z⟩
  ·exact⟨_,OY,λv z=>by cases z⟩
  ·obtain⟨o,vs,e,d⟩:=h1.obj
   exact⟨o,e,λv z=>by rw[d] at z;cases z⟩
  ·obtain⟨o,vs,e,d⟩:=h2.obj
   exact⟨o,e,λv z=>by rw[d] at z;cases z⟩
  ·obtain⟨o,vs,e,d⟩:=h3.obj
   exact⟨o,e,λv z=>by rw[d] at z;cases z⟩
  ·exact⟨_,OV,λv z=>by cases z⟩
 keep:=λi h h' st k=>by
  obtain⟨hz,OV,⟨a,c,d,OY⟩,h1,h2,h3⟩:=st
  exact⟨k z (by simp) _ hz,k TI (by simp) _ OV,⟨a,c,d,k TO (by simp) _ OY⟩,h1.at λo e=>k i1 (by simp) o e,h2.at λo e=>k i2 (by simp) o e,h3.at λo e=>k i3 (by simp) o e⟩
 item:=by
  intro X hP hw hK hc i N8 s σ H E I hf st hg
  subst hP hw hK
  obtain⟨xs,ys,zs,x,y,v,OW,OL,Qm,hx,hy,hv⟩:=hg
  obtain⟨QQ,Q7,p1,RW⟩:=I.row OW
  obtain⟨P_,Q8,p2,RX⟩:=I.row OL
  obtain⟨R0,rv3,p3,hz3'⟩:=I.row Qm
  obtain⟨u1,hu1,ru1⟩:=Q7.get hx
  obtain⟨u2,hu2,ru2⟩:=Q8.get hy
  obtain⟨u3,hu3,ru3⟩:=rv3.get hv
  obtain⟨hz,OV,⟨a,c,d,OY⟩,h1,h2,h3⟩:=st
  obtain⟨oi1,vs1,RD,di1⟩:=h1.obj
  obtain⟨oi2,vs2,RE,di2⟩:=h2.obj
  obtain⟨oi3,vs3,ei3,di3⟩:=h3.obj
  refine oA D (ue I OW hf) (ue I OL hf) (ue I Qm hf) hz OV OY h1 h2 h3 p1 p2 p3 (x:=u1) (y:=u2) (v:=u3) (by simpa using hu1) (by simpa using hu2) (by simpa using hu3) λh' g1 g2 g3 g4 g4' g5 g6 g7=>⟨_,rfl,?_⟩
  refine wpAny_letOwnedTupleGo_zip (s:={ s with heap:=h' }) g1 λhN hz3 Qu=>?_
  have PH:H s.heap.objs.size=none:=I.bC.fresh (Nat.le_refl _)
  have lt:∀ {c:Addr} {o:Obj},s.heap.get? c=some o->c≠s.heap.objs.size:=λe=>Nat.ne_of_lt (Heap.lt_size e)
  have QS:∀ b o,b ∉ [z,TO,i1,i2,i3,TI]->s.heap.get? b=some o->hN.get? b=some o:=λb o hb q=>by
   simp only[List.mem_cons,List.mem_nil_iff,or_false,not_or] at hb
   exact(Qu.2 b hb.1).trans (g7 b o hb.1 hb.2.1 hb.2.2.1 hb.2.2.2.1 hb.2.2.2.2.1 q)
  have hT3:hN.get? s.heap.objs.size=some { cls:=.type "tuple", data:=.seq #[u1,u2,u3] }:=(Qu.2 _ (lt hz).symm).trans g5
  have I3:Inv X N8 σ (upd H s.heap.objs.size (.tup [x,y,v])) { s with heap:=hN,toks:=s.toks } :=
   I.lQ (ch:=[z,TO,i1,i2,i3,TI]) QS hf (Nat.le_refl _) (λb hb=>by
    simp only[List.mem_cons,List.mem_nil_iff,or_false] at hb
    rcases hb with q | q | q | q | q | q <;> subst q
    ·exact⟨_,hz⟩
    ·exact⟨_,OY⟩
    ·exact⟨_,RD⟩
    ·exact⟨_,RE⟩
    ·exact⟨_,ei3⟩
    ·exact⟨_,OV⟩)
    ⟨by show 3<=sizeLine;decide,[u1,u2,u3],.cons ru1 (.cons ru2 (.cons ru3 .nil)),⟨_,hT3,rfl,_,rfl⟩⟩
  refine⟨.ref s.heap.objs.size,_,I3,rfl,⟨_,x,y,v,PH,rfl,rfl,λzs' Q6=>by rw[I.nM Q6 OW];exact hx,λzs' Q6=>by rw[I.nM Q6 OL];exact hy,λzs' Q6=>by rw[I.nM Q6 Qm];exact hv⟩,
   ⟨hz3,(Qu.2 TI D.TIz).trans (g7 TI _ D.TIz D.TITO D.TIi1 D.TIi2 D.MG OV),⟨_,_,_,(Qu.2 TO D.TOz).trans g2⟩,g3.at λo e=>(Qu.2 i1 D.i1z).trans e,g4.at λo e=>(Qu.2 i2 D.i2z).trans e,g4'.at λo e=>(Qu.2 i3 D.JT).trans e⟩,λb hb=>?_⟩
  have nb:b≠s.heap.objs.size:=by
   simp only[List.mem_cons,List.mem_nil_iff,or_false] at hb
   rcases hb with q | q | q | q | q | q <;> subst q
   ·exact lt hz
   ·exact lt OY
   ·exact lt RD
   ·exact lt RE
   ·exact lt ei3
   ·exact lt OV
  rw[ax nb]
  exact(hf b hb).1
 done:=by
  intro X hP hw hK hc i N8 s σ H E I hf st hg
  subst hP hw hK
  obtain⟨xs,ys,zs,OW,OL,Qm,PR⟩:=hg
  obtain⟨QQ,Q7,p1,RW⟩:=I.row OW
  obtain⟨P_,Q8,p2,RX⟩:=I.row OL
  obtain⟨R0,rv3,p3,hz3'⟩:=I.row Qm
  obtain⟨hz,OV,⟨a,c,d,OY⟩,h1,h2,h3⟩:=st
  have l1:=Q7.length
  have l2:=Q8.length
  have l3:=rv3.length
  refine pV (I.ok.hd hc) D (ue I OW hf) (ue I OL hf) (ue I Qm hf) hz OV OY h1 h2 h3 p1 p2 p3 ?_ λh' k=>⟨rfl,?_⟩
  ·rcases PR with q | q | q
   ·exact .inl (by simp;omega)
   ·exact .inr (.inl (by simp;omega))
   ·exact .inr (.inr (by simp;omega))
  ·exact I.zy (t':=s.toks) (ch:=[z,TO,i1,i2,i3,TI]) (λb u hb e=>by
    simp only[List.mem_cons,List.mem_nil_iff,or_false,not_or] at hb
    exact k b u hb.1 hb.2.1 hb.2.2.1 hb.2.2.2.1 hb.2.2.2.2.1 e) hf
 self:=λ_ _ _ _ _ st h=>by
  obtain⟨hz,_⟩:=st
  exact wpAny_pyIter_zip hz h
theorem FI(n:Nat):Z3 (n+5) (n+3) (n+4) n (n+1) (n+2):=by
 refine⟨?_,?_,?_,?_,?_,?_,?_,?_,?_,?_,?_,?_,?_,?_,?_⟩ <;> (show @Ne Nat _ _;omega)
section
variable{X:Cx}
def GA(K:PySem.W.Frag)(tl:TA):TI:=fun σ H R=>tl σ H λvs H1=>∃ b1 b2 b3 a1 a2 a3,vs=[.ref a1,.ref a2,.ref a3]/\(∃ xs,lZ K H1 b1 a1 xs)/\(∃ ys,lZ K H1 b2 a2 ys)/\(∃ zs,lZ K H1 b3 a3 zs)/\R (Mt K b1 b2 b3 a1 a2 a3) H1
theorem za{elts:List Expr}{x1:Nat}{tp:Pos}{l1 l2 l3:Expr}{tl:TA}{p pos:Pos}(hg:Gl X "zip")(hm:X.mg "zip" = none)(hl:PA X [l1,l2,l3] tl)(hs:starEach [l1,l2,l3] X.env=[(false,eval l1 X.env),(false,eval l2 X.env),(false,eval l3 X.env)]:=by rfl)(PK:starEach [l2,l3] X.env=[(false,eval l2 X.env),(false,eval l3 X.env)]:=by rfl) :
  PI X (.Tuple elts x1 tp) (.Call (.Name "zip" p) [l1,l2,l3] [] pos) (GA X.K tl):=by
 intro N8 s σ H R I h
 refine Call_ (j6 I hg hm PyProof.Rows.boot_zip (PyProof.Rows.callWith_type1 (cB (hl pos N8 s σ H _ I h) λus s1 ⟨vs,H1,I1,r1,q1⟩=>?_) (by rw[hs,PK]) (by rw[PK];rfl)))
 obtain⟨b1,b2,b3,a1,a2,a3,e,⟨xs,OW⟩,⟨ys,OL⟩,⟨zs,Qm⟩,q⟩:=q1
 subst e
 cases r1 with
 | cons r rr =>
  cases rr with
  | cons r' rr =>
   cases rr with
   | cons R4 rr =>
    cases rr
    cases (show _=Value.ref a1 from r)
    cases (show _=Value.ref a2 from r')
    cases (show _=Value.ref a3 from R4)
    obtain⟨QQ,Q7,p1,RW⟩:=I1.row OW
    obtain⟨P_,Q8,p2,RX⟩:=I1.row OL
    obtain⟨R0,rv3,p3,hz3⟩:=I1.row Qm
    refine AO p1 p2 p3 λh' g1 g2 g3 g4 g5 g6 g7=>?_
    have I2:Inv X N8 σ H1 { s1 with heap:=h' }:=I1.kept (t':=s1.toks) g7
    refine wpAny_pyIter_zip (s:={ s1 with heap:=h' }) g1 ?_
    refine⟨s1.heap.objs.size+5,[s1.heap.objs.size+5,s1.heap.objs.size+4,s1.heap.objs.size,s1.heap.objs.size+1,s1.heap.objs.size+2,s1.heap.objs.size+3],_,_,H1,rfl,I2,
     Al b1 b2 b3 a1 a2 a3 _ _ _ _ _ _ (FI s1.heap.objs.size),⟨g1,g2,⟨_,_,_,g3⟩,g4,g5,g6⟩,λb hb=>?_,q⟩
    have hle:s1.heap.objs.size<=b:=by
     simp only[List.mem_cons,List.mem_nil_iff,or_false] at hb
     rcases hb with q | q | q | q | q | q
     ·rw[q];exact Nat.le_add_right _ 5
     ·rw[q];exact Nat.le_add_right _ 4
     ·rw[q];exact Nat.le_refl _
     ·rw[q];exact Nat.le_add_right _ 1
     ·rw[q];exact Nat.le_add_right _ 2
     ·rw[q];exact Nat.le_add_right _ 3
    exact I1.vq hle (I1.bC.fresh hle)
end
end L2
namespace L2
open PySem PySem.Spec PyProof.Rows
section
variable{M:Model}{A:Around}{E:Value->Shared->Prop}{s:Shared}
theorem tD{base:Heap}{env:Env}{outer:List Env}{L e:Addr}{oe:Obj}{vs:Array Value}{head:Value}{Q0:Bool}{Q:Unit->Shared->Prop}
  (QK:A.frames=some (env::outer)) (hl:s.heap.FunFrames base (env::outer)) (hf:env.frame=some L)
  (he:s.heap.get? e=some oe) (hd:oe.data=.fields vs) (PX:1<vs.size)
  (h:∀ h' T oT ts,h'.get? e=some (Obj.mapFields (·.setIfInBounds 1 (.ref T)) oe)->s.heap.objs.size<=T->T≠e->h'.get? T=some oT->oT.data=.fields ts->ts[3]?=some (rawInt L) ->
   (∀ b o,b≠e->b ∉ xE (env::outer)->s.heap.get? b=some o->h'.get? b=some o)->(∀ b o,b≠e->s.heap.get? b=some o->∃ sl,h'.get? b=some { o with slots:=sl })->Q () { s with heap:=h' }) :
  wpAny M A (do let a ← frameOf env;let pl ← entryPlaceOf L Q0;let b ← EntryCells.newEntry head a .none (rawInt L) .none pl;setField (.ref e) 1 b) Q E s:=by
 have hene:e ∉ (env::outer).filterMap (·.frame):=λhm=>by
  obtain⟨_,o,ho,RS⟩:=hl.mem hm
  rw[he] at ho;injection ho with ho;subst ho;exact RS vs hd
 refine wpAny_bind (wpAny_frameOf_fun QK hl hf λh₁ hs1=>?_)
 refine wpAny_bind (wpAny_entryPlaceOf λpl OB=>?_)
 unfold EntryCells.newEntry newFields
 refine wpAny_bind (wpAny_newObj_type ?_ (OB.sizeOk5 _ _ _ _ _))
 have he1:h₁.get? e=some oe:=(hs1.2.1 e hene).trans he
 have he₂:=Heap.get?_push_of_some (h:=h₁) { cls:=.type "traceback", dict:=none,data:=.fields ([head,.ref L,.none,rawInt L,.none]++(if pl.isEmpty then List.replicate 6 Value.none else pl)).toArray } he1
 have hTe:h₁.objs.size≠e:=Nat.ne_of_gt (Heap.lt_size he1)
 have hd3:=Obj.data_mapFields hd (·.setIfInBounds 1 (Value.ref h₁.objs.size))
 have he3:=Heap.get?_update_self (Obj.mapFields (·.setIfInBounds 1 (Value.ref h₁.objs.size))) he₂ (Obj.isFreed_of_fields hd3)
 have hT₃:=(Heap.get?_update_other (h₁.push { cls:=.type "traceback", dict:=none,data:=.fields ([head,.ref L,.none,rawInt L,.none]++(if pl.isEmpty then List.replicate 6 Value.none else pl)).toArray })
  (Obj.mapFields (·.setIfInBounds 1 (Value.ref h₁.objs.size))) (Ne.symm hTe)).trans (Heap.get?_push_size h₁ rfl)
 have keep:∀ b o,b≠e->h₁.get? b=some o ->
   ((h₁.push { cls:=.type "traceback", dict:=none,data:=.fields ([head,.ref L,.none,rawInt L,.none]++(if pl.isEmpty then List.replicate 6 Value.none else pl)).toArray }).update e (Obj.mapFields (·.setIfInBounds 1 (Value.ref h₁.objs.size)))).get? b=some o:=λb o Qy hb=>by
  rw[Heap.get?_update_other _ _ (Ne.symm Qy)]
  exact Heap.get?_push_of_some _ hb
 refine wpAny_setField he₂ hd PX (h _ h₁.objs.size _ _ he3 ?_ hTe hT₃ rfl (by first | (simp;done) | (rcases OB with rfl | ⟨_,_,_,_,_,_,_,rfl⟩ <;> simp)) ?_ ?_)
 ·exact Nat.le_of_eq hs1.1.symm
 ·intro b o Qy hbf hb
  exact keep b o Qy ((hs1.2.1 b hbf).trans hb)
 ·intro b o Qy hb
  obtain⟨sl,hs⟩:=hs1.2.2 b o hb
  exact⟨sl,keep b _ Qy hs⟩
def Lies(h:Heap)(e:Addr)(vs:Array Value)(to:Option Addr):Prop:=match to with
 | none=>vs[1]?=some .none
 | some T=>vs[1]?=some (.ref T)/\T≠e/\∃ oT ts,h.get? T=some oT/\oT.data=.fields ts/\ts[3]?=some .none
theorem AQ{base:Heap}{env:Env}{outer:List Env}{L e:Addr}{oe:Obj}{vs:Array Value}{to:Option Addr}{Q:Unit->Shared->Prop}
  (QK:A.frames=some (env::outer)) (hl:s.heap.FunFrames base (env::outer)) (hf:env.frame=some L)
  (he:s.heap.get? e=some oe) (hd:oe.data=.fields vs) (hto:Lies s.heap e vs to)
  (h:∀ h' T oT ts,h'.get? e=some (Obj.mapFields (·.setIfInBounds 1 (.ref T)) oe)->s.heap.objs.size<=T->T≠e->h'.get? T=some oT->oT.data=.fields ts->ts[3]?=some (rawInt L) ->
   (∀ b o,b≠e->(∀ T,to=some T->b≠T)->b ∉ xE (env::outer)->s.heap.get? b=some o->h'.get? b=some o) ->
   (∀ b o,b≠e->(∀ T,to=some T->b≠T)->s.heap.get? b=some o->∃ sl,h'.get? b=some { o with slots:=sl })->(∀ b o,s.heap.get? b=some o->∃ o',h'.get? b=some o')->Q () { s with heap:=h' }) :
  wpAny M A (noteFrame (.ref e) env) Q E s:=by
 unfold noteFrame
 simp only[hf]
 cases to with
 | none =>
  have h1:vs[1]?=some .none:=hto
  refine wpAny_bind (wpAny_field he hd h1 ?_)
  rw[if_neg (by decide)]
  refine tD QK hl hf he hd (Array.getElem?_eq_some_iff.mp h1).1 λh' T oT ts a1 a2 a3 a4 a5 a6 a7 a8=>?_
  refine h h' T oT ts a1 a2 a3 a4 a5 a6 (λb o n1 _ n2 q=>a7 b o n1 n2 q) (λb o n1 _ q=>a8 b o n1 q) λb o q=>?_
  by_cases z:b=e
  ·subst z;exact⟨_,a1⟩
  ·obtain⟨sl,r⟩:=a8 b o z q;exact⟨_,r⟩
 | some T0 =>
  obtain⟨h1,hTe,oT,ts,hT,hdT,h3⟩:=hto
  refine wpAny_bind (wpAny_field he hd h1 ?_)
  rw[if_pos (show (Value.ref T0 != Value.none)=true from by simp)]
  refine wpAny_bind (wpAny_field hT hdT h3 ?_)
  rw[if_neg (show ¬ ((Value.none==rawInt L)=true) from by simp[rawInt])]
  refine wpAny_bind (wpAny_setField hT hdT (Array.getElem?_eq_some_iff.mp h3).1 ?_)
  have other:∀ b,b≠T0->(s.heap.update T0 (Obj.mapFields (·.setIfInBounds 3 Value.none))).get? b=s.heap.get? b:=λb hb=>Heap.get?_update_other _ _ (Ne.symm hb)
  have QV:∀ b o,s.heap.get? b=some o->(∀ vs,o.data≠.fields vs)->b≠T0:=λb o hb RS q=>by
   rw[q,hT] at hb;injection hb with hb;subst hb;exact RS ts hdT
  have QZ:=Heap.get?_update_self (Obj.mapFields (·.setIfInBounds 3 Value.none)) hT (Obj.isFreed_of_fields (Obj.data_mapFields hdT _))
  refine tD QK (hl.of_keeps λb o hb RS=>⟨o,(other b (QV b o hb RS)).trans hb,rfl⟩) hf ((other e (Ne.symm hTe)).trans he) hd (Array.getElem?_eq_some_iff.mp h1).1 λh' T oT' ts' a1 a2 a3 a4 a5 a6 a7 a8=>?_
  refine h h' T oT' ts' a1 (by simpa [Heap.update] using a2) a3 a4 a5 a6 (λb o n1 n2 n3 q=>a7 b o n1 n3 ((other b (n2 T0 rfl)).trans q)) (λb o n1 n2 q=>a8 b o n1 ((other b (n2 T0 rfl)).trans q)) λb o q=>?_
  by_cases z:b=e
  ·subst z;exact⟨_,a1⟩
  ·by_cases z2:b=T0
   ·subst z2
    obtain⟨sl,r⟩:=a8 b _ z QZ;exact⟨_,r⟩
   ·obtain⟨sl,r⟩:=a8 b o z ((other b z2).trans q);exact⟨_,r⟩
end
end L2
namespace L2
open PySem PySem.Spec PyProof.Rows
def lX(C:Addr)(dd:Option Addr)(e:Addr):HO:=.ext λh=>∃ t,h.get? e=some ⟨.ref C,dd,.fields #[.ref t,.none,.none,.none,.bool false,.none],#[]⟩
def KU(C:Addr)(dd:Option Addr)(e T:Addr):HO:=.ext λh=>∃ vs,h.get? e=some ⟨.ref C,dd,.fields vs,#[]⟩/\vs[1]?=some (.ref T)
def NI(fl:Value)(T:Addr):HO:=.ext λh=>∃ oT ts,h.get? T=some oT/\oT.data=.fields ts/\ts[3]?=some fl
def oH(Hc:Hp)(e T C:Addr)(dd:Option Addr)(fl:Value):Hp:=upd (upd Hc T (NI fl T)) e (KU C dd e T)
theorem qh{Hc:Hp}{e T C:Addr}{dd:Option Addr}{fl:Value}:oH Hc e T C dd fl e=some (KU C dd e T):=aE
theorem qp{Hc:Hp}{e T C:Addr}{dd:Option Addr}{fl:Value}(n:T≠e):oH Hc e T C dd fl T=some (NI fl T):=by unfold oH;rw[ax n,aE]
theorem j8{Hc:Hp}{e T C b:Addr}{dd:Option Addr}{fl:Value}(n:b≠e)(n2:b≠T):oH Hc e T C dd fl b=Hc b:=by unfold oH;rw[ax n,ax n2]
section
variable{X:Cx}{N8:List (Addr×Obj)}{σ:St}{H:Hp}{s:Shared}
theorem Inv.note{Hc:Hp}{e C:Addr}{dd:Option Addr}{to:Option Addr}{vs:Array Value}{φ:Heap->Prop}{Q:Unit->Shared->Prop}{E:Value->Shared->Prop}(I:Inv X N8 σ H s)(Oz:X.stack=X.env::X.outer)(hf:X.env.frame=some X.env.locals)
  (he:H e=some (.ext φ)) (hx:s.heap.get? e=some ⟨.ref C,dd,.fields vs,#[]⟩) (lies:Lies s.heap e vs to) (hT:∀ T,to=some T->(∃ ψ,H T=some (.ext ψ))/\Hc T=none) (hc:∀ b,b≠e->(∀ T,to=some T->b≠T)->Hc b=H b)
  (h:∀ h' T,Hc T=none->T≠e->Inv X N8 σ (oH Hc e T C dd (rawInt X.env.locals)) { s with heap:=h' }->Q () { s with heap:=h' }) :
  wpAny (model X.prog X.w) X.A (noteFrame (.ref e) X.env) Q E s:=by
 have hl:=I.stack
 have QK:=I.ok.frames
 have sf:=I.uI
 rw[Oz] at hl QK sf
 refine AQ (base:=X.base) QK hl hf hx rfl lies λh' T oT ts a1 a2 a3 a4 a5 a6 a7 a8 a9=>?_
 have hTn:H T=none:=I.bC.fresh a2
 have nT:∀ b u,H b=some u->b≠T:=λb u q z=>by rw[z,hTn] at q;cases q
 have QE:∀ b u,H b=some u->(∀ ψ,u≠.ext ψ)->b≠e/\∀ T0,to=some T0->b≠T0:=by
  intro b u q hu
  refine⟨λz=>?_,λT0 z w=>?_⟩
  ·rw[z,he] at q;exact hu _ (Option.some.inj q).symm
  ·obtain⟨⟨ψ,q2⟩,_⟩:=hT T0 z
   rw[w,q2] at q;exact hu _ (Option.some.inj q).symm
 have old:∀ b u,H b=some u->(∀ ψ,u≠.ext ψ)->oH Hc e T C dd (rawInt X.env.locals) b=some u:=λb u q hu=>by
  obtain⟨n1,n2⟩:=QE b u q hu
  rw[j8 n1 (nT b u q),hc b n1 n2];exact q
 have hcT:Hc T=none:=by
  by_cases z:∃ T0,to=some T0/\T=T0
  ·obtain⟨T0,z1,z2⟩:=z;rw[z2];exact(hT T0 z1).2
  ·rw[hc T a3 λT0 z1 z2=>z ⟨T0,z1,z2⟩];exact hTn
 have un:∀ b o,s.heap.get? b=some o->H b=none->b≠e/\(∀ T0,to=some T0->b≠T0)/\b≠T:=by
  intro b o q n
  refine⟨λz=>?_,λT0 z w=>?_,Nat.ne_of_lt (Nat.lt_of_lt_of_le (Heap.lt_size q) a2)⟩
  ·rw[z,he] at n;cases n
  ·obtain⟨⟨ψ,q2⟩,_⟩:=hT T0 z
   rw[w,q2] at n;cases n
 refine h h' T hcT a3 ?_
 have U:Un (xE X.stack) [] H (oH Hc e T C dd (rawInt X.env.locals)) s.heap h':=by
  rw[Oz]
  refine⟨λb o q n nf _=>?_,λb o q n _ _=>?_,λb o q n _=>?_,λb o q _=>a9 b o q,λb xs q=>old b _ q (λ_ z=>nomatch z),λb ob u q=>old b _ q (λ_ z=>nomatch z),λb ps q=>⟨#[],?_⟩⟩
  ·obtain⟨n1,n2,_⟩:=un b o q n;exact a7 b o n1 n2 nf q
  ·obtain⟨n1,n2,_⟩:=un b o q n;exact a8 b o n1 n2 q
  ·obtain⟨n1,n2,n3⟩:=un b o q n
   rw[j8 n1 n3,hc b n1 n2];exact n
  ·rw[old b _ q (λ_ z=>nomatch z)];simp
 have ok:oy X.prog X.w (oH Hc e T C dd (rawInt X.env.locals)) h':=λb u q=>by
  by_cases z:b=e
  ·subst z
   rw[qh] at q;cases q
   refine⟨⟨_,a1,?_⟩,⟨_,a1⟩,λh1 h2 ⟨ws,q1,q2⟩ k=>⟨ws,k _ q1,q2⟩⟩
   have PX:1<vs.size:=by
    cases to with
    | none=>exact(Array.getElem?_eq_some_iff.mp (show vs[1]?=some .none from lies)).1
    | some T0=>exact(Array.getElem?_eq_some_iff.mp lies.1).1
   simp[PX]
  ·by_cases z2:b=T
   ·subst z2
    rw[qp a3] at q;cases q
    exact⟨⟨oT,ts,a4,a5,a6⟩,⟨_,a4⟩,λh1 h2 ⟨o1,t1,q1,q2,q3⟩ k=>⟨o1,t1,k _ q1,q2,q3⟩⟩
   ·rw[j8 z z2] at q
    have z3:∀ T0,to=some T0->b≠T0:=λT0 w w2=>by rw[w2,(hT T0 w).2] at q;cases q
    rw[hc b z z3] at q
    have nf:∀ c u',H c=some u'->c ∉ xE (X.env::X.outer):=λc u' q' hm=>by have:=sf c hm;rw[q'] at this;cases this
    refine(I.bC b u q).mR (λc v Q1 q'=>?_) (λc q'=>old c _ q' (λ_ z=>nomatch z)) λc xs q'=>old c _ q' (λ_ z=>nomatch z)
    rcases Q1 with rfl | Q1
    ·exact a7 c v z z3 (nf c u q) q'
    ·obtain⟨n1,n2⟩:=QE c _ Q1 (λ_ z=>nomatch z)
     exact a7 c v n1 n2 (nf c _ Q1) q'
 exact I.call (ch:=[]) U ok I.bare (λb z=>absurd z (by simp))
theorem Inv.AZ{Hc:Hp}{e T C:Addr}{dd:Option Addr}{fl:Value}(I:Inv X N8 σ (oH Hc e T C dd fl) s)(n:T≠e):∃ vs oT ts,s.heap.get? e=some ⟨.ref C,dd,.fields vs,#[]⟩/\vs[1]?=some (.ref T)/\s.heap.get? T=some oT/\oT.data=.fields ts/\ts[3]?=some fl:=by
 obtain⟨vs,h1,h2⟩:=(I.bC e _ qh).1
 obtain⟨oT,ts,q⟩:=(I.bC T _ (qp n)).1
 exact⟨vs,oT,ts,h1,h2,q⟩
theorem Inv.Kq{Hc:Hp}{e T C:Addr}{dd:Option Addr}{fl:Value}{Q:Unit->Shared->Prop}{E:Value->Shared->Prop}(I:Inv X N8 σ (oH Hc e T C dd fl) s)(hfl:fl=.none\/fl=rawInt X.env.locals)(n:T≠e)(hcT:Hc T=none)(Oz:X.stack=X.env::X.outer)(hf:X.env.frame=some X.env.locals)
  (h:∀ h' T,Hc T=none->T≠e->Inv X N8 σ (oH Hc e T C dd (rawInt X.env.locals)) { s with heap:=h' }->Q () { s with heap:=h' }) :
  wpAny (model X.prog X.w) X.A (noteFrame (.ref e) X.env) Q E s:=by
 obtain⟨vs,oT,ts,hx,h1,hT,hd,h3⟩:=I.AZ n
 rcases hfl with rfl | rfl
 ·refine I.note (Hc:=Hc) (to:=some T) Oz hf qh hx ⟨h1,n,oT,ts,hT,hd,h3⟩ (λT0 z=>?_) (λb n1 n2=>(j8 n1 (n2 T rfl)).symm) h
  cases z
  exact⟨⟨_,qp n⟩,hcT⟩
 ·unfold noteFrame
  simp only[hf]
  refine wpAny_bind (wpAny_field hx rfl h1 ?_)
  rw[if_pos (show (Value.ref T != Value.none)=true from by simp)]
  refine wpAny_bind (wpAny_field hT hd h3 ?_)
  rw[if_pos (show (rawInt X.env.locals==rawInt X.env.locals)=true from by simp)]
  exact wpAny_pure (h s.heap T hcT n I)
theorem Inv.KJ{e C:Addr}{dd:Option Addr}{Q:Unit->Shared->Prop}{E:Value->Shared->Prop}(I:Inv X N8 σ H s)(he:H e=some (lX C dd e))(Oz:X.stack=X.env::X.outer)(hf:X.env.frame=some X.env.locals)
  (h:∀ h' T,upd H e (iR C dd e) T=none->T≠e->Inv X N8 σ (oH (upd H e (iR C dd e)) e T C dd (rawInt X.env.locals)) { s with heap:=h' }->Q () { s with heap:=h' }) :
  wpAny (model X.prog X.w) X.A (noteFrame (.ref e) X.env) Q E s:=by
 obtain⟨t,hx⟩:=(I.bC e _ he).1
 exact I.note (Hc:=upd H e (iR C dd e)) (to:=none) Oz hf he hx rfl (λ_ z=>by cases z) (λb n1 _=>ax n1) h
theorem Inv.qJ{Hc:Hp}{e T C:Addr}{dd:Option Addr}{fl:Value}{fr:Option Addr}{Q:Unit->Shared->Prop}{E:Value->Shared->Prop}(I:Inv X N8 σ (oH Hc e T C dd fl) s)(n:T≠e)
  (h:∀ h',Inv X N8 σ (oH Hc e T C dd (fr.elim .none λf=>rawInt f)) { s with heap:=h' }->Q () { s with heap:=h' }) :
  wpAny (model X.prog X.w) X.A (setFlight (.ref e) fr) Q E s:=by
 obtain⟨vs,oT,ts,hx,h1,hT,hd,h3⟩:=I.AZ n
 unfold setFlight
 refine wpAny_bind (wpAny_field hx rfl h1 ?_)
 rw[if_pos (show (Value.ref T != Value.none)=true from by simp)]
 have PX:3<ts.size:=(Array.getElem?_eq_some_iff.mp h3).1
 refine wpAny_setField hT hd PX (h _ ?_)
 have other:∀ b,b≠T->(s.heap.update T (Obj.mapFields (·.setIfInBounds 3 (fr.elim Value.none λf=>rawInt f)))).get? b=s.heap.get? b:=λb hb=>Heap.get?_update_other _ _ (Ne.symm hb)
 have QZ:=Heap.get?_update_self (Obj.mapFields (·.setIfInBounds 3 (fr.elim Value.none λf=>rawInt f))) hT (Obj.isFreed_of_fields (Obj.data_mapFields hd _))
 have nT:∀ b,oH Hc e T C dd fl b=none->b≠T:=λb q z=>by rw[z,qp n] at q;cases q
 have same:∀ b,b≠T->oH Hc e T C dd (fr.elim .none λf=>rawInt f) b=oH Hc e T C dd fl b:=λb z=>by
  by_cases w:b=e
  ·subst w;rw[qh,qh]
  ·rw[j8 w z,j8 w z]
 have ne:∀ b u,oH Hc e T C dd fl b=some u->(∀ ψ,u≠.ext ψ)->b≠T:=λb u q hu z=>by rw[z,qp n] at q;exact hu _ (Option.some.inj q).symm
 refine I.un (t':=s.toks) ⟨λb o q z _ _=>(other b (nT b z)).trans q,λb o q z _ _=>⟨o.slots,(other b (nT b z)).trans q⟩,λb o q z _=>by rw[same b (nT b z)];exact z,λb o q _=>?_,λb xs q=>?_,λb ob u q=>?_,λb ps q=>⟨#[],?_⟩⟩ λb u q=>?_
 ·by_cases z:b=T
  ·subst z;exact⟨_,QZ⟩
  ·exact⟨o,(other b z).trans q⟩
 ·rw[same b (ne b _ q λ_ z=>nomatch z)];exact q
 ·rw[same b (ne b _ q λ_ z=>nomatch z)];exact q
 ·rw[same b (ne b _ q λ_ z=>nomatch z),q];simp
 ·by_cases z:b=T
  ·subst z
   rw[qp n] at q;cases q
   refine⟨⟨_,_,QZ,Obj.data_mapFields hd _,?_⟩,⟨_,QZ⟩,λh1 h2 ⟨o1,t1,q1,q2,q3⟩ k=>⟨o1,t1,k _ q1,q2,q3⟩⟩
   simp[PX]
  ·rw[same b z] at q
   refine(I.bC b u q).mR (λc v hc q'=>(other c ?_).trans q') (λc q'=>?_) λc xs q'=>?_
   ·rcases hc with rfl | hc
    ·exact z
    ·exact ne c _ hc λ_ z=>nomatch z
   ·rw[same c (ne c _ q' λ_ z=>nomatch z)];exact q'
   ·rw[same c (ne c _ q' λ_ z=>nomatch z)];exact q'
end
def bH(P:Program)(w:World):FJ:=λouter H s E e s'=>∃ (ea T C:Addr) (dd:Option Addr) (Hc:Hp),e=.ref ea/\s'.os=s.os/\AllBare s'.gens/\Un (xE outer) [] H (oH Hc ea T C dd .none) s.heap s'.heap/\oy P w (oH Hc ea T C dd .none) s'.heap ∧
 Hc ea=some (iR C dd ea)/\Hc T=none/\T≠ea/\E (.ref ea) none Hc
def Zx (X : Cx) (E : St -> XK) (e : Value) (s : Shared) : Prop := ∃ (ea C : Addr) (dd : Option Addr) (N8 : List (Addr × Obj)) (σ : St), e = .ref ea ∧
  ((∃ H, Inv X N8 σ H s /\ H ea = some (lX C dd ea) /\ E σ (.ref ea) none (upd H ea (iR C dd ea))) ∨
   (∃ Hc T fl, Inv X N8 σ (oH Hc ea T C dd fl) s /\ (fl = .none \/ fl = rawInt X.env.locals) /\ Hc ea = some (iR C dd ea) /\ Hc T = none /\ T ≠ ea /\ E σ (.ref ea) none Hc))
theorem Zx.note{X:Cx}{E:St->XK}{e:Value}{s:Shared}{Q:Unit->Shared->Prop}{F:Value->Shared->Prop}(z:Zx X E e s)(Oz:X.stack=X.env::X.outer)(hf:X.env.frame=some X.env.locals)
  (h:∀ s' ea C dd N8 σ Hc T,e=.ref ea->Inv X N8 σ (oH Hc ea T C dd (rawInt X.env.locals)) s'->Hc ea=some (iR C dd ea)->Hc T=none->T≠ea->E σ (.ref ea) none Hc->Q () s') :
  wpAny (model X.prog X.w) X.A (noteFrame e X.env) Q F s:=by
 obtain⟨ea,C,dd,N8,σ,rfl,⟨H,I,h1,h2⟩ | ⟨Hc,T,fl,I,h1,h2,h3,h4,h5⟩⟩:=z
 ·exact I.KJ h1 Oz hf λh' T q1 q2 I2=>h _ ea C dd N8 σ _ T rfl I2 aE q1 q2 h2
 ·exact I.Kq h1 h4 h3 Oz hf λh' T q1 q2 I2=>h _ ea C dd N8 σ _ T rfl I2 h2 q1 q2 h5
theorem Zx.Iy{X:Cx}{E:XK}{e:Value}{s:Shared}{F:Value->Shared->Prop}(z:Zx X (λ_=>E) e s)(Oz:X.stack=X.env::X.outer)(hf:X.env.frame=some X.env.locals)(hex:X.ex=[]) :
  wpAny (model X.prog X.w) X.A (leaving X.env e) (λ_ s'=>bH X.prog X.w X.outer X.H₀ X.s₀ E e s') F s:=by
 unfold leaving
 refine wpAny_bind (z.note Oz hf λs' ea C dd N8 σ Hc T he I h1 h2 h3 h4=>?_)
 subst he
 refine I.qJ h3 λh' I2=>⟨ea,T,C,dd,Hc,rfl,I2.os,I2.bare,?_,I2.bC,h1,h2,h3,h4⟩
 have:=I2.base
 rw[hex] at this
 exact this
theorem Zx.own{X:Cx}{E:St->XK}(Oz:X.stack=X.env::X.outer)(hf:X.env.frame=some X.env.locals):PassesOwn (model X.prog X.w) X.A X.env (Zx X E):=by
 intro e s z
 refine z.note Oz hf λs' ea C dd N8 σ Hc T he I h1 h2 h3 h4=>?_
 subst he
 obtain⟨vs,oT,ts,hx,q1,_⟩:=I.AZ h3
 show wpAny _ _ _ _ _ _
 refine wpAny_bind (wpAny_field hx rfl q1 ?_)
 rw[if_neg (show ¬ ((Value.ref T==Value.none)=true) from by simp)]
 rw[hf]
 refine I.qJ h3 λh' I2=>⟨ea,C,dd,N8,σ,rfl,.inr ⟨Hc,T,_,I2,.inr rfl,h1,h2,h3,h4⟩⟩
structure e9 (X:Cx) (E:St->XK):Prop where
 pass:∀ (N8:List (Addr×Obj)) (σ:St) (H:Hp) (s:Shared) (e:Value) (s':Shared),Inv X N8 σ H s->bH X.prog X.w X.stack H s (E σ) e s'->X.xe e s'
 new:∀ (N8:List (Addr×Obj)) (σ:St) (H:Hp) (s:Shared) (e C:Addr) (dd:Option Addr),Inv X N8 σ H s->H e=some (lX C dd e)->E σ (.ref e) none (upd H e (iR C dd e))->X.xe (.ref e) s
 own:PassesOwn (model X.prog X.w) X.A X.env X.xe
abbrev Cx.out(X:Cx)(E:St->XK):Cx:=X.r0 (Zx X E)
theorem BG{X:Cx}{E:St->XK}(Oz:X.stack=X.env::X.outer)(hf:X.env.frame=some X.env.locals):e9 (X.out E) E where
 pass:=by
  intro N8 σ H s e s' I h
  obtain⟨ea,T,C,dd,Hc,rfl,os,bare,un,bC,h1,h2,h3,hE⟩:=h
  have I':=I.e7.BU (ch:=[]) os un bC bare (λb z=>absurd z (by simp))
  exact⟨ea,C,dd,N8,σ,rfl,.inr ⟨Hc,T,.none,I',.inl rfl,h1,h2,h3,hE⟩⟩
 new:=λN8 σ H s e C dd I he hE=>⟨e,C,dd,N8,σ,rfl,.inl ⟨H,I.e7,he,hE⟩⟩
 own:=Zx.own Oz hf
theorem xT{P:Program}{w:World}{K:PySem.W.Frag}{mg:Str->Option Value}{base:Heap}{k:Nat}{f:Addr}{name qual:Str}{params:Arguments}{body:List Stmt}{scope:Scope}{dV kV doc pm OA ct oc:Value}{an od:Option Addr}
  {Qx:Array (Option Value)} {N ps:List Str} {sp:Sp} (lk:K.lookup f=some ⟨oc,od,.func (PySem.W.fnOf name qual params body scope dV kV doc pm an OA ct),Qx⟩) (Py:PySem.W.codeIn K OA qual=true) (S:aw N ps scope)
  (len:∀ vs H Q E,sp vs H Q E->vs.length=ps.length)
  (QF:∀ (A:Around) (outer:List Env) (s:Shared) (H:Hp) (vs:List V) (Q:VK) (E:XK),bX k (A.deeper (envOfC qual scope s.heap.objs.size f OA))->sp vs H Q E ->
   ∃ t,mH ((pU (bH P w) P w K mg base N qual scope f OA A outer s H E).out λ_=>E) body t/\t { nx:=λ_ H'=>Q .b_ H',rt:=Q } (start N vs) H) :
  aI P w K mg base (bH P w) (k+1) f (PySem.W.fnOf name qual params body scope dV kV doc pm an OA ct) ps sp:=by
 refine Kd lk Py S len λA outer s H vs Q E hr hs=>?_
 obtain⟨t,h1,h2⟩:=QF A outer s H vs Q E hr hs
 refine⟨t,λN8 s1 σ H1 D I q=>?_,h2⟩
 refine wpAny_mono (h1 N8 s1 σ H1 D (I.r0 _) q) (λf s' z=>z.e7) λe s' z=>?_
 exact z.Iy rfl rfl rfl
end L2
namespace L2
open PySem PySem.Spec PyProof.Rows
open PySem.Builtin.ObjectAttr (storeInOwnDict storeTaker? setByDescriptor)
theorem uC{P:Program}{w:World}{H:Hp}{h:Heap}{C e t:Addr}{dd:Option Addr}(he:h.get? e=some ⟨.ref C,dd,.fields #[.ref t,.none,.none,.none,.bool false,.none],#[]⟩):cp P w H h e (lX C dd e) :=
 ⟨⟨t,he⟩,⟨_,he⟩,λ_ _ ⟨t,q⟩ k=>⟨t,k _ q⟩⟩
section
variable{X:Cx}{C f:Addr}{fd:FuncData}{ps:List Str}{sp:Sp}{x:Str}{p pos:Pos}{e:Expr}{es:List Expr}{t:TA}{k:Nat}
def KZ(C:Addr)(t:TA):TE:=fun σ H Q=>t σ H λvs H1=>vs.length<=sizeLine/\∀ a,H1 a=none->Q (.ref a) (upd H1 a (lX C none a))
theorem EV(hc:PySem.W.excIn X.K C fS "ValueError.__new__" = true)(kp:PySem.W.keepIn X.K (.ref C)=true)(hg:Gl X x)(hm:X.mg x=some (.ref C))
  (ha:PA X (e::es) t) (Ph:(x==("__debug__" : Str))=false:=by decide) (he:starEach (e::es) X.env=(false,eval e X.env)::starEach es X.env:=by rfl) (OB:(backTo pos (starEach es X.env)).any (·.1)=false:=by rfl) :
  PE X (.Call (.Name x p) (e::es) [] pos) (KZ C t):=by
 intro N8 s σ H Q I h
 refine wpAny_Call_Name_kw (kd I hg hm ?_ Ph)
 refine PySem.W.callWith_K (h₀:=X.base) I.ok.mod.Fe kp (cB (ha pos N8 s σ H _ I h) λus s1 ⟨vs,H1,I1,r,hl,q⟩=>⟨I1.jZ,?_⟩) he OB
 obtain⟨bm,N,nm,qn,bs,Qk,sn,sub,ab,col,dd,k0,k1,k2,k3,k5,mN,hC,hN,Qz,T⟩:=EL I1.jZ hc
 obtain⟨hp,g,d,tk,os⟩:=s1
 refine wpAny_call_exc_subT PySem.F.excBase_ValueError T hC hN Qz (λh' a M=>?_) (by show us.length<=sizeLine;rw[← r.length];exact hl)
 obtain⟨t',e1,_,_⟩:=M.there
 have I2:Inv X N8 σ (upd H1 a (lX C none a)) ⟨h',g,d,tk,os⟩:=I1.Gf (t':=tk) M.keeps M.new (uC e1)
 have hn:H1 a=none:=I1.uE M.new
 exact⟨.ref a,_,I2,rfl,q a hn⟩
def Jj(C:Addr)(sp:Sp)(t:TA):TE:=fun σ H Q=>t σ H λvs H1=>vs.length<=sizeLine/\∀ a,H1 a=none->sp (.ref a::vs) (upd H1 a (lX C none a)) (λv H2=>v=.b_/\Q (.ref a) H2) E0
theorem DQ(hc:rh X.K C "ValueError.__new__" f=true)(hf:PySem.W.isFn X.K (.ref f)=true)(kp:PySem.W.keepIn X.K (.ref C)=true)(F:aI X.prog X.w X.K X.mg X.base (bH X.prog X.w) k f fd ps sp)(hr:bX (k+1) X.A)(hb:Binds X.K fd ps [])(hg:Gl X x)(hm:X.mg x=some (.ref C))
  (ha:PA X (e::es) t) (Ph:(x==("__debug__" : Str))=false:=by decide) (he:starEach (e::es) X.env=(false,eval e X.env)::starEach es X.env:=by rfl) (OB:(backTo pos (starEach es X.env)).any (·.1)=false:=by rfl) :
  PE X (.Call (.Name x p) (e::es) [] pos) (Jj C sp t):=by
 intro N8 s σ H Q I h
 refine wpAny_Call_Name_kw (kd I hg hm ?_ Ph)
 refine PySem.W.callWith_K (h₀:=X.base) I.ok.mod.Fe kp (cB (ha pos N8 s σ H _ I h) λus s1 ⟨vs,H1,I1,r,hl,q⟩=>⟨I1.jZ,?_⟩) he OB
 have X1:=I1.jZ
 obtain⟨bm,N,nm,qn,bs,Qk,sn,sub,ab,col,dd,k0,k1,k2,k3,k5,mN,hC,hN,Qz,T⟩:=Bp X1 hc
 obtain⟨hp,g,d,tk,os⟩:=s1
 have f1:=tc_lookup
 have f2:=tc_bind (.ref C)
 have hT:(⟨hp,g,d,tk,os⟩:Shared).TypeIs (.ref C) "type" := ⟨_,hC,rfl⟩
 refine wpAny_call (codeAny_of_tree ?_)
 show wpAny _ _ (callAny (.ref C) _) _ _ _
 repeat (any_goals (first | assumption | with_reducible refine wpAny_loadPart_at hC ?_ | wp_step))
 refine⟨rfl,?_⟩
 refine codeAny_call_builtin_at (Code.quiet_builtin _ (by decide +kernel)) entry_typeCall (wpAny_check_type_call_sub hC (qE PySem.F.excBase_ValueError T hC hN Qz
  (λh' kk self=>PySem.W.bind_fn (λb o z=>kk b o (X1 b o z)) self (beq_iff_eq.mp hf)) (λh' kk ht hx hz=>?_) (by show us.length<=sizeLine;rw[← r.length];exact hl)))
 have I2:Inv X N8 σ (upd H1 (hp.objs.size+1) (lX C none (hp.objs.size+1))) ⟨h',g,d,tk,os⟩:=I1.Gf (t':=tk) kk (Heap.get?_none_of_le (Nat.le_succ _)) (uC hx)
 have hq:=q (hp.objs.size+1) (I1.uE (Heap.get?_none_of_le (Nat.le_succ _)))
 have r2:Vals (V.ref (hp.objs.size+1)::vs) (Value.ref (hp.objs.size+1)::us):=.cons rfl r
 have hlen:(Value.ref (hp.objs.size+1)::us++[]).length=ps.length:=by
  rw[List.append_nil,← r2.length]
  exact F.len _ _ _ _ hq
 refine wpAny_call (codeAny_mono (F.run _ X.stack _ _ ⟨Value.ref (hp.objs.size+1)::us,[]⟩ (Value.ref (hp.objs.size+1)::us) _ _ E0 (hr.make C us []) (I2.mL.make C us []) (by have:=hb _ (Value.ref (hp.objs.size+1)::us) I2.jZ hlen;rwa [List.append_nil] at this) r2 hq) λr s' QB=>?_)
 cases r with
 | error e =>
  obtain⟨_,_,_,_,_,_,_,_,_,_,_,_,_,z⟩:=QB
  exact z.elim
 | ok fl =>
  cases fl with
  | ret u =>
   obtain⟨v,H',I3,rv,ev,q3⟩:=I2.after QB
   subst ev
   exact⟨rv,⟨V.ref (hp.objs.size+1),H',I3,rfl,q3⟩⟩
  | next=>exact False.elim QB
  | brk=>exact False.elim QB
  | cont=>exact False.elim QB
def Hf(K:PySem.W.Frag)(ta tv:TE)(f:Str):TS:=λD σ H=>tv σ H λy H1=>ta σ H1 λx H2=>∃ a C,x=.ref a/\H2 a=some (lX C none a)/\h_ K C/\((PySem.W.clsIn K C).any λcd=>gT cd.mro)=true/\bF K C f ∧
 ∀ d,H2 d=none->d≠a->D.nx σ (upd (upd H2 d (.xd [(f,y)])) a (lX C (some d) a))
theorem BP{o value:Expr}{ta tv:TE}{n:Str}{pos':Pos}(ha:PE X o ta)(hv:PE X value tv)(hs:swapsWith value (some (.Attribute o n pos')) pos.line X.env=pure false):PS X (.Assign [.Attribute o n pos'] value pos) (Hf X.K ta tv n):=by
 intro N8 s σ H D I h
 refine plainObj_wpAny_Assign_Attribute (cB (hv N8 s σ H _ I h) λu s1 ⟨y,H1,I1,ry,q⟩=>cB (ha N8 s1 σ H1 _ I1 q) λov s2 ⟨x,H2,I2,rx,a,C,ex,ea,c,po,na,q2⟩=>?_) hs
 subst ex
 obtain rfl:ov=Value.ref a:=rx
 obtain⟨tt,hx⟩:=(I2.bC a _ ea).1
 refine Dg po c I2.jZ hx na.GK λh' tk d e1 e2 e3 e4=>?_
 have hd:H2 d=none:=I2.uE e2
 have nda:d≠a:=λz=>by rw[z,ea] at hd;cases hd
 refine⟨σ,_,?_,q2 d hd nda⟩
 have up:∀ b,b≠a->b≠d->upd (upd H2 d (.xd [(n,y)])) a (lX C (some d) a) b=H2 b:=λb h1 h2=>by rw[ax h1,ax h2]
 have nd:∀ b u,s2.heap.get? b=some u->b≠d:=λb u e z=>by rw[z,e2] at e;cases e
 have nH:∀ b u,H2 b=some u->b≠d:=λb u e z=>by rw[z,hd] at e;cases e
 have nE:∀ b u,H2 b=some u->(∀ C dd,u≠lX C dd a)->b≠a:=λb u e hu z=>by
  rw[z,ea] at e
  exact hu C none (Option.some.inj e).symm
 refine I2.un (t':=tk) ⟨λb u e z _ _=>e4 b u (λw=>by rw[w,ea] at z;cases z) e,λb u e z _ _=>⟨u.slots,e4 b u (λw=>by rw[w,ea] at z;cases z) e⟩,λb u e z _=>?_,λb u e _=>?_,λb xs e=>?_,λb ob u e=>?_,λb ps e=>?_⟩ λb u e=>?_
 ·rw[up b (λw=>by rw[w,ea] at z;cases z) (nd b u e)];exact z
 ·by_cases w:b=a
  ·rw[w];exact⟨_,e1⟩
  ·exact⟨u,e4 b u w e⟩
 ·rw[up b (nE b _ e λ_ _ z=>by cases z) (nH b _ e)];exact e
 ·rw[up b (nE b _ e λ_ _ z=>by cases z) (nH b _ e)];exact e
 ·exact⟨#[],by rw[up b (nE b _ e λ_ _ z=>by cases z) (nH b _ e),e];simp⟩
 ·by_cases w:b=a
  ·subst w
   rw[aE] at e
   cases e
   exact uC e1
  ·rw[ax w] at e
   by_cases w2:b=d
   ·subst w2
    rw[aE] at e
    cases e
    refine⟨_,e3,λg=>?_⟩
    show oF (List.lookup g [(n,y)]) (if g=n then some _ else none)
    rw[List.lookup_cons]
    by_cases z:g=n
    ·rw[if_pos z,show (g==n)=true from by simp[z]];exact ry
    ·rw[if_neg z,show (g==n)=false from by simp[z]];exact True.intro
   ·rw[ax w2] at e
    refine(I2.bC b u e).mR (λc v hc z=>e4 c v ?_ z) (λc z=>?_) λc ys z=>?_
    ·rcases hc with z' | z'
     ·rw[z'];exact w
     ·exact nE c _ z' λ_ _ z=>by cases z
    ·rw[up c (nE c _ z λ_ _ z=>by cases z) (nH c _ z)];exact z
    ·rw[up c (nE c _ z λ_ _ z=>by cases z) (nH c _ z)];exact z
end
end L2
namespace L2
open PySem PySem.Spec PyProof.Rows
section
variable{M:Model}{A:Around}{E:Value->Shared->Prop}{s:Shared}
theorem Bs{e:Addr}{o:Obj}{Q:Value->Shared->Prop}(hx:s.heap.get? e=some o)(h:Q o.cls s):wpAny M A (typeOf (.ref e)) Q E s:=by
 unfold typeOf
 exact wpAny_bind (wpAny_loadPart hx (wpAny_pure h))
theorem zc{e:Addr}{o:Obj}{vs:Array Value}{Q:Bool->Shared->Prop}(hx:s.heap.get? e=some o)(hd:o.data=.fields vs)(h:Q false s):wpAny M A (isType (.ref e)) Q E s:=by
 unfold isType loadHead
 refine wpAny_bind (wpAny_loadPart hx (wpAny_pure ?_))
 rw[hd];exact h
end
section
variable{X:Cx}{N8:List (Addr×Obj)}{σ:St}{H:Hp}{s:Shared}
def Jg(K:PySem.W.Frag)(E:St->XK)(te:TE):TS:=λD σ H=>te σ H λv H1=>∃ e C dd,v=.ref e/\H1 e=some (lX C dd e)/\h_ K C/\PySem.W.typeIn K (.ref C)=some (.type "type")/\E σ (.ref e) none (upd H1 e (iR C dd e))
theorem w_{exc:Expr}{te:TE}{pos:Pos}{E:St->XK}(O:e9 X E)(Oq:X.calm=true)(he:PE X exc te):PS X (.Raise (some exc) none pos) (Jg X.K E te):=by
 intro N8 s σ H D I h
 rw[arm_exec_Raise]
 refine wpAny_bind (wpAny_standAt ?_)
 unfold raiseStmt
 dsimp only [evalOpt,Option.map]
 refine wpAny_bind (wpAny_bind (cB (he N8 s σ H _ I h) λu s1 hq=>wpAny_bind (wpAny_standAt (wpAny_pure ?_))))
 obtain⟨v,H1,I1,rv,e,C,dd,ev,hN,c,ht,hE⟩:=hq
 subst ev
 obtain rfl:u=Value.ref e:=rv
 obtain⟨t,hx⟩:=(I1.bC e _ hN).1
 have X1:=I1.jZ
 refine wpAny_bind (wpAny_pure ?_)
 refine wpAny_bind (wpAny_holding ?_)
 unfold excFromValue isExcClass
 refine wpAny_bind (wpAny_bind (zc hx rfl ?_))
 refine wpAny_pure ?_
 refine wpAny_bind ?_
 unfold isInstance
 refine wpAny_bind (Bs hx ((PySem.W.looks_mroIn X1 c.mb).here ?_))
 refine wpAny_pure ?_
 dsimp only
 refine wpAny_bind (zc hx rfl ?_)
 unfold raisedInstance
 refine wpAny_bind (wpAny_bind (Bs hx (wpAny_bind ((PySem.W.looks_typeIn X1 ht).here ?_))))
 refine wpAny_pure ?_
 unfold setFlight
 refine wpAny_bind (wpAny_bind (wpAny_field hx rfl (x:=.none) rfl ?_))
 refine wpAny_pure ?_
 exact wpAny_raiseNew_none (I1.ok.hd Oq) (O.new N8 σ H1 s1 e C dd I1 hN hE)
end
end L2
namespace L2
open PySem PySem.Spec PyProof.Rows
inductive PV where
 | b_ | bl (b:Bool) | int (i:Int) | str (x:Str)
 | tup (xs:List PV) | lst (xs:List PV)
 | kH (xs:List PV)
 | obj (C:Addr) (fs:List (Str×PV))
 | exc (C:Addr) (fo:Option (List (Str×PV)))
 | emp
 deriving Inhabited
mutual
inductive Rep (H:Hp):PV->V->Prop where
 | b_:Rep H .b_ .b_
 | bl (b:Bool):Rep H (.bl b) (.bl b)
 | int (i:Int):Rep H (.int i) (.int i)
 | str (x:Str):Rep H (.str x) (.str x)
 | tup {a:Addr} {xs:List PV} {vs:List V}:H a=some (.tup vs)->aM H xs vs->Rep H (.tup xs) (.ref a)
 | lst {a:Addr} {xs:List PV} {vs:List V}:H a=some (.lst vs)->aM H xs vs->Rep H (.lst xs) (.ref a)
 | kH {a:Addr} {o:Obj} {xs:List PV} {vs:List V}:H a=some (.sE o (.lst vs))->aM H xs vs->Rep H (.kH xs) (.ref a)
 | obj {a C dx:Addr} {fs:List (Str×PV)} {vs:List (Str×V)}:H a=some (.ins C dx vs)->jC H fs vs->Rep H (.obj C fs) (.ref a)
 | xU {a C:Addr}:H a=some (iR C none a)->Rep H (.exc C none) (.ref a)
 | yj {a C d:Addr} {fs:List (Str×PV)} {vs:List (Str×V)}:H a=some (iR C (some d) a)->H d=some (.xd vs)->jC H fs vs->Rep H (.exc C (some fs)) (.ref a)
 | emp {a:Addr}:H a=some (.dK [])->Rep H .emp (.ref a)
inductive aM (H:Hp):List PV->List V->Prop where
 | nil:aM H [] []
 | cons {p:PV} {v:V} {ps:List PV} {vs:List V}:Rep H p v->aM H ps vs->aM H (p::ps) (v::vs)
inductive jC (H:Hp):List (Str×PV)->List (Str×V)->Prop where
 | nil:jC H [] []
 | cons {n:Str} {p:PV} {v:V} {ps:List (Str×PV)} {vs:List (Str×V)}:Rep H p v->jC H ps vs->jC H ((n,p)::ps) ((n,v)::vs)
end
mutual
theorem Rep.mono{H H':Hp}(s:bj H H'):∀ {p:PV} {v:V},Rep H p v->Rep H' p v
 | _,_,.b_=>.b_
 | _,_,.bl b=>.bl b
 | _,_,.int i=>.int i
 | _,_,.str x=>.str x
 | _,_,.tup h r=>.tup (s _ _ h) (r.mono s)
 | _,_,.lst h r=>.lst (s _ _ h) (r.mono s)
 | _,_,.kH h r=>.kH (s _ _ h) (r.mono s)
 | _,_,.obj h r=>.obj (s _ _ h) (r.mono s)
 | _,_,.xU h=>.xU (s _ _ h)
 | _,_,.yj h h2 r=>.yj (s _ _ h) (s _ _ h2) (r.mono s)
 | _,_,.emp h=>.emp (s _ _ h)
theorem aM.mono{H H':Hp}(s:bj H H'):∀ {p:List PV} {v:List V},aM H p v->aM H' p v
 | _,_,.nil=>.nil
 | _,_,.cons h r=>.cons (h.mono s) (r.mono s)
theorem jC.mono{H H':Hp}(s:bj H H'):∀ {p:List (Str×PV)} {v:List (Str×V)},jC H p v->jC H' p v
 | _,_,.nil=>.nil
 | _,_,.cons h r=>.cons (h.mono s) (r.mono s)
end
theorem aM.length{H:Hp}:∀ {p:List PV} {v:List V},aM H p v->p.length=v.length
 | _,_,.nil=>rfl
 | _,_,.cons _ r=>by simp[r.length]
theorem aM.get{H:Hp}:∀ {p:List PV} {v:List V} {i:Nat} {x:PV},aM H p v->p[i]?=some x->∃ u,v[i]?=some u/\Rep H x u
 | _,_,_,_,.nil,e=>by simp at e
 | _,_,0,_,.cons h _,e=>by simp at e;subst e;exact⟨_,rfl,h⟩
 | _,_,i+1,x,.cons _ r,e=>by
  obtain⟨u,h1,h2⟩:=aM.get (i:=i) (x:=x) r (by simpa using e)
  exact⟨u,by simpa using h1,h2⟩
theorem aM.append{H:Hp}:∀ {p q:List PV} {v u:List V},aM H p v->aM H q u->aM H (p++q) (v++u)
 | _,_,_,_,.nil,s=>s
 | _,_,_,_,.cons h r,s=>.cons h (r.append s)
theorem aM.take{H:Hp}:∀ {p:List PV} {v:List V} (n:Nat),aM H p v->aM H (p.take n) (v.take n)
 | _,_,0,_=>.nil
 | _,_,_+1,.nil=>.nil
 | _,_,n+1,.cons h r=>.cons h (r.take n)
theorem aM.drop{H:Hp}:∀ {p:List PV} {v:List V} (n:Nat),aM H p v->aM H (p.drop n) (v.drop n)
 | _,_,0,r=>r
 | _,_,_+1,.nil=>.nil
 | _,_,n+1,.cons _ r=>r.drop n
theorem aM.set{H:Hp}{x:PV}{u:V}(h:Rep H x u):∀ {p:List PV} {v:List V} (i:Nat),aM H p v->aM H (p.set i x) (v.set i u)
 | _,_,_,.nil=>.nil
 | _,_,0,.cons _ r=>.cons h r
 | _,_,i+1,.cons q r=>.cons q (r.set h i)
theorem aM.snoc{H:Hp}{p:List PV}{v:List V}{x:PV}{u:V}(r:aM H p v)(h:Rep H x u):aM H (p++[x]) (v++[u]):=r.append (.cons h .nil)
theorem jC.look{H:Hp}{f:Str}:∀ {p:List (Str×PV)} {v:List (Str×V)} {x:PV},jC H p v->p.lookup f=some x->∃ u,v.lookup f=some u/\Rep H x u
 | _,_,_,.nil,e=>by simp at e
 | (n,_)::_,_,x,.cons h r,e=>by
  rw[List.lookup_cons] at e ⊢
  cases q:f==n with
  | true=>rw[q] at e;cases e;exact⟨_,rfl,h⟩
  | false=>rw[q] at e;exact r.look e
theorem jC.none{H:Hp}{f:Str}:∀ {p:List (Str×PV)} {v:List (Str×V)},jC H p v->p.lookup f=none->v.lookup f=none
 | _,_,.nil,_=>rfl
 | (n,_)::_,_,.cons h r,e=>by
  rw[List.lookup_cons] at e ⊢
  cases q:f==n with
  | true=>rw[q] at e;cases e
  | false=>rw[q] at e;exact r.none e
theorem aM.ints{H:Hp}:∀ {ns:List Int} {v:List V},aM H (ns.map PV.int) v->v=ns.map V.int
 | [],_,.nil=>rfl
 | _::_,_,.cons (.int i) r=>by rw[r.ints];rfl
theorem aM.KR{H:Hp}:∀ {ns:List Bool} {v:List V},aM H (ns.map PV.bl) v->v=ns.map V.bl
 | [],_,.nil=>rfl
 | _::_,_,.cons (.bl i) r=>by rw[r.KR];rfl
structure bL (Hs H Oc H':Hp):Prop where
 st:bj Hs Oc
 al:bj H H'
 sub:bj Oc H'
 nw:∀ a o,Hs a=none->H a=some o->Oc a=none
theorem bL.refl{Hs H:Hp}(s:bj Hs H):bL Hs H Hs H:=⟨λ_ _ e=>e,λ_ _ e=>e,s,λ_ _ e _=>e⟩
theorem bL.trans{Hs H Oj H1 Ol H2:Hp}(a:bL Hs H Oj H1)(b:bL Oj H1 Ol H2):bL Hs H Ol H2 :=
 ⟨λc o e=>b.st c o (a.st c o e),λc o e=>b.al c o (a.al c o e),b.sub,λc o e q=>b.nw c o (a.nw c o e q) (a.al c o q)⟩
theorem bL.new{Hs H:Hp}{p:Addr}{o:HO}(s:bj Hs H)(n:H p=none):bL Hs H (upd Hs p o) (upd H p o):=by
 have ne:∀ c u,H c=some u->c≠p:=λc u e z=>by rw[z,n] at e;cases e
 refine⟨λc u e=>?_,λc u e=>?_,λc u e=>?_,λc u e q=>?_⟩
 ·rw[ax (ne c u (s c u e))];exact e
 ·rw[ax (ne c u e)];exact e
 ·by_cases z:c=p
  ·subst z;rw[aE] at e ⊢;exact e
  ·rw[ax z] at e ⊢;exact s c u e
 ·rw[ax (ne c u q)];exact e
inductive SV where
 | sh (p:PV)
 | ow (xs:List PV)
 | bd (a C:Addr) (fs:List (Str×PV))
abbrev af:=List (Option SV)
structure SR (B H₀ Hs H:Hp) (σ:St) (env:af):Prop where
 gr:bL B H₀ Hs H
 len:σ.length=env.length
 sh:∀ (i:Nat) (p:PV),env[i]?=some (some (.sh p))->∃ v,σ[i]?=some (some v)/\Rep Hs p v
 ow:∀ (i:Nat) (xs:List PV),env[i]?=some (some (.ow xs))->∃ a vs,σ[i]?=some (some (.ref a))/\H a=some (.lst vs)/\Hs a=none/\H₀ a=none/\aM Hs xs vs
 sep:∀ (i j:Nat) (xs ys:List PV) (a:Addr),i≠j->env[i]?=some (some (.ow xs))->env[j]?=some (some (.ow ys))->σ[i]?=some (some (.ref a))->σ[j]?≠some (some (.ref a))
 bd:∀ (i:Nat) (a C:Addr) (fs:List (Str×PV)),env[i]?=some (some (.bd a C fs))->∃ dx vs,σ[i]?=some (some (.ref a))/\H a=some (.ins C dx vs)/\Hs a=none/\H₀ a=none/\jC Hs fs vs
 one:∀ (i j:Nat) (a b C D:Addr) (fs gs:List (Str×PV)),env[i]?=some (some (.bd a C fs))->env[j]?=some (some (.bd b D gs))->i=j
theorem SR.grow{B H₀ Hs H Oc H':Hp}{σ:St}{env:af}(r:SR B H₀ Hs H σ env)(g:bL Hs H Oc H'):SR B H₀ Oc H' σ env where
 gr:=r.gr.trans g
 len:=r.len
 sh:=λi p e=>let ⟨v,h1,h2⟩:=r.sh i p e;⟨v,h1,h2.mono g.st⟩
 ow:=λi xs e=>let ⟨a,vs,h1,h2,h3,h4,h5⟩:=r.ow i xs e;⟨a,vs,h1,g.al _ _ h2,g.nw _ _ h3 h2,h4,h5.mono g.st⟩
 sep:=r.sep
 bd:=λi a C fs e=>let ⟨dx,vs,h1,h2,h3,h4,h5⟩:=r.bd i a C fs e;⟨dx,vs,h1,g.al _ _ h2,g.nw _ _ h3 h2,h4,h5.mono g.st⟩
 one:=r.one
abbrev EX:=Addr×Option (List (Str×PV))
abbrev M(α:Type):=Option (Except EX α)
def M.ok{α:Type}(a:α):M α:=some (.ok a)
def M.bind{α β:Type}(x:M α)(f:α->M β):M β:=match x with
 | some (.ok a)=>f a
 | some (.error e)=>some (.error e)
 | none=>none
instance:Monad M where
 pure:=M.ok
 bind:=M.bind
def aA{α:Type}(r:M α)(Q:α->Prop)(E:EX->Prop):Prop:=match r with
 | some (.ok a)=>Q a
 | some (.error e)=>E e
 | none=>False
theorem aA.imp{α:Type}{r:M α}{Q Q':α->Prop}{E E':EX->Prop}(h:aA r Q E)(hq:∀ a,Q a->Q' a)(he:∀ e,E e->E' e):aA r Q' E':=by
 cases r with
 | none=>exact h
 | some x=>cases x with
  | ok a=>exact hq a h
  | error e=>exact he e h
theorem aA.bind{α β:Type}{x:M α}{f:α->M β}{Q:β->Prop}{E:EX->Prop}(h:aA (x.bind f) Q E):aA x (λa=>aA (f a) Q E) E:=by
 cases x with
 | none=>exact h
 | some x=>cases x with
  | ok a=>exact h
  | error e=>exact h
def XW(E:XK)(Hs H:Hp)(x:EX):Prop:=∀ ea Oc H',bL Hs H Oc H'->Rep Oc (.exc x.1 x.2) (.ref ea)->E (.ref ea) none H'
theorem XW.grow{E:XK}{Hs H Oc H':Hp}{x:EX}(h:XW E Hs H x)(g:bL Hs H Oc H'):XW E Oc H' x:=λea Ol H2 g2 r=>h ea Ol H2 (g.trans g2) r
def tE(E:St->XK)(f:af->M PV):TE:=fun σ H Q=>∃ B H₀ Hs env,SR B H₀ Hs H σ env/\aA (f env) (λp=>∀ v Oc H',bL Hs H Oc H'->Rep Oc p v->Q v H') (XW (E σ) Hs H)
theorem PE.imp{X:Cx}{e:Expr}{t t':TE}(h:PE X e t)(i:∀ σ H Q,t' σ H Q->t σ H Q):PE X e t':=λN8 s σ H Q I q=>h N8 s σ H Q I (i σ H Q q)
theorem u5{E:St->XK}{f:af->M PV}{g:af->PV->M PV}{σ:St}{H:Hp}{Q R:VK}(h:tE E (λenv=>(f env).bind (g env)) σ H Q)
  (k:∀ B H₀ Hs H1 env p v,SR B H₀ Hs H1 σ env->Rep Hs p v->aA (g env p) (λq=>∀ u Oc H',bL Hs H1 Oc H'->Rep Oc q u->Q u H') (XW (E σ) Hs H1)->R v H1):tE E f σ H R:=by
 obtain⟨B,H₀,Hs,env,sr,h⟩:=h
 refine⟨B,H₀,Hs,env,sr,(aA.bind h).imp (λp hp v Oc H' g r=>?_) λe he=>he⟩
 exact k B H₀ Oc H' env p v (sr.grow g) r (hp.imp (λq hq u Ol H2 g2 r2=>hq u Ol H2 (g.trans g2) r2) λe he=>he.grow g)
theorem zI{E:St->XK}{f g:af->M PV}{op:PV->PV->M PV}{r:R2}{σ:St}{H:Hp}{Q:VK}(h:tE E (λenv=>(f env).bind λp=>(g env).bind λq=>op p q) σ H Q)
  (k:∀ Hs H1 p q v u,bj Hs H1->Rep Hs p v->Rep Hs q u->aA (op p q) (λz=>∀ w Oc H',bL Hs H1 Oc H'->Rep Oc z w->Q w H') (XW (E σ) Hs H1)->r v u H1 Q):K6 r (tE E f) (tE E g) σ H Q:=by
 refine u5 h λB H₀ Hs H1 env p v sr rp hp=>?_
 refine⟨B,H₀,Hs,env,sr,(aA.bind hp).imp (λq hq u Oc H' g ru=>?_) λe he=>he⟩
 exact k Oc H' p q v u (sr.grow g).gr.sub (rp.mono g.st) ru (hq.imp (λz hz w Ol H2 g2 r2=>hz w Ol H2 (g.trans g2) r2) λe he=>he.grow g)
theorem Lo{E:St->XK}{f:af->M PV}{op:PV->M PV}{r:V->Hp->VK->Prop}{σ:St}{H:Hp}{Q:VK}(h:tE E (λenv=>(f env).bind op) σ H Q)
  (k:∀ Hs H1 p v,bj Hs H1->Rep Hs p v->aA (op p) (λz=>∀ w Oc H',bL Hs H1 Oc H'->Rep Oc z w->Q w H') (XW (E σ) Hs H1)->r v H1 Q):NA r (tE E f) σ H Q :=
 u5 h λB H₀ Hs H1 env p v sr rp hp=>k Hs H1 p v sr.gr.sub rp hp
end L2
namespace L2
open PySem PySem.Spec PyProof.Rows
def ID(sp:Sp)(OX:List V)(E:St->XK)(t:TA):TE:=fun σ H Q=>t σ H λvs H1=>sp (vs++OX) H1 Q (E σ)
def CY(C:Addr)(m:Str)(sp:Sp)(OX:List V)(E:St->XK)(ta:TE)(t:TA):TE:=fun σ H Q=>ta σ H λx H1=>∃ a dx fs,x=.ref a/\H1 a=some (.ins C dx fs)/\fs.lookup m=none ∧
 t σ H1 λvs H2=>sp (x::(vs++OX)) H2 Q (E σ)
def JE(C:Addr)(sp:Sp)(OX:List V)(E:St->XK)(t:TA):TE:=fun σ H Q=>t σ H λvs H1=>∀ x dx,H1 x=none->H1 dx=none->dx≠x ->
 sp (.ref x::(vs++OX)) (upd (upd H1 dx (.own x)) x (.ins C dx [])) (λv H2=>v=.b_/\Q (.ref x) H2) (E σ)
section
variable{X:Cx}{k:Nat}{f C:Addr}{fd:FuncData}{ps:List Str}{sp:Sp}{OX:List V}{ds:List Value}{E:St->XK}{x m:Str}{p pos apos:Pos}{e o:Expr}{es:List Expr}{ta:TE}{t:TA}
theorem nq{N8:List (Addr×Obj)}{σ:St}{H:Hp}{s:Shared}{Q:VK}{us:List Value}{vs:List V}(F:aI X.prog X.w X.K X.mg X.base (bH X.prog X.w) k f fd ps sp)(hr:bX k X.A)(hb:Binds X.K fd ps ds)(hd:Vals OX ds)(hx:e9 X E)
  (I:Inv X N8 σ H s) (r:Vals vs us) (h:sp (vs++OX) H Q (E σ)):wpAny (model X.prog X.w) X.A (call (.ref f) us) (EP X N8 σ Q) X.xe s:=by
 have r2:Vals (vs++OX) (us++ds):=r.append hd
 have hl:(us++ds).length=ps.length:=by rw[← r2.length];exact F.len _ _ _ _ h
 refine wpAny_call (codeAny_mono (F.run X.A X.stack s H ⟨us,[]⟩ (us++ds) (vs++OX) Q (E σ) hr I.mL (hb s us I.jZ hl) r2 h) λr s' hq=>?_)
 cases r with
 | error e=>exact hx.pass N8 σ H s e s' I hq
 | ok fl =>
  cases fl with
  | ret u=>exact I.after hq
  | next=>exact False.elim hq
  | brk=>exact False.elim hq
  | cont=>exact False.elim hq
theorem Dm(F:aI X.prog X.w X.K X.mg X.base (bH X.prog X.w) k f fd ps sp)(hr:bX k X.A)(hg:Gl X x)(hm:X.mg x=some (.ref f))(hk:PySem.W.keepIn X.K (.ref f)=true)(hb:Binds X.K fd ps ds)(hd:Vals OX ds)(hx:e9 X E)
  (ha:PA X (e::es) t) (Ph:(x==("__debug__" : Str))=false:=by decide) (he:starEach (e::es) X.env=(false,eval e X.env)::starEach es X.env:=by rfl) (OB:(backTo pos (starEach es X.env)).any (·.1)=false:=by rfl) :
  PE X (.Call (.Name x p) (e::es) [] pos) (ID sp OX E t):=by
 intro N8 s σ H Q I h
 refine wpAny_Call_Name_kw (kd I hg hm ?_ Ph)
 refine PySem.W.callWith_K (h₀:=X.base) I.ok.mod.Fe hk (cB (ha pos N8 s σ H _ I h) λus s1 ⟨vs,H1,I1,r,q⟩=>⟨I1.jZ,?_⟩) he OB
 exact nq F hr hb hd hx I1 r q
theorem BR{pl:Sem Bool}(he:PE X o ta)(c:lq X.K C)(hm:Meth X.K C m f)(F:aI X.prog X.w X.K X.mg X.base (bH X.prog X.w) k f fd ps sp)(hr:bX k X.A)(hb:Binds X.K fd ps ds)(hd:Vals OX ds)(hx:e9 X E)(ha:PA X (e::es) t)
  (Oz:starEach (e::es) X.env=(false,eval e X.env)::starEach es X.env:=by rfl) (OB:(backTo pos (starEach es X.env)).any (·.1)=false:=by rfl)
  (ht:eval (.Call (.Attribute o m apos) (e::es) [] pos) X.env=(do
   let ov ← eval o X.env
   standAt apos.atName
   let (f,first) ← holding [ov] (getMethod ov m pl)
   callWith pos f first (backTo pos (starEach (e::es) X.env)) (backToKw pos (keywordEach [] X.env))):=by rfl) :
  PE X (.Call (.Attribute o m apos) (e::es) [] pos) (CY C m sp OX E ta t):=by
 intro N8 s σ H Q I h
 refine PySem.W.methodCall_KW (pl:=pl) (cB (he N8 s σ H _ I h) λu s1 ⟨x,H1,I1,rx,a,dx,fs,ex,ea,l,q⟩=>?_) ht
 subst ex
 obtain rfl:u=Value.ref a:=rx
 refine j9 I1 ea c hm l ?_
 refine PySem.W.callWith_K (first:=[.ref a]) (h₀:=X.base) I.ok.mod.Fe hm.kp (cB (ha pos N8 s1 σ H1 _ I1 q) λus s2 ⟨vs,H2,I2,r,q2⟩=>⟨I2.jZ,?_⟩) Oz OB
 exact nq (us:=.ref a::us) (vs:=.ref a::vs) F hr hb hd hx I2 (.cons rfl r) q2
theorem Bi{pl:Sem Bool}(he:PE X o ta)(c:lq X.K C)(hm:Meth X.K C m f)(F:aI X.prog X.w X.K X.mg X.base (bH X.prog X.w) k f fd ps sp)(hr:bX k X.A)(hb:Binds X.K fd ps ds)(hd:Vals OX ds)(hx:e9 X E)
  (ht:eval (.Call (.Attribute o m apos) [] [] pos) X.env=(do
   let ov ← eval o X.env
   standAt apos.atName
   let (f,first) ← holding [ov] (getMethod ov m pl)
   callWith pos f first (backTo pos (starEach [] X.env)) (backToKw pos (keywordEach [] X.env))):=by rfl) :
  PE X (.Call (.Attribute o m apos) [] [] pos) (CY C m sp OX E ta KP):=by
 intro N8 s σ H Q I h
 refine PySem.W.methodCall_KW (pl:=pl) (cB (he N8 s σ H _ I h) λu s1 ⟨x,H1,I1,rx,a,dx,fs,ex,ea,l,q⟩=>?_) ht
 subst ex
 obtain rfl:u=Value.ref a:=rx
 refine j9 I1 ea c hm l ?_
 exact PySem.W.callWith_K0 (first:=[.ref a]) I1.jZ hm.kp (nq (us:=[.ref a]) (vs:=[.ref a]) F hr hb hd hx I1 (.cons rfl .nil) q)
theorem zT{N8:List (Addr×Obj)}{σ:St}{H:Hp}{s:Shared}{Q:VK}{us:List Value}{vs:List V}(M:Mk X.K C f)(F:aI X.prog X.w X.K X.mg X.base (bH X.prog X.w) k f fd ps sp)(hr:bX (k+1) X.A)(hb:Binds X.K fd ps ds)(hd:Vals OX ds)
  (hx:e9 X E) (I:Inv X N8 σ H s) (r:Vals vs us)
  (h:∀ x dx,H x=none->H dx=none->dx≠x->sp (.ref x::(vs++OX)) (upd (upd H dx (.own x)) x (.ins C dx [])) (λv H2=>v=.b_/\Q (.ref x) H2) (E σ)) :
  wpAny (model X.prog X.w) X.A (call (.ref C) us) (EP X N8 σ Q) X.xe s:=by
 have hq:=h (s.heap.objs.size+1) s.heap.objs.size (I.bC.fresh (Nat.le_succ _)) (I.bC.fresh (Nat.le_refl _)) (Nat.ne_of_lt (Nat.lt_succ_self _))
 have I2:=Inv.made (C:=C) I
 have r2:Vals (V.ref (s.heap.objs.size+1)::(vs++OX)) (Value.ref (s.heap.objs.size+1)::(us++ds)):=.cons rfl (r.append hd)
 have hl:(Value.ref (s.heap.objs.size+1)::us++ds).length=ps.length:=by
  have e:=r2.length
  rw[F.len _ _ _ _ hq] at e
  exact e.symm
 refine wpAny_call (DC (f:=f) I.jZ M.makes M.init (beq_iff_eq.mp M.fn) (codeAny_mono (F.run _ X.stack _ _ ⟨Value.ref (s.heap.objs.size+1)::us,[]⟩ (Value.ref (s.heap.objs.size+1)::(us++ds)) _ _ (E σ) (hr.make C us [])
  (I2.mL.make C us []) (hb _ (Value.ref (s.heap.objs.size+1)::us) I2.jZ hl) r2 hq) λr s' QB=>?_))
 cases r with
 | error e=>exact hx.pass N8 σ _ _ e s' I2 QB
 | ok fl =>
  cases fl with
  | ret u =>
   obtain⟨v,H',I3,rv,ev,q3⟩:=I2.after QB
   subst ev
   exact⟨rv,⟨V.ref (s.heap.objs.size+1),H',I3,rfl,q3⟩⟩
  | next=>exact False.elim QB
  | brk=>exact False.elim QB
  | cont=>exact False.elim QB
theorem BF(M:Mk X.K C f)(F:aI X.prog X.w X.K X.mg X.base (bH X.prog X.w) k f fd ps sp)(hr:bX (k+1) X.A)(hg:Gl X x)(hm:X.mg x=some (.ref C))(hb:Binds X.K fd ps ds)(hd:Vals OX ds)(hx:e9 X E)
  (ha:PA X (e::es) t) (Ph:(x==("__debug__" : Str))=false:=by decide) (he:starEach (e::es) X.env=(false,eval e X.env)::starEach es X.env:=by rfl) (OB:(backTo pos (starEach es X.env)).any (·.1)=false:=by rfl) :
  PE X (.Call (.Name x p) (e::es) [] pos) (JE C sp OX E t):=by
 intro N8 s σ H Q I h
 refine wpAny_Call_Name_kw (kd I hg hm ?_ Ph)
 refine PySem.W.callWith_K (h₀:=X.base) I.ok.mod.Fe M.kp (cB (ha pos N8 s σ H _ I h) λus s1 ⟨vs,H1,I1,r,q⟩=>⟨I1.jZ,?_⟩) he OB
 exact zT M F hr hb hd hx I1 r q
end
end L2
namespace L2
open PySem PySem.Spec PyProof.Rows
abbrev dY(Hs H:Hp)(Q:VK):PV->Prop:=λz=>∀ w Oc H',bL Hs H Oc H'->Rep Oc z w->Q w H'
theorem dY.flat{Hs H:Hp}{Q:VK}{p:PV}{v:V}(h:dY Hs H Q p)(s:bj Hs H)(r:Rep Hs p v):Q v H:=h v Hs H (.refl s) r
theorem dY.tup{Hs H:Hp}{Q:VK}{xs:List PV}{vs:List V}(h:dY Hs H Q (.tup xs))(s:bj Hs H)(r:aM Hs xs vs):∀ p,H p=none->Q (.ref p) (upd H p (.tup vs)) :=
 λp n=>h _ (upd Hs p (.tup vs)) _ (bL.new s n) (.tup aE (r.mono (bL.new s n).st))
theorem dY.lst{Hs H:Hp}{Q:VK}{xs:List PV}{vs:List V}(h:dY Hs H Q (.lst xs))(s:bj Hs H)(r:aM Hs xs vs):∀ p,H p=none->Q (.ref p) (upd H p (.lst vs)) :=
 λp n=>h _ (upd Hs p (.lst vs)) _ (bL.new s n) (.lst aE (r.mono (bL.new s n).st))
namespace HT
theorem DH{prog:Program}{w:World}{A:Around}{E:Value->Shared->Prop}{s:Shared}{t b:Addr}{ws:List Value}{Q:Value->Shared->Prop}(ht:IsTup s.heap t #[])(hb:IsTup s.heap b ws.toArray)
  (h1:Q (.ref b) s):wpAny (model prog w) A (binaryOp .Add (.ref t) (.ref b)) Q E s:=by
 obtain⟨⟨cls,dd,data,sl⟩,ho,hc,n,hd⟩:=id ht
 obtain⟨⟨cls2,RB,data2,sl2⟩,QA,Q2,n2,hd2⟩:=id hb
 simp only at hc hd Q2 hd2
 subst hc hd Q2 hd2
 exact concat_meets ⟨_,ho,rfl⟩ ⟨_,QA,rfl⟩ noFill_tuple_add seq_tuple_add PySem.F.slot_tuple_add PySem.F.entry_tuple_add (PySem.F.args_tuple_add_2 _ _)
   (tuple_addW0 t b #[] ws.toArray n n2 dd RB sl sl2 rfl) ⟨ho,QA,h1⟩
end HT
def BK(K:PySem.W.Frag):R2:=λx y H Q=>∃ a b ys,x=.ref a/\y=.ref b/\iF K H a []/\iF K H b ys/\Q (.ref b) H
theorem B7{X:Cx}:gK X (binaryOp .Add) (BK X.K):=by
 intro N8 s σ H x y v u Q I rx ry h
 obtain⟨a,b,ys,rfl,rfl,ha,hb,q1⟩:=h
 cases rx
 cases ry
 obtain⟨Ob,r1,p1,_⟩:=I.tuple ha
 obtain⟨P_,r2,p2,_⟩:=I.tuple hb
 have e:Ob=[]:=r1.m9.mpr rfl
 subst e
 exact HT.DH p1 p2 ⟨.ref b,H,I,rfl,q1⟩
def cD{α:Type}(c:Prop)[Decidable c](x:M α):M α:=if c then x else none
theorem aA.cD{α:Type}{c:Prop}[Decidable c]{x:M α}{Q:α->Prop}{E:EX->Prop}(h:aA (L2.cD c x) Q E):c/\aA x Q E:=by
 unfold L2.cD at h
 by_cases hc:c
 ·rw[if_pos hc] at h;exact⟨hc,h⟩
 ·rw[if_neg hc] at h;exact h.elim
def dZ(o:Option PV):M PV:=match o with
 | some x=>M.ok x
 | none=>none
theorem aA.opt{o:Option PV}{Q:PV->Prop}{E:EX->Prop}(h:aA (dZ o) Q E):∃ x,o=some x/\Q x:=by
 cases o with
 | none=>exact h.elim
 | some x=>exact⟨x,rfl,h⟩
section
variable{X:Cx}{E:St->XK}{a b c e:Expr}{pos:Pos}{f g h:af->M PV}
def ae(i:Nat)(env:af):M PV:=match env[i]? with
 | some (some (.sh p))=>M.ok p
 | _=>none
theorem JI{i:Nat}{x:Str}(hN:X.N[i]?=some x)(hv:Eb X.env.scope x)(hd:(x==("__debug__" : Str))=false:=by decide)(Py:(x==("__classdict__" : Str))=false:=by decide):PE X (.Name x pos) (tE E (ae i)):=by
 refine(oj hN hv hd Py).imp fun σ H Q q=>?_
 obtain⟨B,H₀,Hs,env,sr,q⟩:=q
 unfold ae at q
 split at q
 ·rename_i p e
  obtain⟨v,h1,h2⟩:=sr.sh i p e
  exact⟨v,h1,dY.flat q sr.gr.sub h2⟩
 ·exact q.elim
theorem nJ{p:PV}{v:V}(he:PE X e (tC v))(r:∀ H,Rep H p v):PE X e (tE E λ_=>M.ok p):=by
 refine he.imp fun σ H Q q=>?_
 obtain⟨B,H₀,Hs,env,sr,q⟩:=q
 exact dY.flat q sr.gr.sub (r Hs)
theorem Cq{i:Int}{j:Nat}:PE X (.Constant (.int i) j pos) (tE E λ_=>M.ok (.int i)):=nJ Hb λ_=>.int i
theorem KD{i:Bool}{j:Nat}:PE X (.Constant (.bool i) j pos) (tE E λ_=>M.ok (.bl i)):=nJ Kg λ_=>.bl i
theorem IC{j:Nat}:PE X (.Constant .none j pos) (tE E λ_=>M.ok .b_):=nJ IS λ_=>.b_
theorem Il{i:Str}{j:Nat}:PE X (.Constant (.str i) j pos) (tE E λ_=>M.ok (.str i)):=nJ HY λ_=>.str i
def aj(op:PV->PV->M PV)(f g:af->M PV):af->M PV:=λenv=>(f env).bind λp=>(g env).bind λq=>op p q
def mM(E:St->XK)(r:R2)(op:PV->PV->M PV):Prop:=∀ (σ:St) (Hs H:Hp) (p q:PV) (v u:V) (Q:VK),bj Hs H->Rep Hs p v->Rep Hs q u->aA (op p q) (dY Hs H Q) (XW (E σ) Hs H)->r v u H Q
theorem oK{op:Operator}{r:R2}{o:PV->PV->M PV}(ho:gK X (binaryOp op) r)(hv:mM E r o)(ha:PE X a (tE E f))(hb:PE X b (tE E g)):PE X (.BinOp a op b pos) (tE E (aj o f g)) :=
 (GB ho ha hb).imp fun σ H Q q=>zI q λHs H1 p q v u s rp rq h=>hv σ Hs H1 p q v u Q s rp rq h
theorem gE{op:CmpOp}{r:R2}{o:PV->PV->M PV}(ho:gK X (compareOp op) r)(hv:mM E r o)(ha:PE X a (tE E f))(hb:PE X b (tE E g))(hm:behindInMarks op b=false):PE X (.Compare a [op] [b] pos) (tE E (aj o f g)) :=
 (EA ho ha hb hm).imp fun σ H Q q=>zI q λHs H1 p q v u s rp rq h=>hv σ Hs H1 p q v u Q s rp rq h
def eR:PV->PV->M PV
 | .int i,.int j=>M.ok (.int (i+j))
 | .str x,.str y=>cD (x.length+y.length<=sizeLine) (M.ok (.str (x++y)))
 | .tup xs,.tup ys=>cD (xs.length+ys.length<=sizeLine) (M.ok (.tup (xs++ys)))
 | .lst xs,.lst ys=>cD (xs.length+ys.length<=sizeLine) (M.ok (.lst (xs++ys)))
 | _,_=>none
def GG(K:PySem.W.Frag):R2:=λx y H Q=>(∃ i j,x=.int i/\y=.int j/\Q (.int (i+j)) H)\/(∃ i j,x=.str i/\y=.str j/\i.length+j.length<=sizeLine/\Q (.str (i++j)) H)\/GD K x y H Q\/J7 x y H Q\/BK K x y H Q
theorem Ft:gK X (binaryOp .Add) (GG X.K):=gK.or HK (gK.or yQ (gK.or FP (gK.or IQ B7)))
theorem Hy{K:PySem.W.Frag}:mM E (GG K) eR:=by
 intro σ Hs H p q v u Q s rp rq h
 cases rp with
 | int i=>cases rq with
  | int j=>exact .inl ⟨i,j,rfl,rfl,dY.flat h s (.int _)⟩
  | _=>exact h.elim
 | str i=>cases rq with
  | str j =>
   obtain⟨hz,h⟩:=aA.cD h
   exact .inr (.inl ⟨i,j,rfl,rfl,hz,dY.flat h s (.str _)⟩)
  | _=>exact h.elim
 | @tup a xs vs ha hx=>cases rq with
  | @tup b ys us hb hy =>
   obtain⟨hz,h⟩:=aA.cD h
   cases hx with
   | nil=>exact .inr (.inr (.inr (.inr ⟨a,b,us,rfl,rfl,iF.of (s _ _ ha),iF.of (s _ _ hb),dY.flat h s (.tup hb hy)⟩)))
   | cons Rz PY =>
    have hx:=aM.cons Rz PY
    refine .inr (.inr (.inl ⟨a,b,_,us,rfl,rfl,iF.of (s _ _ ha),iF.of (s _ _ hb),(λz=>nomatch z),by rw[← hx.length,← hy.length];exact hz,λz=>?_,λz=>dY.tup h s (hx.append hy)⟩))
    have e:ys=[]:=by cases hy with | nil=>rfl | cons _ _=>cases z
    subst e
    rw[List.append_nil] at h
    exact dY.flat h s (.tup ha hx)
  | _=>exact h.elim
 | @lst a xs vs ha hx=>cases rq with
  | @lst b ys us hb hy =>
   obtain⟨hz,h⟩:=aA.cD h
   exact .inr (.inr (.inr (.inl ⟨a,b,vs,us,rfl,rfl,s _ _ ha,s _ _ hb,by rw[← hx.length,← hy.length];exact hz,dY.lst h s (hx.append hy)⟩)))
  | _=>exact h.elim
 | _=>exact h.elim
def xO(c:Int->Int->Bool)(o:Int->Int->Int):PV->PV->M PV
 | .int i,.int j=>cD (c i j=true) (M.ok (.int (o i j)))
 | _,_=>none
theorem yV{C:Int->Int->Prop}{c:Int->Int->Bool}{o:Int->Int->Int}(hc:∀ i j,c i j=true->C i j):mM E (rI C λi j=>.int (o i j)) (xO c o):=by
 intro σ Hs H p q v u Q s rp rq h
 cases rp with
 | int i=>cases rq with
  | int j =>
   obtain⟨hz,h⟩:=aA.cD h
   exact⟨i,j,rfl,rfl,hc i j hz,dY.flat h s (.int _)⟩
  | _=>exact h.elim
 | _=>exact h.elim
def jh:PV->PV->M PV
 | .int i,.int j=>M.ok (.int (i-j))
 | _,_=>none
theorem HR:mM E (ze λi j=>.int (i-j)) jh:=by
 intro σ Hs H p q v u Q s rp rq h
 cases rp with
 | int i=>cases rq with
  | int j=>exact⟨i,j,rfl,rfl,dY.flat h s (.int _)⟩
  | _=>exact h.elim
 | _=>exact h.elim
def C4(o:Int->Int->Bool):PV->PV->M PV
 | .int i,.int j=>M.ok (.bl (o i j))
 | _,_=>none
theorem uG{o:Int->Int->Bool}:mM E (ze λi j=>.bl (o i j)) (C4 o):=by
 intro σ Hs H p q v u Q s rp rq h
 cases rp with
 | int i=>cases rq with
  | int j=>exact⟨i,j,rfl,rfl,dY.flat h s (.bl _)⟩
  | _=>exact h.elim
 | _=>exact h.elim
def aQ:PV->PV->M PV
 | .tup xs,.int i=>dZ (vK xs i)
 | .lst xs,.int i=>dZ (vK xs i)
 | .kH xs,.int i=>dZ (vK xs i)
 | .str z,.int i=>cD (z.length<=sizeLine) (dZ ((vK z.cps.toList i).map λc=>.str ⟨#[c]⟩))
 | _,_=>none
theorem aM.vK{H:Hp}{xs:List PV}{vs:List V}{i:Int}{x:PV}(r:aM H xs vs)(e:L2.vK xs i=some x):∃ v,L2.vK vs i=some v/\Rep H x v:=by
 unfold L2.vK at e ⊢
 rw[← r.length]
 obtain⟨j,h1,h2⟩:=Option.bind_eq_some_iff.mp e
 obtain⟨v,h3,h4⟩:=r.get h2
 exact⟨v,by rw[h1];exact h3,h4⟩
theorem I_{K:PySem.W.Frag}:mM E (Nu K) aQ:=by
 intro σ Hs H p q v u Q s rp rq h
 cases rp with
 | @tup a xs vs ha hx=>cases rq with
  | int i =>
   obtain⟨x,ex,h⟩:=aA.opt h
   obtain⟨v,h1,h2⟩:=hx.vK ex
   exact .inr (.inl ⟨a,vs,i,v,rfl,rfl,iF.of (s _ _ ha),h1,dY.flat h s h2⟩)
  | _=>exact h.elim
 | @lst a xs vs ha hx=>cases rq with
  | int i =>
   obtain⟨x,ex,h⟩:=aA.opt h
   obtain⟨v,h1,h2⟩:=hx.vK ex
   exact .inl ⟨a,vs,i,v,rfl,rfl,iS.of (s _ _ ha),h1,dY.flat h s h2⟩
  | _=>exact h.elim
 | @kH a o xs vs ha hx=>cases rq with
  | int i =>
   obtain⟨x,ex,h⟩:=aA.opt h
   obtain⟨v,h1,h2⟩:=hx.vK ex
   exact .inl ⟨a,vs,i,v,rfl,rfl,.inl (.inr ⟨o,s _ _ ha⟩),h1,dY.flat h s h2⟩
  | _=>exact h.elim
 | str z=>cases rq with
  | int i =>
   obtain⟨hz,h⟩:=aA.cD h
   obtain⟨x,ex,h⟩:=aA.opt h
   obtain⟨c,ec,rfl⟩:=Option.map_eq_some_iff.mp ex
   exact .inr (.inr ⟨z,i,c,rfl,rfl,hz,ec,dY.flat h s (.str _)⟩)
  | _=>exact h.elim
 | _=>exact h.elim
theorem Ia(ha:PE X a (tE E f))(hb:PE X b (tE E g))(hs:vk b):PE X (.Subscript a b pos) (tE E (aj aQ f g)) :=
 (K3 Jz ha hb hs).imp fun σ H Q q=>zI q λHs H1 p q v u s rp rq h=>I_ σ Hs H1 p q v u Q s rp rq h
end
end L2
namespace L2
open PySem PySem.Spec PyProof.Rows
def tG{α:Type}(E:St->XK)(f:af->M α)(K:Hp->Hp->α->Prop):St->Hp->Prop:=fun σ H=>∃ B H₀ Hs env,SR B H₀ Hs H σ env/\aA (f env) (K Hs H) (XW (E σ) Hs H)
def KG{α:Type}(K:Hp->Hp->α->Prop):Prop:=∀ Hs H Oc H' b,K Hs H b->bL Hs H Oc H'->K Oc H' b
abbrev KB(Q:Bool->Hp->Prop):Hp->Hp->Bool->Prop:=λHs H k=>∀ Oc H',bL Hs H Oc H'->Q k H'
abbrev kD(Q:VK):Hp->Hp->PV->Prop:=λHs H p=>dY Hs H Q p
abbrev KL(Q:List V->Hp->Prop):Hp->Hp->List PV->Prop:=λHs H ps=>∀ vs Oc H',bL Hs H Oc H'->aM Oc ps vs->Q vs H'
theorem KB.g{Q:Bool->Hp->Prop}:KG (KB Q):=λHs H Oc H' b k g Ol H2 g2=>k Ol H2 (g.trans g2)
theorem kD.g{Q:VK}:KG (kD Q):=λHs H Oc H' b k g w Ol H2 g2 r=>k w Ol H2 (g.trans g2) r
theorem KL.g{Q:List V->Hp->Prop}:KG (KL Q):=λHs H Oc H' b k g w Ol H2 g2 r=>k w Ol H2 (g.trans g2) r
def tT(E:St->XK)(f:af->M Bool):TT:=fun σ H Q=>tG E f (KB Q) σ H
def tL(E:St->XK)(f:af->M (List PV)):TA:=fun σ H Q=>tG E f (KL Q) σ H
theorem PT.imp{X:Cx}{e:Expr}{t t':TT}(h:PT X e t)(i:∀ σ H Q,t' σ H Q->t σ H Q):PT X e t':=λN8 s σ H Q I q=>h N8 s σ H Q I (i σ H Q q)
theorem PW.imp{X:Cx}{e:Expr}{t t':TT}(h:PW X e t)(i:∀ σ H Q,t' σ H Q->t σ H Q):PW X e t':=λw N8 s σ H Q I q=>h w N8 s σ H Q I (i σ H Q q)
theorem PA.imp{X:Cx}{e:List Expr}{t t':TA}(h:PA X e t)(i:∀ σ H Q,t' σ H Q->t σ H Q):PA X e t':=λw N8 s σ H Q I q=>h w N8 s σ H Q I (i σ H Q q)
section
variable{β:Type}{E:St->XK}{K:Hp->Hp->β->Prop}{σ:St}{H:Hp}
theorem bU{f:af->M PV}{g:af->PV->M β}{R:VK}(kg:KG K)(h:tG E (λenv=>(f env).bind (g env)) K σ H)
  (k:∀ B H₀ Hs H1 env p v,SR B H₀ Hs H1 σ env->Rep Hs p v->aA (g env p) (K Hs H1) (XW (E σ) Hs H1)->R v H1):tE E f σ H R:=by
 obtain⟨B,H₀,Hs,env,sr,h⟩:=h
 refine⟨B,H₀,Hs,env,sr,(aA.bind h).imp (λp hp v Oc H' g r=>?_) λe he=>he⟩
 exact k B H₀ Oc H' env p v (sr.grow g) r (hp.imp (λq hq=>kg _ _ _ _ q hq g) λe he=>he.grow g)
theorem nI{f:af->M Bool}{g:af->Bool->M β}{R:Bool->Hp->Prop}(kg:KG K)(h:tG E (λenv=>(f env).bind (g env)) K σ H)
  (k:∀ B H₀ Hs H1 env p,SR B H₀ Hs H1 σ env->aA (g env p) (K Hs H1) (XW (E σ) Hs H1)->R p H1):tT E f σ H R:=by
 obtain⟨B,H₀,Hs,env,sr,h⟩:=h
 refine⟨B,H₀,Hs,env,sr,(aA.bind h).imp (λp hp Oc H' g=>?_) λe he=>he⟩
 exact k B H₀ Oc H' env p (sr.grow g) (hp.imp (λq hq=>kg _ _ _ _ q hq g) λe he=>he.grow g)
theorem dH{f:af->M (List PV)}{g:af->List PV->M β}{R:List V->Hp->Prop}(kg:KG K)(h:tG E (λenv=>(f env).bind (g env)) K σ H)
  (k:∀ B H₀ Hs H1 env p v,SR B H₀ Hs H1 σ env->aM Hs p v->aA (g env p) (K Hs H1) (XW (E σ) Hs H1)->R v H1):tL E f σ H R:=by
 obtain⟨B,H₀,Hs,env,sr,h⟩:=h
 refine⟨B,H₀,Hs,env,sr,(aA.bind h).imp (λp hp v Oc H' g r=>?_) λe he=>he⟩
 exact k B H₀ Oc H' env p v (sr.grow g) r (hp.imp (λq hq=>kg _ _ _ _ q hq g) λe he=>he.grow g)
end
def yX:PV->M Bool
 | .bl b=>M.ok b
 | _=>none
def cz(f:af->M PV):af->M Bool:=λenv=>(f env).bind yX
theorem aA.LM{p:PV}{Q:Bool->Prop}{E:EX->Prop}(h:aA (yX p) Q E):∃ b,p=.bl b/\Q b:=by
 cases p with
 | bl b=>exact⟨b,rfl,h⟩
 | _=>exact h.elim
section
variable{X:Cx}{E:St->XK}{a b c e:Expr}{pos:Pos}{f g h:af->M PV}{u v:af->M Bool}{rest:List Expr}
theorem rV{σ:St}{H:Hp}{Q:Bool->Hp->Prop}(q:tT E (cz f) σ H Q):tB (tE E f) σ H Q:=by
 refine bU KB.g q λB H₀ Hs H1 env p v sr rp hp=>?_
 obtain⟨k,rfl,hp⟩:=aA.LM hp
 cases rp
 exact⟨k,rfl,hp Hs H1 (.refl sr.gr.sub)⟩
theorem sd(he:PE X e (tE E f))(hw:∀ whole,isTrue e X.env whole=(do let v ← whole;standAt e.pos;holding [v] (truthy v)):=by intro _;rfl):PT X e (tT E (cz f)) :=
 (Hj he hw).imp fun σ H Q q=>rV q
theorem gH{op:CmpOp}{r:R2}{o:PV->PV->M PV}(ho:gK X (compareOp op) r)(hv:mM E r o)(ha:PE X a (tE E f))(hb:PE X b (tE E g))(hm:behindInMarks op b=false):PT X (.Compare a [op] [b] pos) (tT E (cz (aj o f g))):=by
 refine(EG ho ha hb hm).imp fun σ H Q q=>?_
 have q':=rV q
 exact zI q' λHs H1 p q v u s rp rq h=>hv σ Hs H1 p q v u _ s rp rq h
def iP(u:af->M Bool):af->M Bool:=λenv=>(u env).bind λb=>M.ok (!b)
def EJ(u v:af->M Bool):af->M Bool:=λenv=>(u env).bind λb=>if b=true then v env else M.ok false
def wD(u v:af->M Bool):af->M Bool:=λenv=>(u env).bind λb=>if b=true then M.ok true else v env
theorem IU(ha:PT X a (tT E u)):PT X (.UnaryOp .Not a pos) (tT E (iP u)) :=
 (HJ ha).imp fun σ H Q q=>nI KB.g q λB H₀ Hs H1 env p sr hp=>hp Hs H1 (.refl sr.gr.sub)
theorem zv(ha:PT X a (tT E u)):PW X (.BoolOp .And [a] pos) (tT E u):=pw_and1 ha
theorem gD(ha:PT X a (tT E u)):PW X (.BoolOp .Or [a] pos) (tT E u):=pw_or1 ha
theorem Bw(ha:PT X a (tT E u))(hb:PW X (.BoolOp .And (b::rest) pos) (tT E v)):PW X (.BoolOp .And (a::b::rest) pos) (tT E (EJ u v)):=by
 refine(pw_and ha hb).imp fun σ H Q q=>nI KB.g q λB H₀ Hs H1 env p sr hp=>?_
 cases p with
 | true=>exact⟨B,H₀,Hs,env,sr,hp⟩
 | false=>exact hp Hs H1 (.refl sr.gr.sub)
theorem iA(ha:PT X a (tT E u))(hb:PW X (.BoolOp .Or (b::rest) pos) (tT E v)):PW X (.BoolOp .Or (a::b::rest) pos) (tT E (wD u v)):=by
 refine(pw_or ha hb).imp fun σ H Q q=>nI KB.g q λB H₀ Hs H1 env p sr hp=>?_
 cases p with
 | true=>exact hp Hs H1 (.refl sr.gr.sub)
 | false=>exact⟨B,H₀,Hs,env,sr,hp⟩
def IV(f:af->M PV):af->M PV:=λenv=>(f env).bind λp=>(yX p).bind λb=>M.ok (.bl (!b))
def Av(f g:af->M PV):af->M PV:=λenv=>(f env).bind λp=>(yX p).bind λb=>if b=true then g env else M.ok (.bl false)
def NP(f g:af->M PV):af->M PV:=λenv=>(f env).bind λp=>(yX p).bind λb=>if b=true then M.ok (.bl true) else g env
theorem HV(ha:PE X a (tE E f)):PE X (.UnaryOp .Not a pos) (tE E (IV f)):=by
 refine(Hq ha).imp fun σ H Q q=>bU (K:=kD Q) kD.g q λB H₀ Hs H1 env p v sr rp hp=>?_
 obtain⟨k,rfl,hp⟩:=aA.LM (aA.bind hp)
 cases rp
 exact⟨k,rfl,dY.flat hp sr.gr.sub (.bl _)⟩
theorem u4(ha:PE X a (tE E f))(hb:PE X (.BoolOp .And (b::rest) pos) (tE E g)):PE X (.BoolOp .And (a::b::rest) pos) (tE E (Av f g)):=by
 refine(HA ha hb).imp fun σ H Q q=>bU (K:=kD Q) kD.g q λB H₀ Hs H1 env p v sr rp hp=>?_
 obtain⟨k,rfl,hp⟩:=aA.LM (aA.bind hp)
 cases rp
 refine⟨k,rfl,?_⟩
 cases k with
 | true=>exact⟨B,H₀,Hs,env,sr,hp⟩
 | false=>exact dY.flat hp sr.gr.sub (.bl _)
def AJ(u:af->M Bool)(f g:af->M PV):af->M PV:=λenv=>(u env).bind λb=>if b=true then f env else g env
theorem Ip(hc:PT X c (tT E u))(ha:PE X a (tE E f))(hb:PE X b (tE E g)):PE X (.IfExp c a b pos) (tE E (AJ u f g)):=by
 refine(BJ hc ha hb).imp fun σ H Q q=>nI (K:=kD Q) kD.g q λB H₀ Hs H1 env p sr hp=>?_
 cases p with
 | true=>exact⟨B,H₀,Hs,env,sr,hp⟩
 | false=>exact⟨B,H₀,Hs,env,sr,hp⟩
def ao:af->M (List PV):=λ_=>M.ok []
def aa(f:af->M PV)(fs:af->M (List PV)):af->M (List PV):=λenv=>(f env).bind λp=>(fs env).bind λps=>M.ok (p::ps)
variable{fs:af->M (List PV)}{es:List Expr}
theorem DW:PA X [] (tL E ao):=by
 refine mC.imp fun σ H Q q=>?_
 obtain⟨B,H₀,Hs,env,sr,q⟩:=q
 exact q [] Hs H (.refl sr.gr.sub) .nil
theorem zw(ha:PE X e (tE E f))(hr:PA X es (tL E fs))(hs:starEach (e::es) X.env=(false,eval e X.env)::starEach es X.env:=by rfl):PA X (e::es) (tL E (aa f fs)):=by
 refine(fq ha hr hs).imp fun σ H Q q=>bU (K:=KL Q) KL.g q λB H₀ Hs H1 env p v sr rp hp=>?_
 refine⟨B,H₀,Hs,env,sr,(aA.bind hp).imp (λps QC vs Oc H' g r=>?_) λe he=>he⟩
 exact QC (v::vs) Oc H' g (.cons (rp.mono g.st) r)
def jN(fs:af->M (List PV)):af->M PV:=λenv=>(fs env).bind λps=>cD (ps.length<=sizeLine) (M.ok (.tup ps))
def sk(fs:af->M (List PV)):af->M PV:=λenv=>(fs env).bind λps=>cD (ps.length<=sizeLine) (M.ok (.lst ps))
theorem JM{x1:Nat}(hr:PA X es (tL E fs)):PE X (.Tuple es x1 pos) (tE E (jN fs)):=by
 refine(DY hr).imp fun σ H Q q=>dH (K:=kD Q) kD.g q λB H₀ Hs H1 env p v sr rp hp=>?_
 obtain⟨hz,hp⟩:=aA.cD hp
 exact⟨by rw[← rp.length];exact hz,dY.tup hp sr.gr.sub rp⟩
theorem BE(hr:PA X es (tL E fs)):PE X (.List es pos) (tE E (sk fs)):=by
 refine(C0 hr).imp fun σ H Q q=>dH (K:=kD Q) kD.g q λB H₀ Hs H1 env p v sr rp hp=>?_
 obtain⟨hz,hp⟩:=aA.cD hp
 exact⟨by rw[← rp.length];exact hz,dY.lst hp sr.gr.sub rp⟩
def ai(o:List PV->M PV)(fs:af->M (List PV)):af->M PV:=λenv=>(fs env).bind o
def mh(E:St->XK)(r:List V->Hp->VK->Prop)(o:List PV->M PV):Prop:=∀ (σ:St) (Hs H:Hp) (ps:List PV) (vs:List V) (Q:VK),bj Hs H->aM Hs ps vs->aA (o ps) (dY Hs H Q) (XW (E σ) Hs H)->r vs H Q
theorem CG{r:List V->Hp->VK->Prop}{o:List PV->M PV}{σ:St}{H:Hp}{Q:VK}(hv:mh E r o)(q:tE E (ai o fs) σ H Q):MD r (tL E fs) σ H Q :=
 dH (K:=kD Q) kD.g q λB H₀ Hs H1 env p v sr rp hp=>hv σ Hs H1 p v Q sr.gr.sub rp hp
variable{x:Str}{p:Pos}{id T:String}
theorem mY{r:List V->Hp->VK->Prop}{o:List PV->M PV}(hc:dC X (.builtin id) r)(hv:mh E r o)(hg:Gl X x)(hm:X.mg x=none)(hx:bootBuiltins x=some (.builtin id))(ha:PA X (e::es) (tL E fs))(hn:x ≠ "__name__" := by decide)(Ph:(x==("__debug__" : Str))=false:=by decide)
  (he:starEach (e::es) X.env=(false,eval e X.env)::starEach es X.env:=by rfl) (OB:(backTo pos (starEach es X.env)).any (·.1)=false:=by rfl):PE X (.Call (.Name x p) (e::es) [] pos) (tE E (ai o fs)) :=
 (mQ hc hg hm hx ha hn Ph he OB).imp fun σ H Q q=>CG hv q
theorem oR{r:List V->Hp->VK->Prop}{o:List PV->M PV}(hc:dC X (.type T) r)(hv:mh E r o)(hg:Gl X x)(hm:X.mg x=none)(hx:bootBuiltins x=some (.type T))(ha:PA X (e::es) (tL E fs))(hn:x ≠ "__name__" := by decide)(Ph:(x==("__debug__" : Str))=false:=by decide)
  (he:starEach (e::es) X.env=(false,eval e X.env)::starEach es X.env:=by rfl) (OB:(backTo pos (starEach es X.env)).any (·.1)=false:=by rfl):PE X (.Call (.Name x p) (e::es) [] pos) (tE E (ai o fs)) :=
 (Ao hc hg hm hx ha hn Ph he OB).imp fun σ H Q q=>CG hv q
end
end L2
namespace L2
open PySem PySem.Spec PyProof.Rows
section
variable{E:St->XK}
def bR:PV->Option (List PV)
 | .tup xs=>some xs
 | .lst xs=>some xs
 | .kH xs=>some xs
 | _=>none
theorem BH{K:PySem.W.Frag}{Hs H:Hp}{p:PV}{v:V}{xs:List PV}(s:bj Hs H)(r:Rep Hs p v)(e:bR p=some xs):∃ a vs,v=.ref a/\(iS K H a vs\/iF K H a vs)/\aM Hs xs vs:=by
 cases r with
 | tup h r=>cases e;exact⟨_,_,rfl,.inr (iF.of (s _ _ h)),r⟩
 | lst h r=>cases e;exact⟨_,_,rfl,.inl (iS.of (s _ _ h)),r⟩
 | kH h r=>cases e;exact⟨_,_,rfl,.inl (.inl (.inr ⟨_,s _ _ h⟩)),r⟩
 | _=>cases e
def vX:PV->M PV
 | .str z=>cD (z.length<=sizeLine) (M.ok (.int z.length))
 | p=>dZ ((bR p).map λxs=>.int xs.length)
def dE:List PV->M PV
 | [p]=>vX p
 | _=>none
theorem aM.one{H:Hp}{p:PV}{vs:List V}(r:aM H [p] vs):∃ v,vs=[v]/\Rep H p v:=by
 cases r with
 | cons h r=>cases r;exact⟨_,rfl,h⟩
theorem aM.two{H:Hp}{p q:PV}{vs:List V}(r:aM H [p,q] vs):∃ v u,vs=[v,u]/\Rep H p v/\Rep H q u:=by
 cases r with
 | cons h r=>obtain⟨u,rfl,h2⟩:=r.one;exact⟨_,_,rfl,h,h2⟩
def GH(K:PySem.W.Frag):List V->Hp->VK->Prop:=λxs H Q=>(∃ p ys,xs=[.ref p]/\(iS K H p ys\/iF K H p ys)/\Q (.int ys.length) H)\/∃ z,xs=[.str z]/\z.length<=sizeLine/\Q (.int z.length) H
theorem A5{X:Cx}:dC X (.builtin "len") (GH X.K):=dC.or vC uo
theorem IK{K:PySem.W.Frag}:mh E (GH K) dE:=by
 intro σ Hs H ps vs Q s r h
 match ps,r with
 | [],_=>exact h.elim
 | _::_::_,_=>exact h.elim
 | [p],r =>
  obtain⟨v,rfl,rp⟩:=r.one
  cases hp:bR p with
  | none =>
   cases p with
   | str z =>
    cases rp
    obtain⟨hz,h⟩:=aA.cD h
    exact .inr ⟨z,rfl,hz,dY.flat h s (.int _)⟩
   | tup _=>cases hp
   | lst _=>cases hp
   | kH _=>cases hp
   | _=>exact h.elim
  | some xs =>
   obtain⟨a,us,rfl,hq,hx⟩:=BH (K:=K) s rp hp
   have h':aA (dZ ((bR p).map λxs=>PV.int xs.length)) (dY Hs H Q) (XW (E σ) Hs H):=by
    cases p with
    | str z=>cases hp
    | _=>exact h
   rw[hp] at h'
   refine .inl ⟨a,us,rfl,hq,?_⟩
   rw[← hx.length]
   exact dY.flat h' s (.int _)
def xy:List PV->M PV
 | [p]=>dZ ((bR p).map .lst)
 | _=>none
theorem Eg{K:PySem.W.Frag}:mh E (λxs H Q=>∃ p ys,xs=[.ref p]/\(iS K H p ys\/iF K H p ys)/\∀ l,H l=none->Q (.ref l) (upd H l (.lst ys))) xy:=by
 intro σ Hs H ps vs Q s r h
 match ps,r with
 | [],_=>exact h.elim
 | _::_::_,_=>exact h.elim
 | [p],r =>
  obtain⟨v,rfl,rp⟩:=r.one
  obtain⟨x,ex,h⟩:=aA.opt h
  obtain⟨xs,hp,rfl⟩:=Option.map_eq_some_iff.mp ex
  obtain⟨a,us,rfl,hq,hx⟩:=BH (K:=K) s rp hp
  exact⟨a,us,rfl,hq,dY.lst h s hx⟩
def cG:List PV->M PV
 | [p]=>dZ ((bR p).map .tup)
 | _=>none
theorem CS{K:PySem.W.Frag}:mh E (λxs H Q=>∃ p ys,xs=[.ref p]/\((iS K H p ys/\∀ l,H l=none->Q (.ref l) (upd H l (.tup ys)))\/(iF K H p ys/\Q (.ref p) H))) cG:=by
 intro σ Hs H ps vs Q s r h
 match ps,r with
 | [],_=>exact h.elim
 | _::_::_,_=>exact h.elim
 | [p],r =>
  obtain⟨v,rfl,rp⟩:=r.one
  obtain⟨x,ex,h⟩:=aA.opt h
  obtain⟨xs,hp,rfl⟩:=Option.map_eq_some_iff.mp ex
  cases rp with
  | tup ha hx=>cases hp;exact⟨_,_,rfl,.inr ⟨iF.of (s _ _ ha),dY.flat h s (.tup ha hx)⟩⟩
  | lst ha hx=>cases hp;exact⟨_,_,rfl,.inl ⟨iS.of (s _ _ ha),dY.tup h s hx⟩⟩
  | kH ha hx=>cases hp;exact⟨_,_,rfl,.inl ⟨.inl (.inr ⟨_,s _ _ ha⟩),dY.tup h s hx⟩⟩
  | _=>cases hp
def wX:List PV->Option (List Int)
 | []=>some []
 | .int i::r=>(wX r).map (i::·)
 | _=>none
def ye:List PV->Option (List Bool)
 | []=>some []
 | .bl i::r=>(ye r).map (i::·)
 | _=>none
theorem zE:∀ {ps:List PV} {ns:List Int},wX ps=some ns->ps=ns.map PV.int
 | [],_,e=>by cases e;rfl
 | .int i::r,_,e=>by
  obtain⟨ms,h1,rfl⟩:=Option.map_eq_some_iff.mp e
  rw[zE h1];rfl
theorem xX:∀ {ps:List PV} {ns:List Bool},ye ps=some ns->ps=ns.map PV.bl
 | [],_,e=>by cases e;rfl
 | .bl i::r,_,e=>by
  obtain⟨ms,h1,rfl⟩:=Option.map_eq_some_iff.mp e
  rw[xX h1];rfl
theorem tM:∀ (ns:List Int),wX (ns.map PV.int)=some ns
 | []=>rfl
 | n::r=>by show (wX (r.map PV.int)).map (n::·)=_;rw[tM r];rfl
theorem rB:∀ (ns:List Bool),ye (ns.map PV.bl)=some ns
 | []=>rfl
 | n::r=>by show (ye (r.map PV.bl)).map (n::·)=_;rw[rB r];rfl
def Kw:PV->M PV
 | .lst xs=>dZ ((wX xs).map λns=>.int ns.sum)
 | _=>none
def Bf:List PV->M PV
 | [p]=>Kw p
 | _=>none
theorem Ja{K:PySem.W.Frag}:mh E (λxs H Q=>∃ (a:Addr) (ns:List Int),xs=[.ref a]/\iS K H a (ns.map V.int)/\Q (.int ns.sum) H) Bf:=by
 intro σ Hs H ps vs Q s r h
 match ps,r with
 | [],_=>exact h.elim
 | _::_::_,_=>exact h.elim
 | [p],r =>
  obtain⟨v,rfl,rp⟩:=r.one
  cases rp with
  | lst ha hx =>
   obtain⟨x,ex,h⟩:=aA.opt h
   obtain⟨ns,hn,rfl⟩:=Option.map_eq_some_iff.mp ex
   rw[zE hn] at hx
   exact⟨_,ns,rfl,hx.ints▸iS.of (s _ _ ha),dY.flat h s (.int _)⟩
  | _=>exact h.elim
def all1:PV->M PV
 | .lst xs=>dZ ((ye xs).map λns=>.bl (ns.all id))
 | _=>none
def sy:List PV->M PV
 | [p]=>all1 p
 | _=>none
theorem Iz{K:PySem.W.Frag}:mh E (λxs H Q=>∃ (a:Addr) (bs:List Bool),xs=[.ref a]/\iS K H a (bs.map V.bl)/\Q (.bl (bs.all id)) H) sy:=by
 intro σ Hs H ps vs Q s r h
 match ps,r with
 | [],_=>exact h.elim
 | _::_::_,_=>exact h.elim
 | [p],r =>
  obtain⟨v,rfl,rp⟩:=r.one
  cases rp with
  | lst ha hx =>
   obtain⟨x,ex,h⟩:=aA.opt h
   obtain⟨ns,hn,rfl⟩:=Option.map_eq_some_iff.mp ex
   rw[xX hn] at hx
   exact⟨_,ns,rfl,hx.KR▸iS.of (s _ _ ha),dY.flat h s (.bl _)⟩
  | _=>exact h.elim
def Mq(o:Int->Int->Int):PV->PV->M PV
 | .int i,.int j=>M.ok (.int (o i j))
 | _,_=>none
def GS(o:Int->Int->Int):List PV->M PV
 | [p,q]=>Mq o p q
 | _=>none
theorem Fb{o:Int->Int->Int}:mh E (λxs H Q=>∃ i j,xs=[.int i,.int j]/\Q (.int (o i j)) H) (GS o):=by
 intro σ Hs H ps vs Q s r h
 match ps,r with
 | [],_=>exact h.elim
 | [_],_=>exact h.elim
 | _::_::_::_,_=>exact h.elim
 | [p,q],r =>
  obtain⟨v,u,rfl,rp,rq⟩:=r.two
  cases rp with
  | int i=>cases rq with
   | int j=>exact⟨i,j,rfl,dY.flat h s (.int _)⟩
   | _=>exact h.elim
  | _=>exact h.elim
end
def c7(n:Nat)(sem:List PV->M PV):Sp:=λvs H Q E=>vs.length=n/\∃ Hs ps,bj Hs H/\aM Hs ps vs/\aA (sem ps) (dY Hs H Q) (XW E Hs H)
section
variable{X:Cx}{E:St->XK}{k n:Nat}{f C:Addr}{fd:FuncData}{ps:List Str}{sem:List PV->M PV}{x m:Str}{p pos apos:Pos}{e o:Expr}{es:List Expr}{fs:af->M (List PV)}{g:af->M PV}
theorem FY{ds:List Value}{OX:List V}{PQ:List PV}(F:aI X.prog X.w X.K X.mg X.base (bH X.prog X.w) k f fd ps (c7 n sem))(hr:bX k X.A)(hg:Gl X x)(hm:X.mg x=some (.ref f))(hk:PySem.W.keepIn X.K (.ref f)=true)(hb:Binds X.K fd ps ds)(hd:Vals OX ds)(hdp:∀ H,aM H PQ OX)(O:e9 X E)
  (hl:∀ ps,sem (ps++PQ)≠none->ps.length+PQ.length=n)
  (ha:PA X (e::es) (tL E fs)) (Ph:(x==("__debug__" : Str))=false:=by decide) (he:starEach (e::es) X.env=(false,eval e X.env)::starEach es X.env:=by rfl) (OB:(backTo pos (starEach es X.env)).any (·.1)=false:=by rfl) :
  PE X (.Call (.Name x p) (e::es) [] pos) (tE E (ai (λps=>sem (ps++PQ)) fs)):=by
 refine(Dm F hr hg hm hk hb hd O ha Ph he OB).imp fun σ H Q q=>dH (K:=kD Q) kD.g q λB H₀ Hs H1 env PL v sr rp hp=>?_
 have r2:aM Hs (PL++PQ) (v++OX):=rp.append (hdp Hs)
 have hn:sem (PL++PQ)≠none:=λz=>by rw[z] at hp;exact hp
 refine⟨?_,Hs,PL++PQ,sr.gr.sub,r2,hp⟩
 rw[← r2.length,List.length_append]
 exact hl PL hn
def cT(ok:Addr->Bool)(f:Str)(g:af->M PV):af->M PV:=λenv=>(g env).bind λp=>match p with
 | .obj C fs=>cD (ok C=true) (dZ (fs.lookup f))
 | _=>none
theorem HM{ok:Addr->Bool}{fl:Str}(he:PE X e (tE E g))(bC:∀ C,ok C=true->lq X.K C/\bF X.K C fl)(hb:attributeBase e fl X.env (eval e X.env)=eval e X.env):PE X (.Attribute e fl pos) (tE E (cT ok fl g)):=by
 refine(Jw he hb).imp fun σ H Q q=>bU (K:=kD Q) kD.g q λB H₀ Hs H1 env p v sr rp hp=>?_
 cases rp with
 | obj ha hx =>
  obtain⟨hc,hp⟩:=aA.cD hp
  obtain⟨x,ex,hp⟩:=aA.opt hp
  obtain⟨u,h1,h2⟩:=hx.look ex
  exact⟨_,_,_,_,u,rfl,sr.gr.sub _ _ ha,(bC _ hc).1,(bC _ hc).2,h1,dY.flat hp sr.gr.sub h2⟩
 | _=>exact hp.elim
def bD(C:Addr)(m:Str)(sem:List PV->M PV)(g:af->M PV)(fs:af->M (List PV)):af->M PV:=λenv=>(g env).bind λp=>match p with
 | .obj C' fl=>cD (C'=C/\fl.lookup m=none) ((fs env).bind λps=>sem (.obj C' fl::ps))
 | _=>none
theorem E6{pl:Sem Bool}(he:PE X o (tE E g))(c:lq X.K C)(hm:Meth X.K C m f)(F:aI X.prog X.w X.K X.mg X.base (bH X.prog X.w) k f fd ps (c7 n sem))(hr:bX k X.A)(hb:Binds X.K fd ps [])(O:e9 X E)(hl:∀ ps,sem ps≠none->ps.length=n)(ha:PA X (e::es) (tL E fs))
  (Oz:starEach (e::es) X.env=(false,eval e X.env)::starEach es X.env:=by rfl) (OB:(backTo pos (starEach es X.env)).any (·.1)=false:=by rfl)
  (ht:eval (.Call (.Attribute o m apos) (e::es) [] pos) X.env=(do
   let ov ← eval o X.env
   standAt apos.atName
   let (f,first) ← holding [ov] (getMethod ov m pl)
   callWith pos f first (backTo pos (starEach (e::es) X.env)) (backToKw pos (keywordEach [] X.env))):=by rfl) :
  PE X (.Call (.Attribute o m apos) (e::es) [] pos) (tE E (bD C m sem g fs)):=by
 refine(BR he c hm F hr hb .nil O ha Oz OB ht).imp fun σ H Q q=>bU (K:=kD Q) kD.g q λB H₀ Hs H1 env p v sr rp hp=>?_
 cases rp with
 | @obj a C' dx fl fvs ho hx =>
  obtain⟨⟨e1,hn⟩,Bk⟩:=aA.cD hp
  subst e1
  refine⟨a,dx,fvs,rfl,sr.gr.sub _ _ ho,hx.none hn,B,H₀,Hs,env,sr,(aA.bind Bk).imp (λPL QC vs Oc H' g' r=>?_) λe he=>he⟩
  have r2:aM Oc (.obj C' fl::PL) (V.ref a::(vs++[])):=by rw[List.append_nil];exact .cons ((Rep.obj ho hx).mono g'.st) r
  have hn:sem (.obj C' fl::PL)≠none:=λz=>by rw[z] at QC;exact QC
  refine⟨by rw[← r2.length];exact hl _ hn,Oc,_,g'.sub,r2,QC.imp (λz hz w Ol H2 g2 r2=>hz w Ol H2 (g'.trans g2) r2) λe he=>he.grow g'⟩
 | _=>exact hp.elim
theorem Bt{pl:Sem Bool}(he:PE X o (tE E g))(c:lq X.K C)(hm:Meth X.K C m f)(F:aI X.prog X.w X.K X.mg X.base (bH X.prog X.w) k f fd ps (c7 n sem))(hr:bX k X.A)(hb:Binds X.K fd ps [])(O:e9 X E)(hl:∀ ps,sem ps≠none->ps.length=n)
  (ht:eval (.Call (.Attribute o m apos) [] [] pos) X.env=(do
   let ov ← eval o X.env
   standAt apos.atName
   let (f,first) ← holding [ov] (getMethod ov m pl)
   callWith pos f first (backTo pos (starEach [] X.env)) (backToKw pos (keywordEach [] X.env))):=by rfl) :
  PE X (.Call (.Attribute o m apos) [] [] pos) (tE E (bD C m sem g ao)):=by
 refine(Bi he c hm F hr hb .nil O ht).imp fun σ H Q q=>bU (K:=kD Q) kD.g q λB H₀ Hs H1 env p v sr rp hp=>?_
 cases rp with
 | @obj a C' dx fl fvs ho hx =>
  obtain⟨⟨e1,hn⟩,Bk⟩:=aA.cD hp
  subst e1
  have r2:aM Hs [.obj C' fl] [V.ref a]:=.cons (Rep.obj ho hx) .nil
  have RR:sem [.obj C' fl]≠none:=λz=>by
   have Rc:aA (sem [.obj C' fl]) (dY Hs H1 Q) (XW (E σ) Hs H1):=Bk
   rw[z] at Rc;exact Rc
  exact⟨a,dx,fvs,rfl,sr.gr.sub _ _ ho,hx.none hn,by rw[show ([]:List V)++[]=[] from rfl];exact r2.length▸hl _ RR,Hs,_,sr.gr.sub,r2,Bk⟩
 | _=>exact hp.elim
end
end L2
namespace L2
open PySem PySem.Spec PyProof.Rows
inductive Out where
 | nx (env:af) | rt (p:PV) | bk (env:af) | ct (env:af)
def KS(D:Ends)(B H₀:Hp):Out->Prop
 | .nx env=>∀ σ Hs H,SR B H₀ Hs H σ env->D.nx σ H
 | .rt p=>∀ v Hs H,bL B H₀ Hs H->Rep Hs p v->D.rt v H
 | .bk env=>∀ σ Hs H,SR B H₀ Hs H σ env->D.bk σ H
 | .ct env=>∀ σ Hs H,SR B H₀ Hs H σ env->D.ct σ H
def tS(E:XK)(f:af->M Out):TS:=λD σ H=>∃ B H₀ Hs env,SR B H₀ Hs H σ env/\aA (f env) (KS D B H₀) (XW E B H₀)
theorem PS.imp{X:Cx}{st:Stmt}{t t':TS}(h:PS X st t)(i:∀ D σ H,t' D σ H->t D σ H):PS X st t':=λN8 s σ H D I q=>h N8 s σ H D I (i D σ H q)
theorem mH.imp{X:Cx}{st:List Stmt}{t t':TS}(h:mH X st t)(i:∀ D σ H,t' D σ H->t D σ H):mH X st t':=λN8 s σ H D I q=>h N8 s σ H D I (i D σ H q)
def ar:af->M Out:=λenv=>M.ok (.nx env)
def D4(g:af->M Out):Out->M Out
 | .nx env=>g env
 | o=>M.ok o
def aq(f g:af->M Out):af->M Out:=λenv=>(f env).bind (D4 g)
theorem k_{E:XK}{f:af->M PV}{g:af->PV->M Out}{D:Ends}{σ:St}{H:Hp}{R:VK}(h:tS E (λenv=>(f env).bind (g env)) D σ H)
  (k:∀ B H₀ Hs H1 env p v,SR B H₀ Hs H1 σ env->Rep Hs p v->aA (g env p) (KS D B H₀) (XW E B H₀)->R v H1):tE (λ_=>E) f σ H R:=by
 obtain⟨B,H₀,Hs,env,sr,h⟩:=h
 refine⟨B,H₀,Hs,env,sr,(aA.bind h).imp (λp hp v Oc H' g r=>?_) λe he=>he.grow sr.gr⟩
 exact k B H₀ Oc H' env p v (sr.grow g) r hp
theorem C7{E:XK}{f:af->M Bool}{g:af->Bool->M Out}{D:Ends}{σ:St}{H:Hp}{R:Bool->Hp->Prop}(h:tS E (λenv=>(f env).bind (g env)) D σ H)
  (k:∀ B H₀ Hs H1 env p,SR B H₀ Hs H1 σ env->aA (g env p) (KS D B H₀) (XW E B H₀)->R p H1):tT (λ_=>E) f σ H R:=by
 obtain⟨B,H₀,Hs,env,sr,h⟩:=h
 refine⟨B,H₀,Hs,env,sr,(aA.bind h).imp (λp hp Oc H' g=>?_) λe he=>he.grow sr.gr⟩
 exact k B H₀ Oc H' env p (sr.grow g) hp
theorem qD{E:XK}{f:af->M (List PV)}{g:af->List PV->M Out}{D:Ends}{σ:St}{H:Hp}{R:List V->Hp->Prop}(h:tS E (λenv=>(f env).bind (g env)) D σ H)
  (k:∀ B H₀ Hs H1 env p v,SR B H₀ Hs H1 σ env->aM Hs p v->aA (g env p) (KS D B H₀) (XW E B H₀)->R v H1):tL (λ_=>E) f σ H R:=by
 obtain⟨B,H₀,Hs,env,sr,h⟩:=h
 refine⟨B,H₀,Hs,env,sr,(aA.bind h).imp (λp hp v Oc H' g r=>?_) λe he=>he.grow sr.gr⟩
 exact k B H₀ Oc H' env p v (sr.grow g) r hp
theorem SR.set{B H₀ Hs H:Hp}{σ:St}{env:af}{p:PV}{v:V}{i:Nat}(r:SR B H₀ Hs H σ env)(h:Rep Hs p v):SR B H₀ Hs H (σ.set i (some v)) (env.set i (some (.sh p))) where
 gr:=r.gr
 len:=by rw[List.length_set,List.length_set];exact r.len
 sh:=λj q e=>by
  rw[List.getElem?_set] at e ⊢
  by_cases z:i=j
  ·subst z
   rw[if_pos rfl] at e ⊢
   split at e
   ·cases e
    rw[if_pos (by rw[r.len];assumption)]
    exact⟨v,rfl,h⟩
   ·cases e
  ·rw[if_neg z] at e ⊢
   exact r.sh j q e
 ow:=λj xs e=>by
  rw[List.getElem?_set] at e ⊢
  by_cases z:i=j
  ·subst z
   rw[if_pos rfl] at e
   split at e <;> cases e
  ·rw[if_neg z] at e ⊢
   exact r.ow j xs e
 sep:=λj k xs ys a n e1 e2 e3 e4=>by
  rw[List.getElem?_set] at e1 e2 e3 e4
  by_cases z:i=j
  ·subst z
   rw[if_pos rfl] at e1
   split at e1 <;> cases e1
  ·by_cases z2:i=k
   ·subst z2
    rw[if_pos rfl] at e2
    split at e2 <;> cases e2
   ·rw[if_neg z] at e1 e3
    rw[if_neg z2] at e2 e4
    exact r.sep j k xs ys a n e1 e2 e3 e4
 bd:=λj a C fs e=>by
  rw[List.getElem?_set] at e ⊢
  by_cases z:i=j
  ·subst z
   rw[if_pos rfl] at e
   split at e <;> cases e
  ·rw[if_neg z] at e ⊢
   exact r.bd j a C fs e
 one:=λj k a b C D fs gs e1 e2=>by
  rw[List.getElem?_set] at e1 e2
  by_cases z:i=j
  ·subst z
   rw[if_pos rfl] at e1
   split at e1 <;> cases e1
  ·by_cases z2:i=k
   ·subst z2
    rw[if_pos rfl] at e2
    split at e2 <;> cases e2
   ·rw[if_neg z] at e1
    rw[if_neg z2] at e2
    exact r.one j k _ _ C D fs gs e1 e2
theorem SR.own{B H₀ Hs H:Hp}{σ:St}{env:af}{xs:List PV}{vs:List V}{i:Nat}{p:Addr}(r:SR B H₀ Hs H σ env)(h:aM Hs xs vs)(n:H p=none):SR B H₀ Hs (upd H p (.lst vs)) (σ.set i (some (.ref p))) (env.set i (some (.ow xs))):=by
 have ne:∀ c u,H c=some u->c≠p:=λc u e z=>by rw[z,n] at e;cases e
 have hs:Hs p=none:=by
  cases q:Hs p with
  | none=>rfl
  | some o=>have:=r.gr.sub _ _ q;rw[n] at this;cases this
 have h0:H₀ p=none:=by
  cases q:H₀ p with
  | none=>rfl
  | some o=>have:=r.gr.al _ _ q;rw[n] at this;cases this
 refine⟨⟨r.gr.st,λc u e=>by rw[ax (ne c u (r.gr.al c u e))];exact r.gr.al c u e,λc u e=>by rw[ax (ne c u (r.gr.sub c u e))];exact r.gr.sub c u e,r.gr.nw⟩,by rw[List.length_set,List.length_set];exact r.len,λj q e=>?_,λj ys e=>?_,λj k ys zs a nj e1 e2 e3 e4=>?_,λj ba C fs e=>?_,λj k _ _ C D fs gs e1 e2=>?_⟩
 ·rw[List.getElem?_set] at e ⊢
  by_cases z:i=j
  ·subst z
   rw[if_pos rfl] at e
   split at e <;> cases e
  ·rw[if_neg z] at e ⊢
   exact r.sh j q e
 ·rw[List.getElem?_set] at e ⊢
  by_cases z:i=j
  ·subst z
   rw[if_pos rfl] at e ⊢
   split at e
   ·cases e
    rw[if_pos (by rw[r.len];assumption)]
    exact⟨p,vs,rfl,aE,hs,h0,h⟩
   ·cases e
  ·rw[if_neg z] at e ⊢
   obtain⟨a,us,h1,h2,h3,h4,h5⟩:=r.ow j ys e
   exact⟨a,us,h1,by rw[ax (ne a _ h2)];exact h2,h3,h4,h5⟩
 ·rw[List.getElem?_set] at e1 e2 e3 e4
  by_cases z:i=j
  ·subst z
   rw[if_pos rfl] at e3
   split at e3
   ·cases e3
    rw[if_neg nj] at e2 e4
    obtain⟨a',us,h1,h2,_⟩:=r.ow k zs e2
    rw[e4] at h1;cases h1
    rw[n] at h2;cases h2
   ·cases e3
  ·rw[if_neg z] at e1 e3
   by_cases z2:i=k
   ·subst z2
    rw[if_pos rfl] at e4
    split at e4
    ·cases e4
     obtain⟨a',us,h1,h2,_⟩:=r.ow j ys e1
     rw[e3] at h1;cases h1
     rw[n] at h2;cases h2
    ·cases e4
   ·rw[if_neg z2] at e2 e4
    exact r.sep j k ys zs a nj e1 e2 e3 e4
 ·rw[List.getElem?_set] at e ⊢
  by_cases z:i=j
  ·subst z
   rw[if_pos rfl] at e
   split at e <;> cases e
  ·rw[if_neg z] at e ⊢
   obtain⟨dx,us,h1,h2,h3,h4,h5⟩:=r.bd j ba C fs e
   exact⟨dx,us,h1,by rw[ax (ne ba _ h2)];exact h2,h3,h4,h5⟩
 ·rw[List.getElem?_set] at e1 e2
  by_cases z:i=j
  ·subst z
   rw[if_pos rfl] at e1
   split at e1 <;> cases e1
  ·by_cases z2:i=k
   ·subst z2
    rw[if_pos rfl] at e2
    split at e2 <;> cases e2
   ·rw[if_neg z] at e1
    rw[if_neg z2] at e2
    exact r.one j k _ _ C D fs gs e1 e2
def uK(i:Nat)(env:af):af:=match env[i]? with
 | some (some (.ow xs))=>env.set i (some (.sh (.lst xs)))
 | _=>env
theorem SR.sE{B H₀ Hs H:Hp}{σ:St}{env:af}(i:Nat)(r:SR B H₀ Hs H σ env):∃ Oc,SR B H₀ Oc H σ (uK i env)/\bj Hs Oc:=by
 unfold uK
 split
 ·rename_i xs e
  obtain⟨a,vs,h1,h2,h3,h4,h5⟩:=r.ow i xs e
  have ne:∀ c u,Hs c=some u->c≠a:=λc u q z=>by rw[z,h3] at q;cases q
  have Oz:bj Hs (upd Hs a (.lst vs)):=λc u q=>by rw[ax (ne c u q)];exact q
  refine⟨upd Hs a (.lst vs),⟨⟨λc u q=>Oz c u (r.gr.st c u q),r.gr.al,λc u q=>?_,λc u q1 q2=>?_⟩,by rw[List.length_set];exact r.len,λj q ej=>?_,λj ys ej=>?_,λj k ys zs b nj e1 e2 e3 e4=>?_,λj ba C fs ej=>?_,λj k _ _ C D fs gs e1 e2=>?_⟩,Oz⟩
  ·by_cases z:c=a
   ·subst z;rw[aE] at q;cases q;exact h2
   ·rw[ax z] at q;exact r.gr.sub c u q
  ·have z:c≠a:=λz=>by rw[z,h4] at q2;cases q2
   rw[ax z];exact r.gr.nw c u q1 q2
  ·rw[List.getElem?_set] at ej
   by_cases z:i=j
   ·subst z
    rw[if_pos rfl] at ej
    split at ej
    ·cases ej
     exact⟨.ref a,h1,.lst aE (h5.mono Oz)⟩
    ·cases ej
   ·rw[if_neg z] at ej
    obtain⟨v,q1,q2⟩:=r.sh j q ej
    exact⟨v,q1,q2.mono Oz⟩
  ·rw[List.getElem?_set] at ej
   by_cases z:i=j
   ·subst z
    rw[if_pos rfl] at ej
    split at ej <;> cases ej
   ·rw[if_neg z] at ej
    obtain⟨b,us,q1,q2,q3,q4,q5⟩:=r.ow j ys ej
    have nb:b≠a:=λw=>by subst w;exact r.sep i j xs ys b z e ej h1 q1
    exact⟨b,us,q1,q2,by rw[ax nb];exact q3,q4,q5.mono Oz⟩
  ·rw[List.getElem?_set] at e1 e2
   by_cases z:i=j
   ·subst z
    rw[if_pos rfl] at e1
    split at e1 <;> cases e1
   ·by_cases z2:i=k
    ·subst z2
     rw[if_pos rfl] at e2
     split at e2 <;> cases e2
    ·rw[if_neg z] at e1
     rw[if_neg z2] at e2
     exact r.sep j k ys zs b nj e1 e2 e3 e4
  ·rw[List.getElem?_set] at ej
   by_cases z:i=j
   ·subst z
    rw[if_pos rfl] at ej
    split at ej <;> cases ej
   ·rw[if_neg z] at ej
    obtain⟨dx,us,q1,q2,q3,q4,q5⟩:=r.bd j ba C fs ej
    have nb:ba≠a:=λw=>by subst w;rw[h2] at q2;cases q2
    exact⟨dx,us,q1,q2,by rw[ax nb];exact q3,q4,q5.mono Oz⟩
  ·rw[List.getElem?_set] at e1 e2
   by_cases z:i=j
   ·subst z
    rw[if_pos rfl] at e1
    split at e1 <;> cases e1
   ·by_cases z2:i=k
    ·subst z2
     rw[if_pos rfl] at e2
     split at e2 <;> cases e2
    ·rw[if_neg z] at e1
     rw[if_neg z2] at e2
     exact r.one j k _ _ C D fs gs e1 e2
 ·exact⟨Hs,r,λ_ _ q=>q⟩
def pW(is:List Nat)(f:af->M Out):af->M Out:=λenv=>f (is.foldl (λe i=>uK i e) env)
theorem SR.mz{B H₀ H:Hp}{σ:St}:∀ {is:List Nat} {Hs:Hp} {env:af},SR B H₀ Hs H σ env->∃ Oc,SR B H₀ Oc H σ (is.foldl (λe i=>uK i e) env)/\bj Hs Oc
 | [],Hs,_,r=>⟨Hs,r,λ_ _ q=>q⟩
 | i::is,_,_,r=>by
  obtain⟨Oj,r1,s1⟩:=r.sE i
  obtain⟨Ol,r2,s2⟩:=SR.mz (is:=is) r1
  exact⟨Ol,r2,λc u q=>s2 c u (s1 c u q)⟩
section
variable{X:Cx}{E:XK}{e:Expr}{pos pos':Pos}{f:af->M PV}{st:Stmt}{sts rest:List Stmt}{u:af->M Bool}{g h:af->M Out}{i:Nat}{x:Str}
theorem Hg(is:List Nat)(hs:PS X st (tS E g)):PS X st (tS E (pW is g)):=hs.imp λD σ H q=>by
 obtain⟨B,H₀,Hs,env,sr,q⟩:=q
 obtain⟨Oc,r,_⟩:=sr.mz (is:=is)
 exact⟨B,H₀,Oc,_,r,q⟩
theorem Fm:mH X [] (tS E ar):=zx.imp λD σ H q=>by
 obtain⟨B,H₀,Hs,env,sr,q⟩:=q
 exact q σ Hs H sr
theorem CD(h1:PS X st (tS E g))(h2:mH X rest (tS E h)):mH X (st::rest) (tS E (aq g h)):=by
 refine(xp h1 h2).imp λD σ H q=>?_
 obtain⟨B,H₀,Hs,env,sr,q⟩:=q
 refine⟨B,H₀,Hs,env,sr,(aA.bind q).imp (λo ho=>?_) λe he=>he⟩
 cases o with
 | nx N_=>exact fun σ' Oc H' P9=>⟨B,H₀,Oc,N_,P9,ho⟩
 | rt p=>exact ho
 | bk N_=>exact ho
 | ct N_=>exact ho
def aY(i:Nat)(f:af->M PV):af->M Out:=λenv=>(f env).bind λp=>M.ok (.nx (env.set i (some (.sh p))))
theorem IE{pos':Pos}(hN:X.N.Nodup)(hi:X.N[i]?=some x)(hx:Loc X.env.scope x)(he:PE X e (tE (λ_=>E) f))(hs:swapsWith e (some (.Name x pos')) pos.line X.env=pure false:=by rfl)(hf:X.fn x=true\/X.env.scope.names.lookup x=some .local:=by first | exact .inl rfl | exact .inr rfl | assumption) :
  PS X (.Assign [.Name x pos'] e pos) (tS E (aY i f)) :=
 (BM hN hi hx he hs hf).imp λD σ H q=>k_ q λB H₀ Hs H1 env p v sr rp hp=>hp _ Hs H1 (sr.set rp)
def retS(f:af->M PV):af->M Out:=λenv=>(f env).bind λp=>M.ok (.rt p)
theorem Ho(he:PE X e (tE (λ_=>E) f)):PS X (.Return (some e) pos) (tS E (retS f)) :=
 (G_ he).imp λD σ H q=>k_ q λB H₀ Hs H1 env p v sr rp hp=>hp v Hs H1 sr.gr rp
def gL(f:af->M PV):af->M Out:=λenv=>(f env).bind λ_=>M.ok (.nx env)
theorem EC(he:PE X e (tE (λ_=>E) f))(hs:swapsWith e none pos.line X.env=pure false:=by rfl):PS X (.Expr e pos) (tS E (gL f)) :=
 (ur he hs).imp λD σ H q=>k_ q λB H₀ Hs H1 env p v sr rp hp=>hp σ Hs H1 sr
def iq(u:af->M Bool)(g h:af->M Out):af->M Out:=λenv=>(u env).bind λb=>if b=true then g env else h env
theorem LB{c:Expr}{a b:List Stmt}(hc:PT X c (tT (λ_=>E) u))(ha:mH X a (tS E g))(hb:mH X b (tS E h)):PS X (.If c a b pos) (tS E (iq u g h)):=by
 refine(J6 hc ha hb).imp λD σ H q=>C7 q λB H₀ Hs H1 env p sr hp=>?_
 cases p with
 | true=>exact⟨B,H₀,Hs,env,sr,hp⟩
 | false=>exact⟨B,H₀,Hs,env,sr,hp⟩
end
end L2
namespace L2
open PySem PySem.Spec PyProof.Rows
def ov(Hs H₀:Hp):Hp:=λa=>match Hs a with
 | some o=>some o
 | none=>H₀ a
theorem p9{Hs H₀:Hp}{a:Addr}{o:HO}(h:Hs a=some o):ov Hs H₀ a=some o:=by unfold ov;rw[h]
theorem j7{Hs H₀:Hp}{a:Addr}(h:Hs a=none):ov Hs H₀ a=H₀ a:=by unfold ov;rw[h]
theorem FV{Hs H₀ H:Hp}(s:bj Hs H)(t:bj H₀ H):bj (ov Hs H₀) H:=λa o e=>by
 cases q:Hs a with
 | some o'=>rw[p9 q] at e;cases e;exact s _ _ q
 | none=>rw[j7 q] at e;exact t _ _ e
theorem SR.rebase{B H₀ Hs H:Hp}{σ:St}{env:af}(r:SR B H₀ Hs H σ env):SR Hs (ov Hs H₀) Hs H σ env where
 gr:=⟨λ_ _ e=>e,FV r.gr.sub r.gr.al,r.gr.sub,λ_ _ e _=>e⟩
 len:=r.len
 sh:=r.sh
 ow:=λi xs e=>let ⟨a,vs,h1,h2,h3,h4,h5⟩:=r.ow i xs e;⟨a,vs,h1,h2,h3,by rw[j7 h3];exact h4,h5⟩
 sep:=r.sep
 bd:=λi a C fs e=>let ⟨dx,vs,h1,h2,h3,h4,h5⟩:=r.bd i a C fs e;⟨dx,vs,h1,h2,h3,by rw[j7 h3];exact h4,h5⟩
 one:=r.one
theorem bL.mI{B H₀ Hs H Ol H2:Hp}(g:bL B H₀ Hs H)(g2:bL Hs (ov Hs H₀) Ol H2):bL B H₀ Ol H2 where
 st:=λa o e=>g2.st a o (g.st a o e)
 al:=λa o e=>by
  cases q:Hs a with
  | some o' =>
   have h1:=g.sub a o' q
   have h2:=g.al a o e
   rw[h1] at h2;cases h2
   exact g2.al a _ (p9 q)
  | none=>exact g2.al a o (by rw[j7 q];exact e)
 sub:=g2.sub
 nw:=λa o e q=>by
  have h1:=g.nw a o e q
  exact g2.nw a o h1 (by rw[j7 h1];exact q)
theorem SR.mI{B H₀ Hs H Ol H2:Hp}{σ:St}{env:af}(g:bL B H₀ Hs H)(r:SR Hs (ov Hs H₀) Ol H2 σ env):SR B H₀ Ol H2 σ env where
 gr:=g.mI r.gr
 len:=r.len
 sh:=r.sh
 ow:=λi xs e=>by
  obtain⟨a,vs,h1,h2,h3,h4,h5⟩:=r.ow i xs e
  refine⟨a,vs,h1,h2,h3,?_,h5⟩
  cases q:Hs a with
  | some o=>rw[p9 q] at h4;cases h4
  | none=>rw[j7 q] at h4;exact h4
 sep:=r.sep
 bd:=λi a C fs e=>by
  obtain⟨dx,vs,h1,h2,h3,h4,h5⟩:=r.bd i a C fs e
  refine⟨dx,vs,h1,h2,h3,?_,h5⟩
  cases q:Hs a with
  | some o=>rw[p9 q] at h4;cases h4
  | none=>rw[j7 q] at h4;exact h4
 one:=r.one
theorem XW.rebase{E:XK}{B H₀ Hs H:Hp}(g:bL B H₀ Hs H){x:EX}(h:XW E B H₀ x):XW E Hs (ov Hs H₀) x:=λea Ol H2 r q=>h ea Ol H2 (g.mI r) q
def K9(k:af->M Out):Out->M Out
 | .nx env=>k env
 | .ct env=>k env
 | .bk env=>M.ok (.nx env)
 | .rt p=>M.ok (.rt p)
def jA(set:PV->af->M af)(body:af->M Out):List PV->af->M Out
 | [],env=>M.ok (.nx env)
 | x::xs,env=>(set x env).bind λN_=>(body N_).bind (K9 (jA set body xs))
def GR(E:XK)(g:TG)(set:PV->af->M af):Prop:=∀ (B H₀ Hs H:Hp) (σ:St) (env:af) (p:PV) (v:V) (Q:St->Hp->Prop) (Z:EX->Prop),SR B H₀ Hs H σ env->Rep Hs p v->aA (set p env) (λN_=>∀ σ',SR B H₀ Hs H σ' N_->Q σ' H) Z->g v σ H Q
def cj(i:Nat)(p:PV)(env:af):M af:=M.ok (env.set i (some (.sh p)))
theorem bp{E:XK}{i:Nat}:GR E (aH i) (cj i):=λB H₀ Hs H σ env p v Q Z sr r h=>h _ (sr.set r)
def bx(i j:Nat):PV->af->M af
 | .tup [p,q],env=>M.ok ((env.set i (some (.sh p))).set j (some (.sh q)))
 | _,_=>none
theorem cx{E:XK}{K:PySem.W.Frag}{i j:Nat}:GR E (iU K 2 (bc (aH i) (bc (aH j) iT))) (bx i j):=by
 intro B H₀ Hs H σ env p v Q Z sr r h
 cases r with
 | @tup a xs vs ha hx =>
  match xs,hx with
  | [p,q],hx =>
   obtain⟨v,u,rfl,rp,rq⟩:=hx.two
   exact⟨a,[v,u],rfl,iF.of (sr.gr.sub _ _ ha),rfl,v,[u],rfl,u,[],rfl,rfl,h _ ((sr.set rp).set rq)⟩
  | [],_=>exact h.elim
  | [_],_=>exact h.elim
  | _::_::_::_,_=>exact h.elim
 | _=>exact h.elim
section
variable{E:XK}{g:TG}{set:PV->af->M af}{body:af->M Out}{D:Ends}{B H₀ Oj:Hp}{xs:List PV}
def Jv(E:XK)(set:PV->af->M af)(body:af->M Out)(D:Ends)(B H₀ Oj:Hp)(xs:List PV)(i:Nat)(σ:St)(H:Hp):Prop:=∃ Hs env,SR B H₀ Hs H σ env/\bj Oj Hs/\aA (jA set body (xs.drop i) env) (KS D B H₀) (XW E B H₀)
theorem Jv.done{n:Nat}{σ:St}{H:Hp}(j:Jv E set body D B H₀ Oj xs n σ H)(hn:xs.length<=n):D.nx σ H:=by
 obtain⟨Hs,env,sr,_,h⟩:=j
 rw[List.drop_eq_nil_of_le hn] at h
 exact h σ Hs H sr
theorem Jv.turn{i:Nat}{σ:St}{H H1 Hx:Hp}{x:PV}{v:V}(tg:GR E g set)(hx:xs[i]?=some x){Hs:Hp}{env:af}(sr:SR B H₀ Hs H σ env)(s1:bj Oj Hs)(h:aA (jA set body (xs.drop i) env) (KS D B H₀) (XW E B H₀)){Ol H2:Hp}(gr:bL Hs H Ol H2)(rv:Rep Ol x v) :
  g v σ H2 fun σ2 H3=>tS E body { D with nx:=Jv E set body D B H₀ Oj xs (i+1),ct:=Jv E set body D B H₀ Oj xs (i+1),bk:=D.nx } σ2 H3:=by
 have Pz:i<xs.length:=(List.getElem?_eq_some_iff.mp hx).1
 have hd:xs.drop i=x::xs.drop (i+1):=by
  rw[List.drop_eq_getElem_cons Pz]
  rw[List.getElem?_eq_getElem Pz] at hx
  rw[Option.some.inj hx]
 rw[hd] at h
 have OU:=sr.grow gr
 refine tg B H₀ Ol H2 σ env x v _ _ OU rv ((aA.bind h).imp (λN_ h' σ' P9=>?_) λ_ z=>z)
 refine⟨Ol,ov Ol H₀,Ol,N_,P9.rebase,(aA.bind h').imp (λo ho=>?_) λe he=>he.rebase P9.gr⟩
 cases o with
 | nx e2=>exact fun σ3 Qa H3 r=>⟨Qa,e2,r.mI P9.gr,λa o z=>r.gr.st a o (gr.st a o (s1 a o z)),ho⟩
 | ct e2=>exact fun σ3 Qa H3 r=>⟨Qa,e2,r.mI P9.gr,λa o z=>r.gr.st a o (gr.st a o (s1 a o z)),ho⟩
 | bk e2=>exact fun σ3 Qa H3 r=>ho σ3 Qa H3 (r.mI P9.gr)
 | rt p=>exact λv3 Qa H3 r q=>ho v3 Qa H3 (P9.gr.mI r) q
end
def gG(it:af->M (List PV))(set:PV->af->M af)(body:af->M Out):af->M Out:=λenv=>(it env).bind λxs=>jA set body xs env
def itemsOf(f:af->M PV):af->M (List PV):=λenv=>(f env).bind λp=>match bR p with | some xs=>M.ok xs | none=>none
theorem lV{K:PySem.W.Frag}{Hs H:Hp}{p:PV}{v:V}{xs:List PV}(s:bj Hs H)(r:Rep Hs p v)(e:bR p=some xs):∃ b a vs,v=.ref a/\(∀ Oc H',bj Hs Oc->bj Oc H'->lZ K H' b a vs)/\aM Hs xs vs:=by
 cases r with
 | tup h r=>cases e;exact⟨false,_,_,rfl,λOc H' s1 s2=>iF.of (s2 _ _ (s1 _ _ h)),r⟩
 | lst h r=>cases e;exact⟨true,_,_,rfl,λOc H' s1 s2=>iS.of (s2 _ _ (s1 _ _ h)),r⟩
 | kH h r=>cases e;exact⟨true,_,_,rfl,λOc H' s1 s2=>.inl (.inr ⟨_,s2 _ _ (s1 _ _ h)⟩),r⟩
 | _=>cases e
section
variable{X:Cx}{E:XK}{tg iter:Expr}{pos p:Pos}{f f2:af->M PV}{g:TG}{set:PV->af->M af}{body:af->M Out}{bd:List Stmt}
end
end L2
namespace L2
open PySem PySem.Spec PyProof.Rows
def Nm:PV->M (List PV)
 | .int n=>cD (-(2^62)<=n/\n<2^62) (M.ok ((List.range n.toNat).map λ(i:Nat)=>.int (0+(i:Int))))
 | _=>none
def L8:PV->PV->M (List PV)
 | .int a,.int b=>cD (-(2^62)<=a/\a<2^62/\-(2^62)<=b/\b<2^62) (M.ok ((List.range (b-a).toNat).map λ(i:Nat)=>.int (a+(i:Int))))
 | _,_=>none
def qi:List PV->M (List PV)
 | [p]=>Nm p
 | _=>none
def zX:List PV->M (List PV)
 | [p,q]=>L8 p q
 | _=>none
theorem As{ps:List PV}{α:Type}{k:List PV->M α}{Q:α->Prop}{Z:EX->Prop}(h:aA ((qi ps).bind k) Q Z):∃ n:Int,ps=[.int n]/\-(2^62)<=n/\n<2^62/\aA (k ((List.range n.toNat).map λ(i:Nat)=>.int (0+(i:Int)))) Q Z:=by
 match ps with
 | []=>exact h.elim
 | _::_::_=>exact h.elim
 | [p] =>
  cases p with
  | int n =>
   obtain⟨hc,h⟩:=aA.cD (aA.bind h)
   exact⟨n,rfl,hc.1,hc.2,h⟩
  | _=>exact h.elim
theorem Ay{ps:List PV}{α:Type}{k:List PV->M α}{Q:α->Prop}{Z:EX->Prop}(h:aA ((zX ps).bind k) Q Z):∃ a b:Int,ps=[.int a,.int b]/\(-(2^62)<=a/\a<2^62/\-(2^62)<=b/\b<2^62)/\aA (k ((List.range (b-a).toNat).map λ(i:Nat)=>.int (a+(i:Int)))) Q Z:=by
 match ps with
 | []=>exact h.elim
 | [_]=>exact h.elim
 | _::_::_::_=>exact h.elim
 | [p,q] =>
  cases p with
  | int a=>cases q with
   | int b =>
    obtain⟨hc,h⟩:=aA.cD (aA.bind h)
    exact⟨a,b,rfl,hc,h⟩
   | _=>exact h.elim
  | _=>exact h.elim
def zip2:List PV->M (List PV)
 | [p,q]=>match bR p,bR q with
  | some xs,some ys=>M.ok (List.zipWith (λa b=>.tup [a,b]) xs ys)
  | _,_=>none
 | _=>none
theorem AL{ps:List PV}{α:Type}{k:List PV->M α}{Q:α->Prop}{Z:EX->Prop}(h:aA ((zip2 ps).bind k) Q Z):∃ p q xs ys,ps=[p,q]/\bR p=some xs/\bR q=some ys/\aA (k (List.zipWith (λa b=>.tup [a,b]) xs ys)) Q Z:=by
 match ps with
 | []=>exact h.elim
 | [_]=>exact h.elim
 | _::_::_::_=>exact h.elim
 | [p,q] =>
  unfold zip2 at h
  dsimp only at h
  cases e1:bR p with
  | none=>rw[e1] at h;exact h.elim
  | some xs =>
   cases e2:bR q with
   | none=>rw[e1,e2] at h;exact h.elim
   | some ys=>rw[e1,e2] at h;exact⟨p,q,xs,ys,rfl,e1,e2,h⟩
theorem z6{n i:Nat}{f:Nat->PV}(h:i<n):((List.range n).map f)[i]?=some (f i):=by
 rw[List.getElem?_map,List.getElem?_range h];rfl
section
variable{X:Cx}{E:XK}{tg a b l l1 l2:Expr}{pos p tp:Pos}{fs:af->M (List PV)}{g:TG}{set:PV->af->M af}{body:af->M Out}{bd:List Stmt}
end
def KO(Q:VK):Hp->Hp->List PV->Prop:=λHs H ps=>∀ vs p Oc H',bL Hs H Oc H'->aM Oc ps vs->H' p=none->Q (.ref p) (upd H' p (.lst vs))
def tO(E:St->XK)(f:af->M (List PV)):TE:=fun σ H Q=>tG E f (KO Q) σ H
section
variable{X:Cx}{E:XK}{e:Expr}{es:List Expr}{pos pos':Pos}{fs:af->M (List PV)}{f:af->M PV}{i:Nat}{x:Str}
def pF(i:Nat)(f:af->M (List PV)):af->M Out:=λenv=>(f env).bind λps=>M.ok (.nx (env.set i (some (.ow ps))))
theorem FH{pos':Pos}(hN:X.N.Nodup)(hi:X.N[i]?=some x)(hx:Loc X.env.scope x)(he:PE X e (tO (λ_=>E) fs))(hs:swapsWith e (some (.Name x pos')) pos.line X.env=pure false:=by rfl)(hf:X.fn x=true\/X.env.scope.names.lookup x=some .local:=by first | exact .inl rfl | exact .inr rfl | assumption) :
  PS X (.Assign [.Name x pos'] e pos) (tS E (pF i fs)):=by
 refine(BM hN hi hx he hs hf).imp λD σ H q=>?_
 obtain⟨B,H₀,Hs,env,sr,q⟩:=q
 refine⟨B,H₀,Hs,env,sr,(aA.bind q).imp (λps hp vs p Oc H' g r n=>?_) λe he=>he.grow sr.gr⟩
 exact hp _ Oc _ ((sr.grow g).own r n)
def ko(fs:af->M (List PV)):af->M (List PV):=λenv=>(fs env).bind λps=>if ps.length<=sizeLine then M.ok ps else none
theorem Jt{E:St->XK}(hr:PA X es (tL E fs)):PE X (.List es pos) (tO E (ko fs)):=by
 refine(C0 hr).imp fun σ H Q q=>?_
 obtain⟨B,H₀,Hs,env,sr,q⟩:=q
 refine⟨B,H₀,Hs,env,sr,(aA.bind q).imp (λps hp vs Oc H' g r=>?_) λe he=>he⟩
 by_cases hz:ps.length<=sizeLine
 ·rw[if_pos hz] at hp
  exact⟨by rw[← r.length];exact hz,λp n=>hp vs p Oc H' g r n⟩
 ·rw[if_neg hz] at hp;exact hp.elim
def jG(i:Nat)(f:af->M PV):af->M Out:=λenv=>match env[i]? with
 | some (some (.ow xs))=>(f env).bind λp=>if xs.length<sizeLine then M.ok (.nx (env.set i (some (.ow (xs++[p]))))) else none
 | _=>none
theorem SR.put{B H₀ Hs H:Hp}{σ:St}{env:af}{i:Nat}{a:Addr}{xs ys:List PV}{us:List V}(r:SR B H₀ Hs H σ env)(e:env[i]?=some (some (.ow xs)))(hi:σ[i]?=some (some (.ref a)))(h:aM Hs ys us):SR B H₀ Hs (upd H a (.lst us)) σ (env.set i (some (.ow ys))):=by
 obtain⟨a',vs,h1,h2,h3,h4,h5⟩:=r.ow i xs e
 rw[hi] at h1;cases h1
 have nS:∀ c u,Hs c=some u->c≠a:=λc u q z=>by rw[z,h3] at q;cases q
 have n0:∀ c u,H₀ c=some u->c≠a:=λc u q z=>by rw[z,h4] at q;cases q
 refine⟨⟨r.gr.st,λc u q=>by rw[ax (n0 c u q)];exact r.gr.al c u q,λc u q=>by rw[ax (nS c u q)];exact r.gr.sub c u q,r.gr.nw⟩,by rw[List.length_set];exact r.len,λj q ej=>?_,λj zs ej=>?_,λj k y1 y2 b nj e1 e2 e3 e4=>?_,λj ba C fs ej=>?_,λj k _ _ C D fs gs e1 e2=>?_⟩
 ·rw[List.getElem?_set] at ej
  by_cases z:i=j
  ·subst z
   rw[if_pos rfl] at ej
   split at ej <;> cases ej
  ·rw[if_neg z] at ej;exact r.sh j q ej
 ·rw[List.getElem?_set] at ej
  by_cases z:i=j
  ·subst z
   rw[if_pos rfl] at ej
   split at ej
   ·cases ej;exact⟨a,us,hi,aE,h3,h4,h⟩
   ·cases ej
  ·rw[if_neg z] at ej
   obtain⟨b,ws,q1,q2,q3,q4,q5⟩:=r.ow j zs ej
   have nb:b≠a:=λw=>by subst w;exact r.sep i j xs zs b z e ej hi q1
   exact⟨b,ws,q1,by rw[ax nb];exact q2,q3,q4,q5⟩
 ·have o1:∃ w,env[j]?=some (some (.ow w)):=by
   rw[List.getElem?_set] at e1
   by_cases z:i=j
   ·subst z;exact⟨xs,e⟩
   ·rw[if_neg z] at e1;exact⟨_,e1⟩
  have o2:∃ w,env[k]?=some (some (.ow w)):=by
   rw[List.getElem?_set] at e2
   by_cases z:i=k
   ·subst z;exact⟨xs,e⟩
   ·rw[if_neg z] at e2;exact⟨_,e2⟩
  obtain⟨w1,o1⟩:=o1
  obtain⟨w2,o2⟩:=o2
  exact r.sep j k w1 w2 b nj o1 o2 e3 e4
 ·rw[List.getElem?_set] at ej
  by_cases z:i=j
  ·subst z
   rw[if_pos rfl] at ej
   split at ej <;> cases ej
  ·rw[if_neg z] at ej
   obtain⟨dx,ws,q1,q2,q3,q4,q5⟩:=r.bd j ba C fs ej
   have nb:ba≠a:=λw=>by subst w;rw[h2] at q2;cases q2
   exact⟨dx,ws,q1,by rw[ax nb];exact q2,q3,q4,q5⟩
 ·rw[List.getElem?_set] at e1 e2
  by_cases z:i=j
  ·subst z
   rw[if_pos rfl] at e1
   split at e1 <;> cases e1
  ·by_cases z2:i=k
   ·subst z2
    rw[if_pos rfl] at e2
    split at e2 <;> cases e2
   ·rw[if_neg z] at e1
    rw[if_neg z2] at e2
    exact r.one j k _ _ C D fs gs e1 e2
theorem Aq{apos Om px:Pos}(hi:X.N[i]?=some x)(hv:Eb X.env.scope x)(he:PE X e (tE (λ_=>E) f))(hd:(x==("__debug__" : Str))=false:=by decide)(Py:(x==("__classdict__" : Str))=false:=by decide)
  (Qf:attributeBase (.Name x px) "append" X.env (eval (.Name x px) X.env)=eval (.Name x px) X.env:=by rfl)
  (QJ:((backTo Om (starEach [e] X.env)).all (λx=>!x.1)&&(backToKw Om (keywordEach [] X.env)).all (λx=>x.1.isSome)
   && decide (([e]:List Expr).length+([]:List Keyword).length+(if ([]:List Keyword).isEmpty then 0 else 1)<30))=true:=by rfl)
  (Qg:(apos.endLine==Om.line)=true:=by rfl) (Oz:starEach [e] X.env=(false,eval e X.env)::starEach [] X.env:=by rfl) (PU:(backTo Om (starEach [] X.env)).any (·.1)=false:=by rfl)
  (hs:swapsWith (.Call (.Attribute (.Name x px) "append" apos) [e] [] Om) none pos.line X.env=pure false:=by rfl) :
  PS X (.Expr (.Call (.Attribute (.Name x px) "append" apos) [e] [] Om) pos) (tS E (jG i f)):=by
 refine(ur (GW PySem.F.plainAttrs_list PySem.F.slot_list_append PySem.F.type_list_append t_ (oj hi hv hd Py) (fq he mC Oz) Qf QJ Qg Oz PU) hs).imp λD σ H q=>?_
 obtain⟨B,H₀,Hs,env,sr,q⟩:=q
 unfold jG at q
 split at q
 ·rename_i xs ex
  obtain⟨a,vs,h1,h2,h3,h4,h5⟩:=sr.ow i xs ex
  refine⟨.ref a,h1,.inl ⟨rfl,vs,iS.of h2⟩,B,H₀,Hs,env,sr,(aA.bind q).imp (λp hp v Oc H' g r=>?_) λe he=>he.grow sr.gr⟩
  by_cases hz:xs.length<sizeLine
  ·rw[if_pos hz] at hp
   have P9:=sr.grow g
   have r5:aM Oc (xs++[p]) (vs++[v]):=(h5.mono g.st).snoc r
   exact⟨a,vs,v,rfl,rfl,g.al _ _ h2,by rw[← h5.length];exact hz,hp σ Oc _ (P9.put ex h1 r5)⟩
  ·rw[if_neg hz] at hp;exact hp.elim
 ·exact q.elim
end
end L2
namespace L2
open PySem PySem.Spec PyProof.Rows
def Hi:Out->M PV
 | .rt p=>M.ok p
 | .nx _=>M.ok .b_
 | _=>none
def mL(m:Nat)(ps:List PV):af:=ps.map (λp=>some (.sh p))++List.replicate (m-ps.length) none
def ay(m:Nat)(g:af->M Out)(ps:List PV):M PV:=(g (mL m ps)).bind Hi
theorem SR.start{Hs H:Hp}{N:List Str}{ps:List PV}{vs:List V}(s:bj Hs H)(r:aM Hs ps vs):SR Hs H Hs H (start N vs) (mL N.length ps) where
 gr:=.refl s
 len:=by unfold L2.start mL;simp[r.length]
 sh:=λi p e=>by
  unfold mL at e
  unfold L2.start
  by_cases hi:i<ps.length
  ·rw[List.getElem?_append_left (by simpa using hi),List.getElem?_map,List.getElem?_eq_getElem hi] at e
   cases e
   obtain⟨v,h1,h2⟩:=r.get (List.getElem?_eq_getElem hi)
   exact⟨v,by rw[List.getElem?_append_left (by simpa using (r.length▸hi)),List.getElem?_map,h1];rfl,h2⟩
  ·rw[List.getElem?_append_right (by simpa using hi),List.getElem?_replicate] at e
   split at e <;> cases e
 ow:=λi xs e=>by
  unfold mL at e
  by_cases hi:i<ps.length
  ·rw[List.getElem?_append_left (by simpa using hi),List.getElem?_map,List.getElem?_eq_getElem hi] at e
   cases e
  ·rw[List.getElem?_append_right (by simpa using hi),List.getElem?_replicate] at e
   split at e <;> cases e
 sep:=λi j xs ys a _ e=>by
  unfold mL at e
  by_cases hi:i<ps.length
  ·rw[List.getElem?_append_left (by simpa using hi),List.getElem?_map,List.getElem?_eq_getElem hi] at e
   cases e
  ·rw[List.getElem?_append_right (by simpa using hi),List.getElem?_replicate] at e
   split at e <;> cases e
 bd:=λi a C fs e=>by
  unfold mL at e
  by_cases hi:i<ps.length
  ·rw[List.getElem?_append_left (by simpa using hi),List.getElem?_map,List.getElem?_eq_getElem hi] at e
   cases e
  ·rw[List.getElem?_append_right (by simpa using hi),List.getElem?_replicate] at e
   split at e <;> cases e
 one:=λi j a b C D fs gs e=>by
  unfold mL at e
  by_cases hi:i<ps.length
  ·rw[List.getElem?_append_left (by simpa using hi),List.getElem?_map,List.getElem?_eq_getElem hi] at e
   cases e
  ·rw[List.getElem?_append_right (by simpa using hi),List.getElem?_replicate] at e
   split at e <;> cases e
theorem JF{P:Program}{w:World}{K:PySem.W.Frag}{mg:Str->Option Value}{base:Heap}{k:Nat}{f:Addr}{name qual:Str}{params:Arguments}{body:List Stmt}{scope:Scope}{dV kV doc pm OA ct oc:Value}{an od:Option Addr}
  {Qx:Array (Option Value)} {N ps:List Str} {g:af->M Out} (lk:K.lookup f=some ⟨oc,od,.func (PySem.W.fnOf name qual params body scope dV kV doc pm an OA ct),Qx⟩) (Py:PySem.W.codeIn K OA qual=true) (S:aw N ps scope)
  (hb:∀ (A:Around) (outer:List Env) (s:Shared) (H:Hp) (E:XK),bX k (A.deeper (envOfC qual scope s.heap.objs.size f OA))->mH ((pU (bH P w) P w K mg base N qual scope f OA A outer s H E).out λ_=>E) body (tS E g)) :
  aI P w K mg base (bH P w) (k+1) f (PySem.W.fnOf name qual params body scope dV kV doc pm an OA ct) ps (c7 ps.length (ay N.length g)):=by
 refine xT lk Py S (λvs H Q E h=>h.1) λA outer s H vs Q E hr hs=>⟨_,hb A outer s H E hr,?_⟩
 obtain⟨_,Hs,PL,sm,r,h⟩:=hs
 refine⟨Hs,H,Hs,_,SR.start sm r,(aA.bind h).imp (λo ho=>?_) λe he=>he⟩
 cases o with
 | rt p=>exact λv Oc H' gr rv=>ho v Oc H' gr rv
 | nx env=>exact fun σ Oc H' sr=>ho .b_ Oc H' sr.gr .b_
 | bk env=>exact ho.elim
 | ct env=>exact ho.elim
section
variable{X:Cx}{E:XK}{e:Expr}{es:List Expr}{pos p Om:Pos}{x:Str}{C f:Addr}{k:Nat}{fd:FuncData}{ps:List Str}{fs:af->M (List PV)}
def kU(C:Addr)(fs:af->M (List PV)):af->M Out:=λenv=>(fs env).bind λps=>cD (ps.length<=sizeLine) (some (.error (C,none)))
theorem zW(O:e9 X λ_=>E)(Oq:X.calm=true)(hc:PySem.W.excIn X.K C fS "ValueError.__new__" = true)(c:h_ X.K C)(ht:PySem.W.typeIn X.K (.ref C)=some (.type "type"))(kp:PySem.W.keepIn X.K (.ref C)=true)(hg:Gl X x)(hm:X.mg x=some (.ref C))(ha:PA X (e::es) (tL (λ_=>E) fs))
  (Ph:(x==("__debug__" : Str))=false:=by decide) (he:starEach (e::es) X.env=(false,eval e X.env)::starEach es X.env:=by rfl) (OB:(backTo Om (starEach es X.env)).any (·.1)=false:=by rfl) :
  PS X (.Raise (some (.Call (.Name x p) (e::es) [] Om)) none pos) (tS E (kU C fs)):=by
 refine(w_ O Oq (EV hc kp hg hm ha Ph he OB)).imp λD σ H q=>qD q λB H₀ Hs H1 env PL v sr rp hp=>?_
 obtain⟨hz,hp⟩:=aA.cD hp
 refine⟨by rw[← rp.length];exact hz,λa n=>⟨a,C,none,rfl,aE,c,ht,?_⟩⟩
 rw[zR]
 exact hp a (upd Hs a (iR C none a)) _ (sr.gr.trans (bL.new sr.gr.sub n)) (.xU aE)
def AI(K:PySem.W.Frag)(C:Addr)(fl:Str):Sp:=λvs H Q _=>∃ a y,vs=[.ref a,y]/\H a=some (lX C none a)/\∀ d,H d=none->d≠a->Q .b_ (upd (upd H d (.xd [(fl,y)])) a (lX C (some d) a))
def jX(C:Addr)(fl:Str)(fs:af->M (List PV)):af->M Out:=λenv=>(fs env).bind λps=>match ps with
 | [p]=>some (.error (C,some [(fl,p)]))
 | _=>none
theorem AY{fl:Str}(O:e9 X λ_=>E)(Oq:X.calm=true)(hc:rh X.K C "ValueError.__new__" f=true)(hf:PySem.W.isFn X.K (.ref f)=true)(c:h_ X.K C)(ht:PySem.W.typeIn X.K (.ref C)=some (.type "type"))(kp:PySem.W.keepIn X.K (.ref C)=true)(F:aI X.prog X.w X.K X.mg X.base (bH X.prog X.w) k f fd ps (AI X.K C fl))(hr:bX (k+1) X.A)(hb:Binds X.K fd ps [])
  (hg:Gl X x) (hm:X.mg x=some (.ref C)) (ha:PA X [e] (tL (λ_=>E) fs))
  (Ph:(x==("__debug__" : Str))=false:=by decide) (he:starEach [e] X.env=(false,eval e X.env)::starEach [] X.env:=by rfl) (OB:(backTo Om (starEach [] X.env)).any (·.1)=false:=by rfl) :
  PS X (.Raise (some (.Call (.Name x p) [e] [] Om)) none pos) (tS E (jX C fl fs)):=by
 refine(w_ O Oq (DQ hc hf kp F hr hb hg hm ha Ph he OB)).imp λD σ H q=>qD q λB H₀ Hs H1 env PL v sr rp hp=>?_
 match PL,rp,hp with
 | [],_,hp=>exact hp.elim
 | _::_::_,_,hp=>exact hp.elim
 | [y],rp,hp =>
  obtain⟨v,rfl,ry⟩:=rp.one
  refine⟨by show 1<=sizeLine;decide,λa n=>⟨a,v,rfl,aE,λd hd hda=>⟨rfl,a,C,some d,rfl,aE,c,ht,?_⟩⟩⟩
  rw[zR]
  have hd1:H1 d=none:=by rw[ax hda] at hd;exact hd
  have g1:=bL.new (o:=.xd [(fl,v)]) sr.gr.sub hd1
  have Q5:upd H1 d (.xd [(fl,v)]) a=none:=by rw[ax (Ne.symm hda)];exact n
  have g2:=bL.new (o:=iR C (some d) a) g1.sub Q5
  have hH:upd (upd (upd H1 a (lX C none a)) d (.xd [(fl,v)])) a (iR C (some d) a)=upd (upd H1 d (.xd [(fl,v)])) a (iR C (some d) a):=by
   funext b
   by_cases z:b=a
   ·subst z;rw[aE,aE]
   ·rw[ax z,ax z]
    by_cases z2:b=d
    ·subst z2;rw[aE,aE]
    ·rw[ax z2,ax z2,ax z]
  rw[hH]
  refine hp a (upd (upd Hs d (.xd [(fl,v)])) a (iR C (some d) a)) _ ((sr.gr.trans g1).trans g2) ?_
  exact .yj aE (by rw[ax hda];exact aE) (.cons ((ry.mono g1.st).mono g2.st) .nil)
theorem rQ{P:Program}{w:World}{K:PySem.W.Frag}{mg:Str->Option Value}{base:Heap}{f:Addr}{name qual:Str}{params:Arguments}{scope:Scope}{dV kV doc pm OA ct oc:Value}{an od:Option Addr}
  {Qx:Array (Option Value)} {n0 n1 fl:Str} {p0 p1 p2 p3:Pos} (lk:K.lookup f=some ⟨oc,od,.func (PySem.W.fnOf name qual params [.Assign [.Attribute (.Name n0 p0) fl p1] (.Name n1 p2) p3] scope dV kV doc pm an OA ct),Qx⟩) (Py:PySem.W.codeIn K OA qual=true) (S:aw [n0,n1] [n0,n1] scope)
  (c:h_ K C) (ho:((PySem.W.clsIn K C).any λcd=>gT cd.mro)=true) (na:bF K C fl) (v0:Eb scope n0) (v1:Eb scope n1) (d0:(n0==("__debug__" : Str))=false) (d1:(n1==("__debug__" : Str))=false) (c0:(n0==("__classdict__" : Str))=false) (c1:(n1==("__classdict__" : Str))=false)
  (hs:∀ env,swapsWith (.Name n1 p2) (some (.Attribute (.Name n0 p0) fl p1)) p3.line env=pure false) :
  aI P w K mg base (bH P w) 1 f (PySem.W.fnOf name qual params [.Assign [.Attribute (.Name n0 p0) fl p1] (.Name n1 p2) p3] scope dV kV doc pm an OA ct) [n0,n1] (AI K C fl):=by
 refine xT (k:=0) lk Py S (λvs H Q E h=>by obtain⟨a,y,rfl,_⟩:=h;rfl) λA outer s H vs Q E hr h=>?_
 obtain⟨a,y,rfl,ha,hq⟩:=h
 refine⟨_,FA (BP (oj (i:=0) rfl v0 d0 c0) (oj (i:=1) rfl v1 d1 c1) (hs _)),?_⟩
 exact⟨y,rfl,.ref a,rfl,a,C,rfl,ha,c,ho,na,hq⟩
end
end L2
namespace L2
open PySem PySem.Spec PyProof.Rows
structure k6 (J:It) (Oj:Hp) (xs:List PV):Prop where
 stop:∀ (i:Nat) (Hs H:Hp),bj Oj Hs->bj Hs H->xs.length<=i->J.stop i H
 go:∀ (i:Nat) (Hs H:Hp),bj Oj Hs->bj Hs H->i<xs.length->J.go i H
 xF:∀ (i:Nat) (Hs H:Hp) (x:V) (H2:Hp),bj Oj Hs->bj Hs H->i<xs.length->J.xF i H x H2->∃ p Ol,xs[i]?=some p/\bL Hs H Ol H2/\Rep Ol p x
def KI(R:It->Hp->Prop):Hp->Hp->List PV->Prop:=λHs H xs=>∀ J Oc H',bL Hs H Oc H'->k6 J Oc xs->R J H'
def DS(E:St->XK)(wi:TI)(it:af->M (List PV)):Prop:=∀ (σ:St) (H:Hp) (R:It->Hp->Prop),tG E it (KI R) σ H->wi σ H R
theorem KI.g{R:It->Hp->Prop}:KG (KI R):=λHs H Oc H' b k g J Ol H2 g2 o=>k J Ol H2 (g.trans g2) o
section
variable{E:St->XK}{K:PySem.W.Frag}{f:af->M PV}{fs:af->M (List PV)}
theorem D5{b:Bool}{a:Addr}{Oj:Hp}{xs:List PV}{vs:List V}(hq:∀ Oc H',bj Oj Oc->bj Oc H'->lZ K H' b a vs)(hr:aM Oj xs vs):k6 (MR K b a) Oj xs where
 stop:=λi Hs H s1 s2 hi=>by
  have q:=hq Hs H s1 s2
  cases b with
  | true=>exact⟨vs,q,by rw[← hr.length];exact hi⟩
  | false=>exact⟨vs,q,by rw[← hr.length];exact hi⟩
 go:=λi Hs H s1 s2 hi=>by
  have q:=hq Hs H s1 s2
  obtain⟨v,e,_⟩:=hr.get (List.getElem?_eq_getElem hi)
  cases b with
  | true=>exact⟨vs,v,q,e⟩
  | false=>exact⟨vs,v,q,e⟩
 xF:=λi Hs H x H2 s1 s2 hi y=>by
  have q:=hq Hs H s1 s2
  obtain⟨v,e,r⟩:=hr.get (List.getElem?_eq_getElem hi)
  have z:H2=H/\vs[i]?=some x:=by
   cases b with
   | true=>exact⟨y.1,y.2 vs q⟩
   | false=>exact⟨y.1,y.2 vs q⟩
  obtain⟨rfl,z⟩:=z
  rw[e] at z;cases z
  exact⟨xs[i],Hs,List.getElem?_eq_getElem hi,.refl s2,r.mono s1⟩
theorem cZ:DS E (K4 K (tE E f)) (itemsOf f):=by
 intro σ H R q
 refine bU (K:=KI R) KI.g q λB H₀ Hs H1 env p v sr rp hp=>?_
 cases e:bR p with
 | none=>rw[e] at hp;exact hp.elim
 | some xs =>
  rw[e] at hp
  obtain⟨b,a,vs,rfl,hq,hr⟩:=lV (K:=K) sr.gr.sub rp e
  exact⟨b,a,rfl,⟨vs,hq Hs H1 (λ_ _ z=>z) sr.gr.sub⟩,hp (MR K b a) Hs H1 (.refl sr.gr.sub) (D5 hq hr)⟩
def kI(o:List PV->M (List PV))(fs:af->M (List PV)):af->M (List PV):=λenv=>(fs env).bind o
theorem wK{lo:Int}{n:Nat}{Oj:Hp}:k6 (Ki lo n) Oj ((List.range n).map λ(i:Nat)=>PV.int (lo+(i:Int))) where
 stop:=λi Hs H s1 s2 hi=>show n<=i by simpa using hi
 go:=λi Hs H s1 s2 hi=>show i<n by simpa using hi
 xF:=λi Hs H x H2 s1 s2 hi y=>by
  obtain⟨rfl,rfl⟩:=y
  exact⟨_,Hs,z6 (by simpa using hi),.refl s2,.int _⟩
theorem aP{α:Type}(x:M α):x.bind M.ok=x:=by
 cases x with
 | none=>rfl
 | some x=>cases x <;> rfl
theorem iG:DS E (Gs (tL E fs)) (kI qi fs):=by
 intro σ H R q
 refine dH (K:=KI R) KI.g q λB H₀ Hs H1 env ps v sr rp hp=>?_
 rw[← aP (qi ps)] at hp
 obtain⟨n,rfl,h1,h2,hp⟩:=As hp
 obtain⟨w,rfl,P7⟩:=rp.one
 cases P7
 exact⟨n,rfl,h1,h2,hp _ Hs H1 (.refl sr.gr.sub) wK⟩
theorem DE:DS E (Gm (tL E fs)) (kI zX fs):=by
 intro σ H R q
 refine dH (K:=KI R) KI.g q λB H₀ Hs H1 env ps v sr rp hp=>?_
 rw[← aP (zX ps)] at hp
 obtain⟨n,m,rfl,h1,hp⟩:=Ay hp
 obtain⟨w,u,rfl,P7,ru⟩:=rp.two
 cases P7
 cases ru
 exact⟨n,m,rfl,h1,hp _ Hs H1 (.refl sr.gr.sub) wK⟩
theorem Cg{xs ys:List PV}{i:Nat}(h1:i<xs.length)(h2:i<ys.length):(List.zipWith (λa b=>PV.tup [a,b]) xs ys)[i]?=some (.tup [xs[i],ys[i]]):=by
 rw[List.getElem?_zipWith,List.getElem?_eq_getElem h1,List.getElem?_eq_getElem h2]
theorem DZ{b1 b2:Bool}{a1 a2:Addr}{Oj:Hp}{xs ys:List PV}{vs us:List V}(OW:∀ Oc H',bj Oj Oc->bj Oc H'->lZ K H' b1 a1 vs)(QN:aM Oj xs vs)(OL:∀ Oc H',bj Oj Oc->bj Oc H'->lZ K H' b2 a2 us)(QO:aM Oj ys us) :
  k6 (ME K b1 b2 a1 a2) Oj (List.zipWith (λa b=>PV.tup [a,b]) xs ys) where
 stop:=λi Hs H s1 s2 hi=>by
  rw[List.length_zipWith,QN.length,QO.length] at hi
  exact⟨vs,us,OW Hs H s1 s2,OL Hs H s1 s2,by omega⟩
 go:=λi Hs H s1 s2 hi=>by
  rw[List.length_zipWith] at hi
  obtain⟨v,e,_⟩:=QN.get (List.getElem?_eq_getElem (show i<xs.length by omega))
  obtain⟨u,e',_⟩:=QO.get (List.getElem?_eq_getElem (show i<ys.length by omega))
  exact⟨vs,us,v,u,OW Hs H s1 s2,OL Hs H s1 s2,e,e'⟩
 xF:=λi Hs H x H2 s1 s2 hi y=>by
  rw[List.length_zipWith] at hi
  have l1:i<xs.length:=by omega
  have l2:i<ys.length:=by omega
  obtain⟨v,e,r⟩:=QN.get (List.getElem?_eq_getElem l1)
  obtain⟨u,e',r'⟩:=QO.get (List.getElem?_eq_getElem l2)
  obtain⟨pa,v',u',hn,rfl,rfl,y1,y2⟩:=y
  have z1:=y1 vs (OW Hs H s1 s2)
  have z2:=y2 us (OL Hs H s1 s2)
  rw[e] at z1;cases z1
  rw[e'] at z2;cases z2
  have gr:=bL.new (o:=.tup [v,u]) s2 hn
  exact⟨_,_,Cg l1 l2,gr,.tup aE (.cons ((r.mono s1).mono gr.st) (.cons ((r'.mono s1).mono gr.st) .nil))⟩
theorem eH:DS E (Li K (tL E fs)) (kI zip2 fs):=by
 intro σ H R q
 refine dH (K:=KI R) KI.g q λB H₀ Hs H1 env ps v sr rp hp=>?_
 rw[← aP (zip2 ps)] at hp
 obtain⟨p,q,xs,ys,rfl,e1,e2,hp⟩:=AL hp
 obtain⟨w,u,rfl,P7,ru⟩:=rp.two
 obtain⟨b1,a1,vs,rfl,OW,QN⟩:=lV (K:=K) sr.gr.sub P7 e1
 obtain⟨b2,a2,us,rfl,OL,QO⟩:=lV (K:=K) sr.gr.sub ru e2
 exact⟨b1,b2,a1,a2,rfl,⟨vs,OW Hs H1 (λ_ _ z=>z) sr.gr.sub⟩,⟨us,OL Hs H1 (λ_ _ z=>z) sr.gr.sub⟩,hp _ Hs H1 (.refl sr.gr.sub) (DZ OW QN OL QO)⟩
end
theorem bA{X:Cx}{E:XK}{tg iter:Expr}{pos:Pos}{g:TG}{set:PV->af->M af}{body:af->M Out}{bd:List Stmt}{wi:TI}{it:af->M (List PV)}(O:e9 X λ_=>E)(hc:X.calm=true)(hi:PI X tg iter wi)(hv:DS (λ_=>E) wi it)(hg:PG X tg g)(Rt:GR E g set)(hb:mH X bd (tS E body))(hs:∀ x,foldedSetIterable iter X.env x=pure x:=by intro _;rfl) :
  PS X (.For tg iter bd [] pos) (tS E (gG it set body)):=by
 refine(HW O.own hc hi hg hb hs).imp λD σ H q=>hv σ H _ ?_
 obtain⟨B,H₀,Hs,env,sr,q⟩:=q
 refine⟨B,H₀,Hs,env,sr,(aA.bind q).imp (λxs hp J Oc H' gr ok=>?_) λe he=>he.grow sr.gr⟩
 have P9:=sr.grow gr
 refine⟨λi m σ H=>m=xs.length-i/\i<=xs.length/\Jv E set body D B H₀ Oc xs i σ H,⟨xs.length,by simp,Nat.zero_le _,Oc,env,P9,λ_ _ z=>z,hp⟩,?_⟩
 rintro i m σ' H2 ⟨rfl,hi,Ol,env2,OU,s2,h2⟩
 by_cases Pz:i<xs.length
 ·refine .inr ⟨ok.go i Ol H2 s2 OU.gr.sub Pz,Jv E set body D B H₀ Oc xs (i+1),fun σ3 H3 j=>⟨xs.length-(i+1),by omega,rfl,Pz,j⟩,λx H3 y=>?_⟩
  obtain⟨p,Qa,ep,g3,r3⟩:=ok.xF i Ol H2 x H3 s2 OU.gr.sub Pz y
  exact Jv.turn (Hx:=H2) (H1:=H2) Rt ep OU s2 h2 g3 r3
 ·have e:i=xs.length:=by omega
  refine .inl ⟨ok.stop i Ol H2 s2 OU.gr.sub (by omega),?_⟩
  exact Jv.done (E:=E) (set:=set) (body:=body) (xs:=xs) (B:=B) (H₀:=H₀) (Oj:=Oc) (n:=i) ⟨Ol,env2,OU,s2,h2⟩ (by omega)
end L2
namespace L2
open PySem PySem.Spec PyProof.Rows
abbrev EF:St->XK:=λ_ _ _ _=>False
def pB(env:af):Prop:=∀ (i:Nat) (x:SV),env[i]?=some (some x)->∃ p,x=.sh p
theorem pB.ow{env:af}(n:pB env){i:Nat}{xs:List PV}(e:env[i]?=some (some (.ow xs))):False:=by obtain⟨p,z⟩:=n i _ e;cases z
theorem pB.bd{env:af}(n:pB env){i:Nat}{a C:Addr}{fs:List (Str×PV)}(e:env[i]?=some (some (.bd a C fs))):False:=by obtain⟨p,z⟩:=n i _ e;cases z
def Bn{α:Type}:M α->M α
 | some (.ok a)=>some (.ok a)
 | _=>none
theorem aA.Bn{α:Type}{x:M α}{Q:α->Prop}{E:EX->Prop}(h:aA (L2.Bn x) Q E):aA x Q (λ_=>False):=by
 cases x with
 | none=>exact h
 | some x=>cases x with
  | ok a=>exact h
  | error e=>exact h
def mF(n:Nat)(js:List Nat)(env:af):af:=List.replicate n none++js.map λj=>match env[j]? with
 | some (some (.sh p))=>some (.sh p)
 | _=>none
theorem tq{n:Nat}{js:List Nat}{env:af}{i:Nat}{x:SV}(h:(mF n js env)[i]?=some (some x)):∃ j p,n<=i/\js[i-n]?=some j/\env[j]?=some (some (.sh p))/\x=.sh p:=by
 unfold mF at h
 by_cases hi:i<n
 ·rw[List.getElem?_append_left (by simpa using hi),List.getElem?_replicate] at h
  split at h <;> cases h
 ·rw[List.getElem?_append_right (by simpa using hi),List.getElem?_map,List.length_replicate] at h
  cases hj:js[i-n]? with
  | none=>rw[hj] at h;cases h
  | some j =>
   rw[hj] at h
   have h':(match env[j]? with | some (some (.sh p))=>some (SV.sh p) | _=>none)=some x:=Option.some.inj h
   split at h'
   ·rename_i p e
    cases h'
    exact⟨j,p,by omega,rfl,e,rfl⟩
   ·cases h'
theorem fL{n:Nat}{js:List Nat}{env:af}:pB (mF n js env):=λi xs e=>by
 obtain⟨_,p,_,_,_,z⟩:=tq e
 exact⟨p,z⟩
theorem SR.block{B H₀ Hs H:Hp}{σ:St}{env:af}{ts:List Str}{js:List Nat}{D:Addr}(r:SR B H₀ Hs H σ env)(hD:H D=none):SR Hs H Hs (upd H D (.lst [])) (ic ts js σ) (mF ts.length js env) where
 gr:=by
  have ne:∀ c u,H c=some u->c≠D:=λc u q z=>by rw[z,hD] at q;cases q
  exact⟨λ_ _ e=>e,λc u e=>by rw[ax (ne c u e)];exact e,λc u e=>by rw[ax (ne c u (r.gr.sub c u e))];exact r.gr.sub c u e,λ_ _ e _=>e⟩
 len:=by unfold ic mF;simp
 sh:=λi p e=>by
  obtain⟨j,q,hn,hj,he,z⟩:=tq e
  cases z
  obtain⟨v,h1,h2⟩:=r.sh j p he
  refine⟨v,?_,h2⟩
  unfold ic
  rw[List.getElem?_append_right (by simpa using hn),List.getElem?_map,List.length_map,hj]
  show some (σ[j]?).join=_
  rw[h1];rfl
 ow:=λi xs e=>(fL.ow e).elim
 sep:=λi j xs ys a _ e=>(fL.ow e).elim
 bd:=λi a C fs e=>(fL.bd e).elim
 one:=λi j a b C D fs gs e=>(fL.bd e).elim
theorem SR.JB{B H₀ Hs H:Hp}{σ:St}{env:af}{D:Addr}{o:HO}(r:SR B H₀ Hs H σ env)(n:pB env)(h1:Hs D=none)(h2:H₀ D=none):SR B H₀ Hs (upd H D o) σ env where
 gr:=⟨r.gr.st,λc u q=>by rw[ax (λz=>by rw[z,h2] at q;cases q)];exact r.gr.al c u q,λc u q=>by rw[ax (λz=>by rw[z,h1] at q;cases q)];exact r.gr.sub c u q,r.gr.nw⟩
 len:=r.len
 sh:=r.sh
 ow:=λi xs e=>(n.ow e).elim
 sep:=λi j xs ys a _ e=>(n.ow e).elim
 bd:=λi a C fs e=>(n.bd e).elim
 one:=λi j a b C D fs gs e=>(n.bd e).elim
def bP(set:PV->af->M af)(t:Option (af->M Bool))(f:af->M PV):List PV->af->M (List PV)
 | [],_=>M.ok []
 | x::xs,env=>(set x env).bind λe=>match t with
  | none=>(f e).bind λy=>(bP set t f xs e).bind λys=>M.ok (y::ys)
  | some t'=>(t' e).bind λb=>if b=true then (f e).bind λy=>(bP set t f xs e).bind λys=>M.ok (y::ys) else bP set t f xs e
def da(it:af->M (List PV))(set:PV->af->M af)(t:Option (af->M Bool))(f:af->M PV)(n:Nat)(js:List Nat):af->M (List PV):=λenv=>(it env).bind λxs=>cD (xs.length<=sizeLine) (Bn (bP set t f xs (mF n js env)))
def tH(set:PV->af->M af):Prop:=∀ p env e,set p env=some (.ok e)->pB env->pB e
theorem lJ{i:Nat}{env:af}{p:PV}(n:pB env):pB (env.set i (some (.sh p))):=λj xs e=>by
 rw[List.getElem?_set] at e
 by_cases z:i=j
 ·rw[if_pos z] at e
  split at e
  ·cases e;exact⟨p,rfl⟩
  ·cases e
 ·rw[if_neg z] at e;exact n j xs e
theorem cn{i:Nat}:tH (cj i):=λp env e h n=>by
 cases h
 exact lJ n
theorem c6{i j:Nat}:tH (bx i j):=λp env e h n=>by
 unfold bx at h
 split at h
 ·cases h;exact lJ (lJ n)
 ·cases h
section
variable{set:PV->af->M af}{t:Option (af->M Bool)}{f:af->M PV}{Q:VK}{Oj H1:Hp}{D:Addr}{xs:List PV}
def Jc(set:PV->af->M af)(t:Option (af->M Bool))(f:af->M PV)(Q:VK)(Oj H1:Hp)(D:Addr)(xs:List PV)(i:Nat)(σ:St)(H:Hp):Prop:=∃ Hs env ys vs,SR Oj H1 Hs H σ env/\pB env/\H D=some (.lst vs)/\Hs D=none/\aM Hs ys vs/\ys.length<=i ∧
 aA (bP set t f (xs.drop i) env) (λzs=>KO Q Oj H1 (ys++zs)) (λ_=>False)
def rem(H:Hp)(D:Addr):Hp:=λa=>if a=D then none else H a
theorem DU{H:Hp}{D:Addr}:rem H D D=none:=by unfold rem;rw[if_pos rfl]
theorem yK{H:Hp}{D a:Addr}(n:a≠D):rem H D a=H a:=by unfold rem;rw[if_neg n]
theorem EO{H:Hp}{D:Addr}{o:HO}(h:H D=some o):upd (rem H D) D o=H:=by
 funext a
 by_cases z:a=D
 ·subst z;rw[aE,h]
 ·rw[ax z,yK z]
theorem Jc.done{i:Nat}{σ:St}{H:Hp}(hD:H1 D=none)(j:Jc set t f Q Oj H1 D xs i σ H)(hi:xs.length<=i):Q (.ref D) H:=by
 obtain⟨Hs,env,ys,vs,sr,n,h1,h2,r,_,h⟩:=j
 rw[List.drop_eq_nil_of_le hi] at h
 have h':KO Q Oj H1 (ys++[]):=h
 rw[List.append_nil] at h'
 have gr:bL Oj H1 Hs (rem H D):=by
  refine⟨sr.gr.st,λc u q=>?_,λc u q=>?_,sr.gr.nw⟩
  ·rw[yK (λz=>by rw[z,hD] at q;cases q)];exact sr.gr.al c u q
  ·rw[yK (λz=>by rw[z,h2] at q;cases q)];exact sr.gr.sub c u q
 have:=h' vs D Hs (rem H D) gr r DU
 rw[EO h1] at this
 exact this
theorem Jc.put{i:Nat}{σ:St}{Hs H:Hp}{env:af}{ys:List PV}{vs:List V}{y:PV}{v:V}(hD:H1 D=none)(sr:SR Oj H1 Hs H σ env)(n:pB env)(h1:H D=some (.lst vs))(h2:Hs D=none)(r:aM Hs ys vs)(hy:ys.length<=i)(hi:i<sizeLine)(rv:Rep Hs y v)
  (h:aA ((bP set t f (xs.drop (i+1)) env).bind λzs=>M.ok (y::zs)) (λzs=>KO Q Oj H1 (ys++zs)) (λ_=>False)) :
  ∃ us,H D=some (.lst us)/\us.length<sizeLine/\Jc set t f Q Oj H1 D xs (i+1) σ (upd H D (.lst (us++[v]))):=by
 refine⟨vs,h1,by rw[← r.length];omega,Hs,env,ys++[y],vs++[v],sr.JB n h2 hD,n,aE,h2,r.snoc rv,by rw[List.length_append];show ys.length+1<=i+1;omega,(aA.bind h).imp (λzs hz=>?_) λ_ z=>z⟩
 have PZ:KO Q Oj H1 (ys++(y::zs)):=hz
 rw[List.append_assoc]
 exact PZ
end
section
variable{X:Cx}{E:St->XK}{tg elt iter c:Expr}{scope:Scope}{cl:List (Str×Addr)}{pos:Pos}{wi:TI}{it:af->M (List PV)}{g:TG}{set:PV->af->M af}{f:af->M PV}{u:af->M Bool}{ts fs:List Str}{js:List Nat}
theorem uk{C:Addr}{s₀:Shared}{H₀:Hp}{ex:List Addr}{N8:List (Addr×Obj)}{N:List Str}:e9 (xI X scope cl N C s₀ H₀ ex N8) EF where
 pass:=λ_ _ _ _ _ _ _ h=>by
  obtain⟨_,_,_,_,_,_,_,_,_,_,_,_,_,z⟩:=h
  exact z.elim
 new:=λ_ _ _ _ _ _ _ _ _ z=>z.elim
 own:=PassesOwn.never
theorem bG(Oq:X.calm=true)
  (OZ:closureFor scope X.env=pure cl) (hk:scope.kind=.function) (nc:jq scope.names=true) (lo:lO scope.names=true) (fh:lK cl scope.names=true) (ag:gF X cl) (fr:kS X scope cl fs js)
  (hi:PI X tg iter wi) (hv:DS E wi it) (hg:∀ C s₀ H₀ ex N8,PG (xI X scope cl (ts++fs) C s₀ H₀ ex N8) tg g) (Rt:∀ E,GR E g set) (so:tH set) (he:∀ C s₀ H₀ ex N8,PE (xI X scope cl (ts++fs) C s₀ H₀ ex N8) elt (tE EF f))
  (hs:∀ x,foldedSetIterable iter X.env x=pure x:=by intro _;rfl):PE X (.ListComp elt [⟨tg,iter,[],0⟩] scope pos) (tO E (da it set none f ts.length js)):=by
 refine(BA Oq OZ hk nc lo fh ag fr hi hg he hs).imp fun σ H Q q=>hv σ H _ ?_
 obtain⟨B,H₀,Hs,env,sr,q⟩:=q
 refine⟨B,H₀,Hs,env,sr,(aA.bind q).imp (λxs hp J Oj H1 gr ok D hD=>?_) λe he=>he⟩
 obtain⟨hz,hp⟩:=aA.cD hp
 have hp:=aA.Bn hp
 have Rr:=sr.grow gr
 refine⟨λi m σ H=>m=xs.length-i/\i<=xs.length/\Jc set none f Q Oj H1 D xs i σ H,⟨xs.length,by simp,Nat.zero_le _,Oj,_,[],[],Rr.block hD,fL,aE,?_,.nil,Nat.le_refl _,hp.imp (λzs hz vs p Ol H2 g2 r n=>hz vs p Ol H2 (gr.trans g2) r n) λ_ z=>z⟩,?_⟩
 ·cases z:Oj D with
  | none=>rfl
  | some o=>have:=gr.sub _ _ z;rw[hD] at this;cases this
 rintro i m σ' H2 ⟨rfl,hi,Ol,env2,ys,vs,OU,n2,d1,d2,r2,l2,h2⟩
 by_cases Pz:i<xs.length
 ·refine .inr ⟨ok.go i Ol H2 OU.gr.st OU.gr.sub Pz,Jc set none f Q Oj H1 D xs (i+1),fun σ3 H3 j=>⟨xs.length-(i+1),by omega,rfl,Pz,j⟩,λx H3 y=>?_⟩
  obtain⟨p,Qa,ep,g3,r3⟩:=ok.xF i Ol H2 x H3 OU.gr.st OU.gr.sub Pz y
  have hd:xs.drop i=p::xs.drop (i+1):=by
   rw[List.drop_eq_getElem_cons Pz]
   rw[List.getElem?_eq_getElem Pz] at ep
   rw[Option.some.inj ep]
  rw[hd] at h2
  have h3:=aA.bind h2
  have Qo:=OU.grow g3
  refine Rt (λ_ _ _=>False) Oj H1 Qa H3 σ' env2 p x _ (λ_=>False) Qo r3 ?_
  cases hset:set p env2 with
  | none=>rw[hset] at h3;exact h3
  | some z=>cases z with
   | error e=>rw[hset] at h3;exact h3
   | ok e3 =>
    rw[hset] at h3
    intro σ4 sr4
    have n4:=so p env2 e3 hset n2
    refine⟨Oj,H1,Qa,e3,sr4,(aA.bind h3).imp (λy hy v Hs5 H5 g5 r5=>?_) λ_ z=>z.elim⟩
    exact Jc.put (set:=set) (t:=none) (f:=f) hD (sr4.grow g5) n4 (g5.al _ _ (g3.al _ _ d1)) (g5.nw _ _ (g3.nw _ _ d2 d1) (g3.al _ _ d1)) ((r2.mono g3.st).mono g5.st) l2 (by omega) r5 hy
 ·refine .inl ⟨ok.stop i Ol H2 OU.gr.st OU.gr.sub (by omega),?_⟩
  exact Jc.done (set:=set) (t:=none) (f:=f) (xs:=xs) (Oj:=Oj) (H1:=H1) (i:=i) hD ⟨Ol,env2,ys,vs,OU,n2,d1,d2,r2,l2,h2⟩ (by omega)
def dy(fo:af->M (List PV)):af->M PV:=λenv=>(fo env).bind λps=>M.ok (.lst ps)
theorem dw{fo:af->M (List PV)}{e:Expr}(he:PE X e (tO E fo)):PE X e (tE E (dy fo)):=he.imp fun σ H Q q=>by
 obtain⟨B,H₀,Hs,env,sr,q⟩:=q
 refine⟨B,H₀,Hs,env,sr,(aA.bind q).imp (λps hp vs p Oc H' g r n=>?_) λe he=>he⟩
 have gn:=bL.new (o:=.lst vs) g.sub n
 exact hp _ _ _ (g.trans gn) (.lst aE (r.mono gn.st))
end
end L2
namespace L2
open PySem PySem.Spec PyProof.Rows
def u7(f:Str)(v:PV):List (Str×PV)->List (Str×PV)
 | []=>[(f,v)]
 | (g,x)::r=>if g=f then (g,v)::r else (g,x)::u7 f v r
theorem jC.put{H:Hp}{f:Str}{p:PV}{v:V}(h:Rep H p v):∀ {fs:List (Str×PV)} {vs:List (Str×V)},jC H fs vs->jC H (u7 f p fs) (kG f v vs)
 | _,_,.nil=>.cons h .nil
 | (g,x)::r,_,.cons hx hr=>by
  unfold u7 kG
  by_cases z:g=f
  ·rw[if_pos z,if_pos z];exact .cons h hr
  ·rw[if_neg z,if_neg z];exact .cons hx (hr.put h)
theorem jC.length{H:Hp}:∀ {fs:List (Str×PV)} {vs:List (Str×V)},jC H fs vs->fs.length=vs.length
 | _,_,.nil=>rfl
 | _,_,.cons _ r=>by simp[r.length]
theorem SR.MI{B H₀ Hs H:Hp}{σ:St}{env:af}{i:Nat}{a C dx:Addr}{fs gs:List (Str×PV)}{us:List (Str×V)}(r:SR B H₀ Hs H σ env)(e:env[i]?=some (some (.bd a C fs)))(h:jC Hs gs us):SR B H₀ Hs (upd H a (.ins C dx us)) σ (env.set i (some (.bd a C gs))):=by
 obtain⟨dx0,vs,h1,h2,h3,h4,h5⟩:=r.bd i a C fs e
 have nS:∀ c u,Hs c=some u->c≠a:=λc u q z=>by rw[z,h3] at q;cases q
 have n0:∀ c u,H₀ c=some u->c≠a:=λc u q z=>by rw[z,h4] at q;cases q
 refine⟨⟨r.gr.st,λc u q=>by rw[ax (n0 c u q)];exact r.gr.al c u q,λc u q=>by rw[ax (nS c u q)];exact r.gr.sub c u q,r.gr.nw⟩,by rw[List.length_set];exact r.len,λj q ej=>?_,λj zs ej=>?_,λj k y1 y2 b nj e1 e2 e3 e4=>?_,λj ba D Q9 ej=>?_,λj k _ _ C' D Q9 gs' e1 e2=>?_⟩
 ·rw[List.getElem?_set] at ej
  by_cases z:i=j
  ·subst z
   rw[if_pos rfl] at ej
   split at ej <;> cases ej
  ·rw[if_neg z] at ej;exact r.sh j q ej
 ·rw[List.getElem?_set] at ej
  by_cases z:i=j
  ·subst z
   rw[if_pos rfl] at ej
   split at ej <;> cases ej
  ·rw[if_neg z] at ej
   obtain⟨b,ws,q1,q2,q3,q4,q5⟩:=r.ow j zs ej
   have nb:b≠a:=λw=>by subst w;rw[h2] at q2;cases q2
   exact⟨b,ws,q1,by rw[ax nb];exact q2,q3,q4,q5⟩
 ·rw[List.getElem?_set] at e1 e2
  by_cases z:i=j
  ·subst z
   rw[if_pos rfl] at e1
   split at e1 <;> cases e1
  ·by_cases z2:i=k
   ·subst z2
    rw[if_pos rfl] at e2
    split at e2 <;> cases e2
   ·rw[if_neg z] at e1
    rw[if_neg z2] at e2
    exact r.sep j k y1 y2 b nj e1 e2 e3 e4
 ·rw[List.getElem?_set] at ej
  by_cases z:i=j
  ·subst z
   rw[if_pos rfl] at ej
   split at ej
   ·cases ej;exact⟨dx,us,h1,aE,h3,h4,h⟩
   ·cases ej
  ·rw[if_neg z] at ej
   exact absurd (r.one i j _ _ _ _ _ _ e ej) z
 ·have o1:∃ b D w,env[j]?=some (some (.bd b D w)):=by
   rw[List.getElem?_set] at e1
   by_cases z:i=j
   ·subst z;exact⟨_,_,_,e⟩
   ·rw[if_neg z] at e1;exact⟨_,_,_,e1⟩
  have o2:∃ b D w,env[k]?=some (some (.bd b D w)):=by
   rw[List.getElem?_set] at e2
   by_cases z:i=k
   ·subst z;exact⟨_,_,_,e⟩
   ·rw[if_neg z] at e2;exact⟨_,_,_,e2⟩
  obtain⟨_,_,w1,o1⟩:=o1
  obtain⟨_,_,w2,o2⟩:=o2
  exact r.one j k _ _ _ _ _ _ o1 o2
def Dp(i:Nat)(C:Addr)(f:Str)(p:PV)(env:af):M Out:=match env[i]? with
 | some (some (.bd a C' fs))=>cD (C'=C/\fs.length<1000) (M.ok (.nx (env.set i (some (.bd a C (u7 f p fs))))))
 | _=>none
def iM(i:Nat)(C:Addr)(fl:Str)(f:af->M PV):af->M Out:=λenv=>(f env).bind λp=>Dp i C fl p env
section
variable{X:Cx}{E:XK}{e:Expr}{pos pos' px:Pos}{f:af->M PV}{i:Nat}{x fl:Str}{C:Addr}
theorem jW(hi:X.N[i]?=some x)(hv:Eb X.env.scope x)(c:lq X.K C)(na:bF X.K C fl)(he:PE X e (tE (λ_=>E) f))(hd:(x==("__debug__" : Str))=false:=by decide)(Py:(x==("__classdict__" : Str))=false:=by decide)
  (hs:swapsWith e (some (.Attribute (.Name x px) fl pos')) pos.line X.env=pure false:=by rfl):PS X (.Assign [.Attribute (.Name x px) fl pos'] e pos) (tS E (iM i C fl f)):=by
 refine(G5 (oj hi hv hd Py) he hs).imp λD σ H q=>k_ q λB H₀ Hs H1 env p v sr rp hp=>?_
 unfold Dp at hp
 split at hp
 ·rename_i a C' fs ex
  obtain⟨⟨rfl,hz⟩,hp⟩:=aA.cD hp
  obtain⟨dx,vs,h1,h2,h3,h4,h5⟩:=sr.bd i a _ fs ex
  exact⟨.ref a,h1,a,_,dx,vs,rfl,h2,c,na,by rw[← h5.length];exact hz,hp σ Hs _ (sr.MI ex (h5.put rp))⟩
 ·exact hp.elim
end
def u6(m:Nat)(a C:Addr)(ps:List PV):af:=some (.bd a C [])::mL (m-1) ps
def CM(a C:Addr)(env:af):M (List (Str×PV)):=match (env[0]?:Option (Option SV)) with
 | some (some (.bd b D fs))=>cD (b=a/\D=C) (M.ok fs)
 | _=>none
def outI(a C:Addr):Out->M (List (Str×PV))
 | .nx env=>CM a C env
 | _=>none
def rY(m:Nat)(g:af->M Out)(C a:Addr)(ps:List PV):M (List (Str×PV)):=(g (u6 m a C ps)).bind (outI a C)
def Im{α:Type}(s:Addr->M α):M α:=open Classical in if h:∃ r,∀ a,s a=r then h.choose else none
theorem qY{α:Type}{s:Addr->M α}{r:M α}(h:∀ a,s a=r):Im s=r:=by
 have hx:∃ r,∀ a,s a=r:=⟨r,h⟩
 unfold Im
 rw[dif_pos hx,← hx.choose_spec 0,h 0]
theorem aA.Im{α:Type}{s:Addr->M α}{Q:α->Prop}{E:EX->Prop}(h:aA (L2.Im s) Q E)(a:Addr):aA (s a) Q E:=by
 unfold L2.Im at h
 split at h
 ·rename_i hx
  rw[hx.choose_spec a];exact h
 ·exact h.elim
def Ea(n:Nat)(C:Addr)(sem:Addr->List PV->M (List (Str×PV))):Sp:=λvs H Q E=>vs.length=n/\∃ a dx us Hs H1 ps,vs=.ref a::us/\H1 a=none/\H1 dx=none/\dx≠a/\H=upd (upd H1 dx (.own a)) a (.ins C dx [])/\bj Hs H1/\aM Hs ps us ∧
 aA (sem a ps) (λfs=>∀ Rv ws Oc H',bL Hs H1 Oc H'->H' a=some (.ins C Rv ws)->Oc a=none->jC Oc fs ws->Q .b_ H') (XW E Hs H1)
theorem SR.IG{Hs H₀ H:Hp}{N:List Str}{a C dx:Addr}{ps:List PV}{vs:List V}(s:bj Hs H₀)(hN:0<N.length)(ha:H₀ a=none)(r:aM Hs ps vs)(hH:H=upd H₀ a (.ins C dx [])):SR Hs H₀ Hs H (L2.start N (.ref a::vs)) (u6 N.length a C ps):=by
 have hs:Hs a=none:=by
  cases q:Hs a with
  | none=>rfl
  | some o=>have:=s _ _ q;rw[ha] at this;cases this
 have ne:∀ c u,H₀ c=some u->c≠a:=λc u e z=>by rw[z,ha] at e;cases e
 have s0:=SR.start (N:=N.tail) s r
 have e1:L2.start N (.ref a::vs)=some (.ref a)::L2.start N.tail vs:=by
  unfold L2.start
  simp only[List.map_cons,List.cons_append,List.length_cons,List.length_tail]
  rw[Nat.sub_sub,Nat.add_comm]
 have e2:u6 N.length a C ps=some (.bd a C [])::mL N.tail.length ps:=by unfold u6;rw[List.length_tail]
 have al:bj H₀ H:=λc u q=>by rw[hH,ax (ne c u q)];exact q
 rw[e1,e2]
 refine⟨⟨λ_ _ e=>e,al,λc u q=>al c u (s c u q),λc u q _=>q⟩,by simp[s0.len],λj q ej=>?_,λj zs ej=>?_,λj k y1 y2 b nj e1 e2 e3 e4=>?_,λj ba D Q9 ej=>?_,λj k a1 a2 C' D Q9 gs' e1 e2=>?_⟩
 ·cases j with
  | zero=>cases ej
  | succ j=>exact s0.sh j q (by simpa using ej)
 ·cases j with
  | zero=>cases ej
  | succ j=>exact absurd (s0.ow j zs (by simpa using ej)) (λ⟨b,ws,q1,q2,q3,q4,q5⟩=>by rw[q4] at q2;cases q2)
 ·cases j with
  | zero=>cases e1
  | succ j=>exact absurd (s0.ow j y1 (by simpa using e1)) (λ⟨b,ws,q1,q2,q3,q4,q5⟩=>by rw[q4] at q2;cases q2)
 ·cases j with
  | zero=>cases ej;exact⟨dx,[],rfl,by rw[hH];exact aE,hs,ha,.nil⟩
  | succ j=>exact absurd (s0.bd j ba D Q9 (by simpa using ej)) (λ⟨b,ws,q1,q2,q3,q4,q5⟩=>by rw[q4] at q2;cases q2)
 ·cases j with
  | zero=>cases k with
   | zero=>rfl
   | succ k=>exact absurd (s0.bd k a2 D gs' (by simpa using e2)) (λ⟨b,ws,q1,q2,q3,q4,q5⟩=>by rw[q4] at q2;cases q2)
  | succ j=>exact absurd (s0.bd j a1 C' Q9 (by simpa using e1)) (λ⟨b,ws,q1,q2,q3,q4,q5⟩=>by rw[q4] at q2;cases q2)
theorem Ep{P:Program}{w:World}{K:PySem.W.Frag}{mg:Str->Option Value}{base:Heap}{k:Nat}{f C:Addr}{name qual:Str}{params:Arguments}{body:List Stmt}{scope:Scope}{dV kV doc pm OA ct oc:Value}{an od:Option Addr}
  {Qx:Array (Option Value)} {N ps:List Str} {g:af->M Out} (lk:K.lookup f=some ⟨oc,od,.func (PySem.W.fnOf name qual params body scope dV kV doc pm an OA ct),Qx⟩) (Py:PySem.W.codeIn K OA qual=true) (S:aw N ps scope) (hN:0<N.length)
  (hb:∀ (A:Around) (outer:List Env) (s:Shared) (H:Hp) (E:XK),bX k (A.deeper (envOfC qual scope s.heap.objs.size f OA))->mH ((pU (bH P w) P w K mg base N qual scope f OA A outer s H E).out λ_=>E) body (tS E g)) :
  aI P w K mg base (bH P w) (k+1) f (PySem.W.fnOf name qual params body scope dV kV doc pm an OA ct) ps (Ea ps.length C (rY N.length g C)):=by
 refine xT lk Py S (λvs H Q E h=>h.1) λA outer s H vs Q E hr hs=>⟨_,hb A outer s H E hr,?_⟩
 obtain⟨_,a,dx,us,Hs,H1,PL,rfl,ha,hdx,Qj,hH,sm,r,h⟩:=hs
 have ne:∀ c u,H1 c=some u->c≠dx:=λc u e z=>by rw[z,hdx] at e;cases e
 have s0:bj H1 (upd H1 dx (.own a)):=λc u q=>by rw[ax (ne c u q)];exact q
 have g0:bL Hs H1 Hs (upd H1 dx (.own a)):=⟨λ_ _ e=>e,s0,λc u q=>s0 c u (sm c u q),λ_ _ e _=>e⟩
 refine⟨Hs,_,Hs,_,SR.IG (dx:=dx) g0.sub hN (by rw[ax (Ne.symm Qj)];exact ha) r hH,(aA.bind h).imp (λo ho=>?_) λe he=>he.grow g0⟩
 cases o with
 | rt p=>exact ho.elim
 | bk env=>exact ho.elim
 | ct env=>exact ho.elim
 | nx env =>
  intro σ Oc H' sr
  have Qb:aA (CM a C env) _ _:=ho
  unfold CM at Qb
  split at Qb
  ·rename_i b D fs ex
   obtain⟨⟨rfl,rfl⟩,hp⟩:=aA.cD Qb
   obtain⟨Rv,ws,h1,h2,h3,h4,h5⟩:=sr.bd 0 _ _ fs ex
   exact hp Rv ws Oc H' (g0.trans sr.gr) h2 h3 h5
  ·exact Qb.elim
def eh(C:Addr)(sem:Addr->List PV->M (List (Str×PV)))(PQ:List PV)(ps:List PV):M PV:=(Im λa=>sem a (ps++PQ)).bind λfs=>M.ok (.obj C fs)
section
variable{X:Cx}{E:St->XK}{k n:Nat}{f C:Addr}{fd:FuncData}{ns:List Str}{sem:Addr->List PV->M (List (Str×PV))}{x:Str}{p pos:Pos}{e:Expr}{es:List Expr}{fs:af->M (List PV)}
theorem E3{ds:List Value}{OX:List V}{PQ:List PV}(Mk:Mk X.K C f)(F:aI X.prog X.w X.K X.mg X.base (bH X.prog X.w) k f fd ns (Ea n C sem))(hr:bX (k+1) X.A)(hg:Gl X x)(hm:X.mg x=some (.ref C))(hb:Binds X.K fd ns ds)(hd:Vals OX ds)(hdp:∀ H,aM H PQ OX)(O:e9 X E)
  (hl:∀ a ps,sem a (ps++PQ)≠none->ps.length+PQ.length+1=n)
  (ha:PA X (e::es) (tL E fs)) (Ph:(x==("__debug__" : Str))=false:=by decide) (he:starEach (e::es) X.env=(false,eval e X.env)::starEach es X.env:=by rfl) (OB:(backTo pos (starEach es X.env)).any (·.1)=false:=by rfl) :
  PE X (.Call (.Name x p) (e::es) [] pos) (tE E (ai (eh C sem PQ) fs)):=by
 refine(BF Mk F hr hg hm hb hd O ha Ph he OB).imp fun σ H Q q=>dH (K:=kD Q) kD.g q λB H₀ Hs H1 env PL v sr rp hp=>?_
 intro a dx ha hdx Qj
 have r2:aM Hs (PL++PQ) (v++OX):=rp.append (hdp Hs)
 have Rc:=(aA.bind hp).Im a
 have hn:sem a (PL++PQ)≠none:=λz=>by
  rw[z] at Rc;exact Rc
 refine⟨?_,a,dx,v++OX,Hs,H1,PL++PQ,rfl,ha,hdx,Qj,rfl,sr.gr.sub,r2,Rc.imp (λfl hfl Rv ws Oc H' g hw RV P7=>⟨rfl,?_⟩) λe he=>he⟩
 ·show (v++OX).length+1=n
  rw[← r2.length,List.length_append]
  exact hl a PL hn
 ·have ne:∀ c u,Oc c=some u->c≠a:=λc u q z=>by rw[z,RV] at q;cases q
  have Oz:bj Oc (upd Oc a (.ins C Rv ws)):=λc u q=>by rw[ax (ne c u q)];exact q
  refine hfl (.ref a) (upd Oc a (.ins C Rv ws)) H' ⟨λc u q=>Oz c u (g.st c u q),g.al,λc u q=>?_,λc u q1 q2=>?_⟩ (.obj aE (P7.mono Oz))
  ·by_cases z:c=a
   ·subst z;rw[aE] at q;cases q;exact hw
   ·rw[ax z] at q;exact g.sub c u q
  ·have z:c≠a:=λz=>by rw[z,ha] at q2;cases q2
   rw[ax z];exact g.nw c u q1 q2
end
end L2
namespace L2
open PySem PySem.Spec PyProof.Rows
section
variable{X:Cx}{E:St->XK}{a b c e:Expr}{pos:Pos}{f g h:af->M PV}
theorem o_{n m:Nat}(h:n.log2<m):n<2^m:=by
 by_cases z:n=0
 ·subst z;exact Nat.two_pow_pos m
 ·exact(Nat.log2_lt z).mp h
theorem aM.rep{H:Hp}{xs:List PV}{vs:List V}(r:aM H xs vs):∀ k:Nat,aM H (List.replicate k xs).flatten (List.replicate k vs).flatten
 | 0=>.nil
 | k+1=>by rw[List.replicate_succ,List.replicate_succ,List.flatten_cons,List.flatten_cons];exact r.append (r.rep k)
def cv:PV->PV->M PV
 | .int i,.int j=>cD (i.natAbs.log2<67108864/\j.natAbs.log2<67108864) (M.ok (.int (i*j)))
 | .tup xs,.int k=>cD (xs.isEmpty=false/\-(2^63)<=k/\k<2^63/\xs.length*k.toNat<=sizeLine) (M.ok (.tup (List.replicate k.toNat xs).flatten))
 | .lst xs,.int k=>cD (-(2^63)<=k/\k<2^63/\xs.length*k.toNat<=sizeLine) (M.ok (.lst (List.replicate k.toNat xs).flatten))
 | _,_=>none
def Gz(K:PySem.W.Frag):R2:=λx y H Q=>(rI (λi j=>IntMulOk i j) λi j=>.int (i*j)) x y H Q\/Ge K x y H Q\/Ks x y H Q
theorem FC:gK X (binaryOp .Mult) (Gz X.K):=gK.or EI (gK.or FT CP)
theorem IA{K:PySem.W.Frag}:mM E (Gz K) cv:=by
 intro σ Hs H p q v u Q s rp rq h
 cases rp with
 | int i=>cases rq with
  | int j =>
   obtain⟨hz,h⟩:=aA.cD h
   exact .inl ⟨i,j,rfl,rfl,DM (o_ hz.1) (o_ hz.2) (Nat.le_refl _),dY.flat h s (.int _)⟩
  | _=>exact h.elim
 | @tup a xs vs ha hx=>cases rq with
  | int k =>
   obtain⟨⟨h0,h1,h2,h3⟩,h⟩:=aA.cD h
   have n1:vs≠[]:=λz=>by
    have:=hx.length
    rw[z] at this
    cases xs with
    | nil=>cases h0
    | cons _ _=>cases this
   refine .inr (.inl ⟨a,k,vs,rfl,rfl,iF.of (s _ _ ha),n1,h1,h2,by rw[← hx.length];exact h3,λz=>?_,λz=>dY.tup h s (hx.rep _)⟩)
   subst z
   rw[show (1:Int).toNat=1 from rfl,List.replicate_succ,List.replicate_zero,List.flatten_cons,List.flatten_nil,List.append_nil] at h
   exact dY.flat h s (.tup ha hx)
  | _=>exact h.elim
 | @lst a xs vs ha hx=>cases rq with
  | int k =>
   obtain⟨⟨h1,h2,h3⟩,h⟩:=aA.cD h
   exact .inr (.inr ⟨a,k,vs,rfl,rfl,s _ _ ha,h1,h2,by rw[← hx.length];exact h3,dY.lst h s (hx.rep _)⟩)
  | _=>exact h.elim
 | _=>exact h.elim
theorem Fo:mM E (rI DB λi j=>.int (i.fdiv j)) (xO (λ_ j=>decide (j≠0/\j.natAbs.log2<9000)) λi j=>i.fdiv j):=yV λi j z=>(of_decide_eq_true z:j≠0/\j.natAbs.log2<9000)
theorem Hv:mM E (rI (λ_ j=>j≠0) λi j=>.int (i.fmod j)) (xO (λ_ j=>decide (j≠0)) λi j=>i.fmod j):=yV λi j z=>of_decide_eq_true z
theorem JC:mM E (rI Jh λi j=>.int (i^j.toNat)) (xO (λi j=>decide (0<=j/\j<=1000000/\i.natAbs<2^64)) λi j=>i^j.toNat):=yV λi j z=>(of_decide_eq_true z:0<=j/\j<=1000000/\i.natAbs<2^64)
def Kk:PV->M PV
 | .int i=>M.ok (.int (-i))
 | _=>none
def jH(f:af->M PV):af->M PV:=λenv=>(f env).bind Kk
theorem Jl(ha:PE X a (tE E f)):PE X (.UnaryOp .USub a pos) (tE E (jH f)) :=
 (J2 He ha).imp fun σ H Q q=>Lo q λHs H1 p v s rp h=>by
  cases rp with
  | int i=>exact⟨i,rfl,dY.flat h s (.int _)⟩
  | _=>exact h.elim
def sZ:PV->Bool
 | .b_=>true
 | _=>false
theorem w6{H:Hp}{p:PV}{v:V}(r:Rep H p v):decide (v=.b_)=sZ p:=by
 cases r <;> rfl
def yc:PV->PV->M PV
 | p,.b_=>M.ok (.bl (sZ p))
 | _,_=>none
def lA:PV->PV->M PV
 | p,.b_=>M.ok (.bl (!sZ p))
 | _,_=>none
theorem Di:mM E (λx y H Q=>y=.b_/\Q (.bl (decide (x=.b_))) H) yc:=by
 intro σ Hs H p q v u Q s rp rq h
 cases rq with
 | b_ =>
  have h':aA (M.ok (PV.bl (sZ p))) (dY Hs H Q) (XW (E σ) Hs H):=by cases p <;> exact h
  exact⟨rfl,by rw[w6 rp];exact dY.flat h' s (.bl _)⟩
 | _=>cases p <;> exact h.elim
theorem zd:mM E (λx y H Q=>y=.b_/\Q (.bl (!decide (x=.b_))) H) lA:=by
 intro σ Hs H p q v u Q s rp rq h
 cases rq with
 | b_ =>
  have h':aA (M.ok (PV.bl (!sZ p))) (dY Hs H Q) (XW (E σ) Hs H):=by cases p <;> exact h
  exact⟨rfl,by rw[w6 rp];exact dY.flat h' s (.bl _)⟩
 | _=>cases p <;> exact h.elim
def kc(o o':PV->PV->M PV)(f g h:af->M PV):af->M PV:=λenv=>(f env).bind λp=>(g env).bind λq=>(o p q).bind λz=>(yX z).bind λk=>if k=true then (h env).bind λr=>o' q r else M.ok (.bl false)
theorem wJ{r r':R2}{o o':PV->PV->M PV}(hv:mM E r o)(Rf:mM E r' o'){σ:St}{H:Hp}{Q:VK}(q:tE E (kc o o' f g h) σ H Q):yk r r' (tE E f) (tE E g) (tE E h) σ H Q:=by
 refine bU (K:=kD Q) kD.g q λB H₀ Hs H1 env p v sr rp hp=>?_
 refine⟨B,H₀,Hs,env,sr,(aA.bind hp).imp (λq hq u Ol H2 g2 ru=>?_) λe he=>he⟩
 have OU:=sr.grow g2
 refine hv σ Ol H2 p q v u _ OU.gr.sub (rp.mono g2.st) ru ((aA.bind hq).imp (λz hz w Qa H3 g3 P7=>?_) λe he=>he.grow g2)
 obtain⟨k,ek,hk⟩:=aA.LM (aA.bind hz)
 subst ek
 cases P7
 refine⟨k,rfl,?_⟩
 have Qo:=OU.grow g3
 cases k with
 | false=>exact hk _ _ _ (g2.trans g3) (.bl _)
 | true =>
  have RN:aA ((h env).bind λr=>o' q r) (kD Q Hs H1) (XW (E σ) Hs H1):=hk
  refine⟨B,H₀,Qa,env,Qo,(aA.bind RN).imp (λr hr w Hs4 H4 g4 rw4=>?_) λe he=>he.grow (g2.trans g3)⟩
  exact Rf σ Hs4 H4 q r u w Q (Qo.grow g4).gr.sub ((ru.mono g3.st).mono g4.st) rw4 (hr.imp (λz hz w' Hs5 H5 g5 r5=>hz w' Hs5 H5 ((g2.trans g3).trans (g4.trans g5)) r5) λe he=>he.grow ((g2.trans g3).trans g4))
theorem xx{op Qn:CmpOp}{r r':R2}{o o':PV->PV->M PV}(ho:gK X (compareOp op) r)(hv:mM E r o)(Qb:gK X (compareOp Qn) r')(Rf:mM E r' o')(ha:PE X a (tE E f))(hb:PE X b (tE E g))(hc:PE X c (tE E h))
  (hm:lastMarks [op,Qn] [b,c]=false:=by with_unfolding_all rfl):PE X (.Compare a [op,Qn] [b,c] pos) (tE E (kc o o' f g h)) :=
 (DX ho Qb ha hb hc hm).imp fun σ H Q q=>wJ hv Rf q
theorem B0{op Qn:CmpOp}{r r':R2}{o o':PV->PV->M PV}(ho:gK X (compareOp op) r)(hv:mM E r o)(Qb:gK X (compareOp Qn) r')(Rf:mM E r' o')(ha:PE X a (tE E f))(hb:PE X b (tE E g))(hc:PE X c (tE E h))
  (hm:lastMarks [op,Qn] [b,c]=false:=by with_unfolding_all rfl):PT X (.Compare a [op,Qn] [b,c] pos) (tT E (cz (kc o o' f g h))) :=
 (BX ho Qb ha hb hc hm).imp fun σ H Q q=>wJ hv Rf (rV q)
def cP(u:af->M Bool)(b:af->M Out):Nat->af->M Out
 | 0,_=>none
 | n+1,env=>(u env).bind λt=>if t=true then (b env).bind λo=>match o with
   | .nx N_=>cP u b n N_
   | .ct N_=>cP u b n N_
   | .bk N_=>M.ok (.nx N_)
   | .rt p=>M.ok (.rt p)
  else M.ok (.nx env)
theorem z7{E:XK}{u:af->M Bool}{g:af->M Out}{body:List Stmt}(n:af->Nat)(O:e9 X λ_=>E)(hc:PT X c (tT (λ_=>E) u))(hb:mH X body (tS E g)):PS X (.While c body [] pos) (tS E λenv=>cP u g (n env) env):=by
 refine(BI O.own hc hb).imp λD σ H q=>?_
 obtain⟨B,H₀,Hs,env,sr,q⟩:=q
 refine⟨λm σ H=>∃ Hs env,SR B H₀ Hs H σ env/\aA (cP u g m env) (KS D B H₀) (XW E B H₀),⟨n env,Hs,env,sr,q⟩,?_⟩
 rintro m σ1 H1 ⟨Oj,env1,Rr,q1⟩
 cases m with
 | zero=>exact q1.elim
 | succ m =>
  refine⟨B,H₀,Oj,env1,Rr,(aA.bind q1).imp (λt ht Ol H2 g2=>?_) λe he=>he.grow Rr.gr⟩
  have OU:=Rr.grow g2
  cases t with
  | false=>exact ht σ1 Ol H2 OU
  | true =>
   refine⟨fun σ' H'=>∃ Oc N_,SR B H₀ Oc H' σ' N_/\aA (cP u g m N_) (KS D B H₀) (XW E B H₀),fun σ' H' z=>⟨m,Nat.lt_succ_self m,z⟩,B,H₀,Ol,env1,OU,(aA.bind ht).imp (λo ho=>?_) λe he=>he⟩
   cases o with
   | nx N_=>exact fun σ' Oc H' P9=>⟨Oc,N_,P9,ho⟩
   | ct N_=>exact fun σ' Oc H' P9=>⟨Oc,N_,P9,ho⟩
   | bk N_=>exact ho
   | rt p=>exact ho
theorem kh{u:af->M Bool}{g:af->M Out}:∀ (n k:Nat) (env:af),cP u g n env≠none->cP u g (n+k) env=cP u g n env
 | 0,_,_,h=>(h rfl).elim
 | n+1,k,env,h=>by
  rw[show n+1+k=(n+k)+1 by omega]
  unfold cP at h ⊢
  cases hu:u env with
  | none=>rfl
  | some z =>
   cases z with
   | error e=>rfl
   | ok t =>
    rw[hu] at h
    cases t with
    | false=>rfl
    | true =>
     show M.bind (g env) _=M.bind (g env) _
     have h':M.bind (g env) (λo=>match o with
      | .nx N_=>cP u g n N_
      | .ct N_=>cP u g n N_
      | .bk N_=>M.ok (.nx N_)
      | .rt p=>M.ok (.rt p))≠none:=h
     cases hg:g env with
     | none=>rfl
     | some z =>
      cases z with
      | error e=>rfl
      | ok o =>
       rw[hg] at h'
       cases o with
       | nx N_=>exact kh n k N_ h'
       | ct N_=>exact kh n k N_ h'
       | bk N_=>rfl
       | rt p=>rfl
def mJ(u:af->M Bool)(b:af->M Out)(env:af):M Out:=open Classical in cP u b (if h:∃ n,cP u b n env≠none then h.choose else 0) env
theorem zS{u:af->M Bool}{b:af->M Out}{n:Nat}{env:af}(h:cP u b n env≠none):mJ u b env=cP u b n env:=by
 have hx:∃ n,cP u b n env≠none:=⟨n,h⟩
 unfold mJ
 rw[dif_pos hx]
 have h1:=hx.choose_spec
 rw[← kh _ n env h1,← kh n hx.choose env h,Nat.add_comm]
theorem wx{E:XK}{u:af->M Bool}{g:af->M Out}{body:List Stmt}(O:e9 X λ_=>E)(hc:PT X c (tT (λ_=>E) u))(hb:mH X body (tS E g)):PS X (.While c body [] pos) (tS E (mJ u g)) :=
 z7 (λenv=>open Classical in if h:∃ n,cP u g n env≠none then h.choose else 0) O hc hb
end
end L2
namespace L2
open PySem PySem.Spec PyProof.Rows
def Gp:PV->Option String
 | .b_=>some "NoneType"
 | .bl _=>some "bool"
 | .int _=>some "int"
 | .str _=>some "str"
 | .lst _=>some "list"
 | .kH _=>some "list"
 | .tup _=>some "tuple"
 | .emp=>some "dict"
 | _=>none
def kZ(a t:String):Bool:=a==t||(a == "bool" && t == "int")
theorem pP(K:PySem.W.Frag):PySem.W.kitOne K (.type "NoneType") (.type "int")=some false:=by with_unfolding_all kernel_rfl
theorem vQ(K:PySem.W.Frag):PySem.W.kitOne K (.type "bool") (.type "int")=some true:=by with_unfolding_all kernel_rfl
def tys:List String:=["int", "bool", "str", "list", "tuple"]
theorem Le(K:PySem.W.Frag){p:PV}{a t:String}(ha:Gp p=some a)(ht:t∈tys):PySem.W.kitOne K (.type a) (.type t)=some (kZ a t):=by
 have ht2:t = "int" \/ t = "bool" \/ t = "str" \/ t = "list" \/ t = "tuple" := by simpa [tys] using ht
 cases p <;> cases ha <;> rcases ht2 with rfl | rfl | rfl | rfl | rfl <;> first
  | exact pP K
  | exact kt_NoneType_bool K
  | exact kt_NoneType_str K
  | exact kt_NoneType_list K
  | exact kt_NoneType_tuple K
  | exact vQ K
  | exact kt_bool_bool K
  | exact kt_bool_str K
  | exact kt_bool_list K
  | exact kt_bool_tuple K
  | exact kt_int_int K
  | exact kt_int_bool K
  | exact kt_int_str K
  | exact kt_int_list K
  | exact kt_int_tuple K
  | exact kt_str_int K
  | exact kt_str_bool K
  | exact kt_str_str K
  | exact kt_str_list K
  | exact kt_str_tuple K
  | exact kt_list_int K
  | exact kt_list_bool K
  | exact kt_list_str K
  | exact kt_list_list K
  | exact kt_list_tuple K
  | exact kt_tuple_int K
  | exact kt_tuple_bool K
  | exact kt_tuple_str K
  | exact kt_tuple_list K
  | exact kt_tuple_tuple K
  | exact kt_dict_int K
  | exact kt_dict_bool K
  | exact kt_dict_str K
  | exact kt_dict_list K
  | exact kt_dict_tuple K
theorem xQ{K:PySem.W.Frag}{Hs H:Hp}{p:PV}{v:V}{a:String}(s:bj Hs H)(r:Rep Hs p v)(ha:Gp p=some a):kC K H v (.type a):=by
 cases r with
 | b_=>cases ha;exact .b_
 | bl b=>cases ha;exact .bl b
 | int i=>cases ha;exact .int i
 | str x=>cases ha;exact .str x
 | tup h _=>cases ha;exact .tup (s _ _ h)
 | lst h _=>cases ha;exact .lst (s _ _ h)
 | kH h _=>cases ha;exact .sE (s _ _ h)
 | emp h=>cases ha;exact .dK (s _ _ h)
 | _=>cases ha
theorem zG(K:PySem.W.Frag){p:PV}{a:String}(ha:Gp p=some a):∀ {Ts:List String},(∀ t∈Ts,t∈tys)->PySem.W.kitAny K (.type a) (Ts.map Value.type)=some (Ts.any λt=>kZ a t)
 | [],_=>rfl
 | t::r,h=>by
  have h1:=Le K ha (h t List.mem_cons_self)
  have h2:=zG K ha (Ts:=r) λt q=>h t (List.mem_cons_of_mem _ q)
  simp only[List.map_cons,PySem.W.kitAny,h1,List.any_cons]
  cases kZ a t with
  | true=>rfl
  | false=>exact h2
structure qW (K:PySem.W.Frag) (C:Addr):Prop where
 cls:lq K C
 ha:PySem.W.findIn K (.ref C) "__class__" = some (some (.builtin "object.__class__"))
 hn:PySem.W.specialIn K (.builtin "object.__class__") "__get__" = some (some (.builtin "getset_descriptor.__get__"))
 JR:PySem.W.takesIn K (.builtin "object.__class__")=some true
 hm:PySem.W.mroIn K C (.type "object")=some true
def y0(b:String->Bool)(ob oe:Addr->Option Bool):PV->M PV
 | .obj C _=>dZ ((ob C).map .bl)
 | .exc C _=>dZ ((oe C).map .bl)
 | p=>dZ ((Gp p).map λa=>.bl (b a))
section
variable{X:Cx}{E:St->XK}{e:Expr}{pos p px pt:Pos}{f:af->M PV}{T:String}{x:Str}{C:Addr}{ob oe:Addr->Option Bool}
theorem CF{H:Hp}{C:Addr}{fo:Option (List (Str×PV))}{Hs:Hp}{v:V}(s:bj Hs H)(r:Rep Hs (.exc C fo) v):∃ a RF,v=.ref a/\ExcAt H a C RF:=by
 cases r with
 | @xU a _ h=>exact⟨a,none,rfl,s _ _ h⟩
 | @yj a _ d _ vs h h2 _=>exact⟨a,some vs,rfl,d,s _ _ h,s _ _ h2⟩
def tN(b:String->Bool)(ob oe:Addr->Option Bool)(f:af->M PV):af->M PV:=λenv=>(f env).bind (y0 b ob oe)
theorem qf{b:String->Bool}{p:PV}{Q:PV->Prop}{F:EX->Prop}(h:aA (y0 b ob oe p) Q F):(∃ a,Gp p=some a/\Q (.bl (b a)))\/(∃ C fs k,p=.obj C fs/\ob C=some k/\Q (.bl k))\/∃ C fo k,p=.exc C fo/\oe C=some k/\Q (.bl k):=by
 cases p with
 | obj C fs =>
  obtain⟨z,e,q⟩:=aA.opt h
  obtain⟨k,e2,rfl⟩:=Option.map_eq_some_iff.mp e
  exact .inr (.inl ⟨C,fs,k,rfl,e2,q⟩)
 | exc C fo =>
  obtain⟨z,e,q⟩:=aA.opt h
  obtain⟨k,e2,rfl⟩:=Option.map_eq_some_iff.mp e
  exact .inr (.inr ⟨C,fo,k,rfl,e2,q⟩)
 | b_=>exact .inl ⟨_,rfl,h⟩
 | bl _=>exact .inl ⟨_,rfl,h⟩
 | int _=>exact .inl ⟨_,rfl,h⟩
 | str _=>exact .inl ⟨_,rfl,h⟩
 | tup _=>exact .inl ⟨_,rfl,h⟩
 | lst _=>exact .inl ⟨_,rfl,h⟩
 | kH _=>exact .inl ⟨_,rfl,h⟩
 | emp=>exact .inl ⟨_,rfl,h⟩
theorem xN{K:PySem.W.Frag}{Hs H:Hp}{C:Addr}{fs:List (Str×PV)}{v:V}(s:bj Hs H)(r:Rep Hs (.obj C fs) v)(c:qW K C):kC K H v (.ref C):=by
 cases r with
 | obj h _=>exact .ins (s _ _ h) c.cls c.ha c.hn c.JR c.hm
theorem jt(hg:Gl X "isinstance")(hm:X.mg "isinstance" = none)(hT:PE X (.Name x pt) (tC (.ty T)))(ht:T∈tys)(Rb:∀ C b,ob C=some b->qW X.K C/\PySem.W.kitOne X.K (.ref C) (.type T)=some b)(PJ:∀ C b,oe C=some b->h_ X.K C/\PySem.W.kitOne X.K (.ref C) (.type T)=some b)(he:PE X e (tE E f))
  (h1:starEach [e,.Name x pt] X.env=(false,eval e X.env)::starEach [.Name x pt] X.env:=by rfl) (h2:starEach [.Name x pt] X.env=(false,eval (.Name x pt) X.env)::starEach [] X.env:=by rfl) (OB:(backTo pos (starEach [.Name x pt] X.env)).any (·.1)=false:=by rfl) :
  PE X (.Call (.Name "isinstance" p) [e,.Name x pt] [] pos) (tE E (tN (λa=>kZ a T) ob oe f)):=by
 refine(mQ (dC.or Dl wA) hg hm x_ (fq he (fq hT mC h2) h1) (by decide) (by decide) h1 OB).imp fun σ H Q q=>bU (K:=kD Q) kD.g q λB H₀ Hs H1 env p v sr rp hp=>?_
 rcases qf hp with ⟨a,ha,q⟩ | ⟨C,fs,k,rfl,e,q⟩ | ⟨C,fo,k,rfl,e,q⟩
 ·exact .inl ⟨v,T,_,_,rfl,xQ sr.gr.sub rp ha,Le X.K ha ht,dY.flat q sr.gr.sub (.bl _)⟩
 ·exact .inl ⟨v,T,_,_,rfl,xN sr.gr.sub rp (Rb C k e).1,(Rb C k e).2,dY.flat q sr.gr.sub (.bl _)⟩
 ·obtain⟨a,RF,rfl,hx⟩:=CF sr.gr.sub rp
  exact .inr ⟨a,C,RF,k,(PJ C k e).1,hx,.inl ⟨T,rfl,(PJ C k e).2⟩,dY.flat q sr.gr.sub (.bl _)⟩
theorem Jm{D:Addr}(hg:Gl X "isinstance")(hm:X.mg "isinstance" = none)(hT:PE X (.Name x pt) (tC (.ref D)))(hk:∀ p a,Gp p=some a->PySem.W.kitOne X.K (.type a) (.ref D)=some false)(Rb:∀ C b,ob C=some b->qW X.K C/\PySem.W.kitOne X.K (.ref C) (.ref D)=some b)(PJ:∀ C b,oe C=some b->h_ X.K C/\PySem.W.kitOne X.K (.ref C) (.ref D)=some b)(he:PE X e (tE E f))
  (h1:starEach [e,.Name x pt] X.env=(false,eval e X.env)::starEach [.Name x pt] X.env:=by rfl) (h2:starEach [.Name x pt] X.env=(false,eval (.Name x pt) X.env)::starEach [] X.env:=by rfl) (OB:(backTo pos (starEach [.Name x pt] X.env)).any (·.1)=false:=by rfl) :
  PE X (.Call (.Name "isinstance" p) [e,.Name x pt] [] pos) (tE E (tN (λ_=>false) ob oe f)):=by
 refine(mQ (dC.or BV wA) hg hm x_ (fq he (fq hT mC h2) h1) (by decide) (by decide) h1 OB).imp fun σ H Q q=>bU (K:=kD Q) kD.g q λB H₀ Hs H1 env p v sr rp hp=>?_
 rcases qf hp with ⟨a,ha,q⟩ | ⟨C,fs,k,rfl,e,q⟩ | ⟨C,fo,k,rfl,e,q⟩
 ·exact .inl ⟨v,D,_,_,rfl,xQ sr.gr.sub rp ha,hk p a ha,dY.flat q sr.gr.sub (.bl _)⟩
 ·exact .inl ⟨v,D,_,_,rfl,xN sr.gr.sub rp (Rb C k e).1,(Rb C k e).2,dY.flat q sr.gr.sub (.bl _)⟩
 ·obtain⟨a,RF,rfl,hx⟩:=CF sr.gr.sub rp
  exact .inr ⟨a,C,RF,k,(PJ C k e).1,hx,.inr ⟨D,rfl,(PJ C k e).2⟩,dY.flat q sr.gr.sub (.bl _)⟩
theorem Ei{e2:Expr}{t2:TE}{Ts:List String}(hg:Gl X "isinstance")(hm:X.mg "isinstance" = none)(hT:PE X e2 t2)(ht2:∀ σ H R,(∀ p,H p=none->R (.ref p) (upd H p (.tup (Ts.map V.ty))))->t2 σ H R)(ht:∀ t∈Ts,t∈tys)(Rb:∀ C b,ob C=some b->qW X.K C/\PySem.W.kitAny X.K (.ref C) (Ts.map Value.type)=some b)(he:PE X e (tE E f))
  (h1:starEach [e,e2] X.env=(false,eval e X.env)::starEach [e2] X.env:=by rfl) (h2:starEach [e2] X.env=(false,eval e2 X.env)::starEach [] X.env:=by rfl) (OB:(backTo pos (starEach [e2] X.env)).any (·.1)=false:=by rfl) :
  PE X (.Call (.Name "isinstance" p) [e,e2] [] pos) (tE E (tN (λa=>Ts.any λt=>kZ a t) ob (λ_=>none) f)):=by
 refine(mQ Ai hg hm x_ (fq he (fq hT mC h2) h1) (by decide) (by decide) h1 OB).imp fun σ H Q q=>bU (K:=kD Q) kD.g q λB H₀ Hs H1 env p v sr rp hp=>?_
 refine ht2 σ H1 _ λtp hn=>?_
 have g:=bL.new (o:=.tup (Ts.map V.ty)) sr.gr.sub hn
 rcases qf hp with ⟨a,ha,q⟩ | ⟨C,fs,k,rfl,e,q⟩ | ⟨C,fo,k,rfl,e,q⟩
 ·exact⟨v,tp,Ts,_,_,rfl,aE,xQ g.sub (rp.mono g.st) ha,zG X.K ha ht,q _ _ _ g (.bl _)⟩
 ·exact⟨v,tp,Ts,_,_,rfl,aE,xN g.sub (rp.mono g.st) (Rb C k e).1,(Rb C k e).2,q _ _ _ g (.bl _)⟩
 ·cases e
end
end L2
namespace L2
open PySem PySem.Spec PyProof.Rows
open PySem.SeqAt (shaped noMix noMixAll)
mutual
def dat:PV->Option PyData
 | .b_=>some .none
 | .bl b=>some (.bool b)
 | .int i=>some (.int i)
 | .str x=>some (.str x)
 | .tup xs=>(pL xs).map .tuple
 | .lst xs=>(pL xs).map .list
 | .kH xs=>(pL xs).map .list
 | .obj _ _=>none
 | .exc _ _=>none
 | .emp=>none
def pL:List PV->Option (List PyData)
 | []=>some []
 | p::r=>(dat p).bind λd=>(pL r).map (d::·)
end
section
variable{X:Cx}{N8:List (Addr×Obj)}{σ:St}{H:Hp}{s:Shared}
mutual
theorem Rep.reads{Hs:Hp}(I:Inv X N8 σ H s)(sm:bj Hs H):∀ {p:PV} {v:V} {u:Value} {d:PyData},Rep Hs p v->RelV v u->dat p=some d->∃ as,Reads s.heap u d as
 | _,_,u,d,.b_,r,e=>by
  cases e;cases (show u=Value.none from r);exact⟨_,.none⟩
 | _,_,u,d,.bl b,r,e=>by
  cases e;cases (show u=Value.bool b from r);exact⟨_,.bool b⟩
 | _,_,u,d,.int i,r,e=>by
  cases e;obtain⟨t,rfl⟩:=(show ∃ t,u=Value.int i t from r);exact⟨_,.int i t⟩
 | _,_,u,d,.str i,r,e=>by
  cases e;obtain⟨t,rfl⟩:=(show ∃ t,u=Value.str i t from r);exact⟨_,.str i t⟩
 | _,_,u,d,.tup (a:=a) ha hx,r,e=>by
  obtain⟨ds,e2,rfl⟩:=Option.map_eq_some_iff.mp (show (pL _).map PyData.tuple=some d from e)
  cases (show u=Value.ref a from r)
  obtain⟨Ob,r1,⟨o,ho,hc,n,hd⟩,_⟩:=I.tuple (iF.of (sm _ _ ha))
  obtain⟨as,ra⟩:=aM.reads I sm hx r1 e2
  exact⟨_,.tuple ho hc hd (by simpa using ra)⟩
 | _,_,u,d,.lst (a:=a) ha hx,r,e=>by
  obtain⟨ds,e2,rfl⟩:=Option.map_eq_some_iff.mp (show (pL _).map PyData.list=some d from e)
  cases (show u=Value.ref a from r)
  obtain⟨Ob,r1,⟨o,n,ho,hc,_,hd⟩,_⟩:=I.list (iS.of (sm _ _ ha))
  obtain⟨as,ra⟩:=aM.reads I sm hx r1 e2
  exact⟨_,.list ho hc hd (by simpa using ra)⟩
 | _,_,u,d,.kH (a:=a) (o:=ob) ha hx,r,e=>by
  obtain⟨ds,e2,rfl⟩:=Option.map_eq_some_iff.mp (show (pL _).map PyData.list=some d from e)
  cases (show u=Value.ref a from r)
  obtain⟨Ob,r1,⟨o,n,ho,hc,_,hd⟩,_⟩:=I.list (.inl (.inr ⟨ob,sm _ _ ha⟩))
  obtain⟨as,ra⟩:=aM.reads I sm hx r1 e2
  exact⟨_,.list ho hc hd (by simpa using ra)⟩
 | _,_,u,d,.obj _ _,r,e=>by cases e
 | _,_,u,d,.xU _,r,e=>by cases e
 | _,_,u,d,.yj _ _ _,r,e=>by cases e
 | _,_,u,d,.emp _,r,e=>by cases e
theorem aM.reads{Hs:Hp}(I:Inv X N8 σ H s)(sm:bj Hs H):∀ {p:List PV} {v:List V} {u:List Value} {d:List PyData},aM Hs p v->Vals v u->pL p=some d->∃ as,ReadsAll s.heap u d as
 | _,_,_,_,.nil,.nil,e=>by cases e;exact⟨_,.nil⟩
 | _,_,_,d,.cons (p:=p) (ps:=ps) h hr,.cons r rr,e=>by
  obtain⟨d1,e1,e2⟩:=Option.bind_eq_some_iff.mp (show (dat p).bind (λd=>(pL ps).map (d::·))=some d from e)
  obtain⟨ds,e3,rfl⟩:=Option.map_eq_some_iff.mp e2
  obtain⟨as,ra⟩:=Rep.reads I sm h r e1
  obtain⟨bs,rb⟩:=aM.reads I sm hr rr e3
  exact⟨_,.cons ra rb⟩
end
end
def Gq(d e:PyData):M Bool:=cD (shaped d=true/\shaped e=true/\noMix d e=true) (M.ok (same d e))
def ql(o:Bool->PV)(p q:PV):M PV:=match dat p,dat q with
 | some d,some e=>(Gq d e).bind λb=>M.ok (o b)
 | _,_=>none
def l7:PV->PV->M PV:=ql λb=>.bl b
def nY:PV->PV->M PV:=ql λb=>.bl (!b)
def B_(o:Bool->Bool):R2:=λx y H Q=>∃ Hs p q d e,bj Hs H/\Rep Hs p x/\Rep Hs q y/\dat p=some d/\dat q=some e/\shaped d=true/\shaped e=true/\noMix d e=true/\Q (.bl (o (same d e))) H
section
variable{X:Cx}{E:St->XK}
theorem DP(hu:X.A.units+64<cLine):gK X (compareOp .Eq) (B_ id):=by
 intro N8 s σ H x y v u Q I rx ry h
 obtain⟨Hs,p,q,d,e,sm,rp,rq,hd,he,h1,h2,h3,hq⟩:=h
 obtain⟨as,ra⟩:=Rep.reads I sm rp rx hd
 obtain⟨bs,rb⟩:=Rep.reads I sm rq ry he
 exact eq_dataH_same ra rb h1 h2 hu h3 (oE I hq rfl)
theorem C5(hu:X.A.units+64<cLine):gK X (compareOp .NotEq) (B_ not):=by
 intro N8 s σ H x y v u Q I rx ry h
 obtain⟨Hs,p,q,d,e,sm,rp,rq,hd,he,h1,h2,h3,hq⟩:=h
 obtain⟨as,ra⟩:=Rep.reads I sm rp rx hd
 obtain⟨bs,rb⟩:=Rep.reads I sm rq ry he
 exact ne_dataH_same ra rb h1 h2 hu h3 (oE I hq rfl)
theorem Du{o:Bool->Bool}:mM E (B_ o) (ql λb=>.bl (o b)):=by
 intro σ Hs H p q v u Q s rp rq h
 unfold ql at h
 split at h
 ·rename_i d e hd he
  have h':=aA.bind h
  obtain⟨⟨h1,h2,h3⟩,h⟩:=aA.cD h'
  exact⟨Hs,p,q,d,e,s,rp,rq,hd,he,h1,h2,h3,dY.flat h s (.bl _)⟩
 ·exact h.elim
theorem Gw:mM E (B_ id) l7:=Du
theorem Gr:mM E (B_ not) nY:=Du
end
def pA(xs:List PV)(lo hi:Option Int):List PV:=(xs.drop (HT.dF xs.length 0 lo)).take (HT.dF xs.length xs.length hi-HT.dF xs.length 0 lo)
theorem aM.cut{H:Hp}{xs:List PV}{vs:List V}(r:aM H xs vs)(lo hi:Option Int):aM H (pA xs lo hi) (vU vs lo hi):=by
 unfold pA vU
 rw[r.length]
 exact(r.drop _).take _
abbrev Lk(Q:Option Int->Hp->Prop):Hp->Hp->Option Int->Prop:=λHs H k=>∀ Oc H',bL Hs H Oc H'->Q k H'
def LK(E:St->XK)(g:af->M (Option Int)):TO:=fun σ H Q=>tG E g (Lk Q) σ H
theorem PO.imp{X:Cx}{e:Option Expr}{t t':TO}(h:PO X e t)(i:∀ σ H Q,t' σ H Q->t σ H Q):PO X e t':=λN8 s σ H Q I q=>h N8 s σ H Q I (i σ H Q q)
def w8:PV->M (Option Int)
 | .int i=>M.ok (some i)
 | _=>none
def vZ:af->M (Option Int):=λ_=>M.ok none
def iE(f:af->M PV):af->M (Option Int):=λenv=>(f env).bind w8
section
variable{X:Cx}{E:St->XK}{e:Expr}{lo hi:Option Expr}{pos p2:Pos}{f:af->M PV}{gl gh:af->M (Option Int)}
theorem Lk.g{Q:Option Int->Hp->Prop}:KG (Lk Q):=λHs H Oc H' b k g Ol H2 g2=>k Ol H2 (g.trans g2)
theorem EM:PO X none (LK E vZ):=Fh.imp fun σ H Q q=>by
 obtain⟨B,H₀,Hs,env,sr,q⟩:=q
 exact q Hs H (.refl sr.gr.sub)
theorem uM(he:PE X e (tE E f)):PO X (some e) (LK E (iE f)):=(Ee he).imp fun σ H Q q=>bU (K:=Lk Q) Lk.g q λB H₀ Hs H1 env p v sr rp hp=>by
 cases rp with
 | int i=>exact⟨i,rfl,hp Hs H1 (.refl sr.gr.sub)⟩
 | _=>exact hp.elim
end
def jd(xs:List PV):List PV:=xs.mapIdx λi x=>.tup [.int (i:Nat),x]
section
variable{E:St->XK}{K:PySem.W.Frag}{fs:af->M (List PV)}
theorem ug{a:Addr}{Oj:Hp}{xs:List PV}{vs:List V}(hq:∀ Oc H',bj Oj Oc->bj Oc H'->iS K H' a vs)(hr:aM Oj xs vs):k6 (IW K a) Oj (jd xs) where
 stop:=λi Hs H s1 s2 hi=>by
  unfold jd at hi
  rw[List.length_mapIdx,hr.length] at hi
  exact⟨vs,hq Hs H s1 s2,hi⟩
 go:=λi Hs H s1 s2 hi=>by
  unfold jd at hi
  rw[List.length_mapIdx] at hi
  obtain⟨v,e,_⟩:=hr.get (List.getElem?_eq_getElem hi)
  exact⟨vs,v,hq Hs H s1 s2,e⟩
 xF:=λi Hs H x H2 s1 s2 hi y=>by
  unfold jd at hi
  rw[List.length_mapIdx] at hi
  obtain⟨v,e,r⟩:=hr.get (List.getElem?_eq_getElem hi)
  obtain⟨pa,v',hn,rfl,rfl,y1⟩:=y
  have z1:=y1 vs (hq Hs H s1 s2)
  rw[e] at z1;cases z1
  have gr:=bL.new (o:=.tup [.int (i:Nat),v]) s2 hn
  refine⟨.tup [.int (i:Nat),xs[i]],_,?_,gr,.tup aE (.cons (.int _) (.cons ((r.mono s1).mono gr.st) .nil))⟩
  unfold jd
  rw[List.getElem?_mapIdx,List.getElem?_eq_getElem hi]
  rfl
end
end L2
namespace L2
open PySem PySem.Spec PyProof.Rows
def En(lo st:Int)(n:Nat):It:=⟨λi _=>i<n,λi H x H'=>H'=H/\x=.int (lo+(i:Nat)*st),λi _=>n<=i⟩
theorem xq{P:Program}{w:World}{K:PySem.W.Frag}{tg:Expr}(it:Addr)(lo st:Int)(n:Nat):Turn P w K tg (En lo st n) [it] it (λi h=>IsRangeIter h it (lo+(i:Nat)*st) ((n:Int)-(i:Nat)) st) where
 mem:=by simp
 obj:=λi h st b hb=>by
  have e:b=it:=by simpa using hb
  subst e
  exact⟨_,st,λv z=>by
   have z':Data.fields _=Data.cell v:=z
   cases z'⟩
 keep:=λi h h' st k=>k it (by simp) _ st
 item:=by
  intro X hP hw hK hc i N8 s σ H E I hf Pj hg
  subst hP hw hK
  obtain⟨f0,f1,f2,f3,f4,f5⟩:=hf it (by simp)
  have W:=Walks.range (prog:=X.prog) (w:=X.w) (I.ok.hd hc) it lo st n
  refine W.item i s _ _ hg Pj λv h' tk hv R5 kk=>?_
  obtain⟨t,rfl⟩:=hv
  have I1:Inv X N8 σ H { s with heap:=h',toks:=tk }:=I.turned (λb o hb e=>kk b o (by simpa using hb) e) f0 f1 f3 f4 f5
  exact⟨_,rfl,zp (s:={ s with heap:=h',toks:=tk }) (n := "range_iterator") R5 rfl rfl (by decide) ⟨.int (lo+(i:Nat)*st),H,I1,⟨t,rfl⟩,⟨rfl,rfl⟩,R5,λb hb=>(hf b hb).1⟩⟩
 done:=by
  intro X hP hw hK hc i N8 s σ H E I hf Pj hg
  subst hP hw hK
  obtain⟨f0,f1,f2,f3,f4,f5⟩:=hf it (by simp)
  exact wpAny_pyNext_range_end (I.ok.hd hc) Pj (by have:n<=i:=hg;omega) λh' eb=>⟨rfl,I.turned (t':=s.toks) (λb o hb e=>eb b o hb e) f0 f1 f3 f4 f5⟩
 self:=λ_ _ _ _ _ st h=>wpAny_pyIter_rangeiter st h
theorem uT(a b c:Int):0<=Builtin.Range.rangeSize a b c:=by
 unfold Builtin.Range.rangeSize
 split
 ·split
  ·have:=Int.ediv_nonneg (a:=b-a-1) (b:=c) (by omega) (by omega);omega
  ·omega
 ·split
  ·have:=Int.ediv_nonneg (a:=a-b-1) (b:=-c) (by omega) (by omega);omega
  ·omega
section
variable{X:Cx}{tg:Expr}
theorem z9{N8:List (Addr×Obj)}{σ:St}{H:Hp}{s:Shared}{R:It->Hp->Prop}{E:Value->Shared->Prop}{lo hi st:Int}{t u v:Tok}{tk:Nat}(I:Inv X N8 σ H s)(hsm:Builtin.Range.small lo hi st=true)
  (q:R (En lo st (Builtin.Range.rangeSize lo hi st).toNat) H):wpAny (model X.prog X.w) X.A (pyIter (.ref s.heap.objs.size)) (Mm X N8 σ tg R) E { s with heap:=s.heap.push { cls:=.type "range", data:=.fields #[.int lo t,.int hi u,.int st v] },toks:=tk }:=by
 refine wpAny_pyIter_range (IsRange.new ..) hsm ?_
 have I1:Inv X N8 σ H { s with heap:=s.heap.push { cls:=.type "range", data:=.fields #[.int lo t,.int hi u,.int st v] },toks:=tk }:=I.kept λb o e=>Heap.get?_push_of_some _ e
 refine⟨(s.heap.push { cls:=.type "range", data:=.fields #[.int lo t,.int hi u,.int st v] }).objs.size,[(s.heap.push { cls:=.type "range", data:=.fields #[.int lo t,.int hi u,.int st v] }).objs.size],_,_,H,rfl,
  I1.kept (t':=tk) λb o e=>Heap.get?_push_of_some _ e,xq _ lo st (Builtin.Range.rangeSize lo hi st).toNat,?_,λb hb=>?_,q⟩
 ·have e1:lo+((0:Nat):Int)*st=lo:=by simp
  have e2:(((Builtin.Range.rangeSize lo hi st).toNat:Nat):Int)-((0:Nat):Int)=Builtin.Range.rangeSize lo hi st:=by have:=uT lo hi st;omega
  show IsRangeIter _ _ (lo+((0:Nat):Int)*st) ((((Builtin.Range.rangeSize lo hi st).toNat:Nat):Int)-((0:Nat):Int)) st
  rw[e1,e2]
  exact Heap.get?_push_size _ rfl
 ·have e:b=(s.heap.push { cls:=.type "range", data:=.fields #[.int lo t,.int hi u,.int st v] }).objs.size:=by simpa using hb
  subst e
  exact I1.vq (Nat.le_refl _) (I1.bC.fresh (Nat.le_refl _))
def C3(i j k:Int):Bool:=decide (k≠0)&&decide (k.natAbs<1073741824)&&Builtin.Range.small i j k
def Gx(ta:TA):TI:=fun σ H R=>ta σ H λvs H1=>∃ i j k:Int,vs=[.int i,.int j,.int k]/\C3 i j k=true/\R (En i k (Builtin.Range.rangeSize i j k).toNat) H1
theorem t7{a b c:Expr}{ta:TA}{p pos:Pos}(hg:Gl X "range")(hm:X.mg "range" = none)(ha:PA X [a,b,c] ta)(hs:starEach [a,b,c] X.env=[(false,eval a X.env),(false,eval b X.env),(false,eval c X.env)]:=by rfl)(PK:starEach [b,c] X.env=[(false,eval b X.env),(false,eval c X.env)]:=by rfl) :
  PI X tg (.Call (.Name "range" p) [a,b,c] [] pos) (Gx ta):=by
 intro N8 s σ H R I h
 refine Call_ (j6 I hg hm boot_range (PyProof.Rows.callWith_type1 (cB (ha pos N8 s σ H _ I h) λus s1 ⟨vs,H1,I1,r1,q1⟩=>?_) (by rw[hs,PK]) (by rw[PK];rfl)))
 obtain⟨i,j,k,e,hc,q⟩:=q1
 subst e
 cases r1 with
 | cons r rr =>
  cases rr with
  | cons r' rr =>
   cases rr with
   | cons R4 rr =>
    cases rr
    obtain⟨t,rfl⟩:=r
    obtain⟨t',rfl⟩:=r'
    obtain⟨t'',rfl⟩:=R4
    unfold C3 at hc
    rw[Bool.and_eq_true,Bool.and_eq_true] at hc
    exact call_range_3 (of_decide_eq_true hc.1.1) (z9 I1 hc.2 q) (.inl (PyProof.noPylong_small (of_decide_eq_true hc.1.2)))
end
def A3:List PV->M (List PV)
 | [.int i,.int j,.int k]=>cD (C3 i j k=true) (M.ok ((List.range (Builtin.Range.rangeSize i j k).toNat).map λ(n:Nat)=>.int (i+n*k)))
 | _=>none
section
variable{E:St->XK}{K:PySem.W.Frag}{fs:af->M (List PV)}
theorem AE{lo st:Int}{n:Nat}{Oj:Hp}:k6 (En lo st n) Oj ((List.range n).map λ(i:Nat)=>PV.int (lo+(i:Int)*st)) where
 stop:=λi Hs H s1 s2 hi=>show n<=i by simpa using hi
 go:=λi Hs H s1 s2 hi=>show i<n by simpa using hi
 xF:=λi Hs H x H2 s1 s2 hi y=>by
  obtain⟨rfl,rfl⟩:=y
  have Q4:i<n:=by simpa using hi
  exact⟨.int (lo+(i:Int)*st),Hs,by simp[Q4],.refl s2,.int _⟩
theorem AK{ps:List PV}{Q:List PV->Prop}{F:EX->Prop}(h:aA (A3 ps) Q F):∃ i j k,ps=[.int i,.int j,.int k]/\C3 i j k=true/\Q ((List.range (Builtin.Range.rangeSize i j k).toNat).map λ(n:Nat)=>.int (i+n*k)):=by
 unfold A3 at h
 split at h
 ·obtain⟨hc,h⟩:=aA.cD h
  exact⟨_,_,_,rfl,hc,h⟩
 ·exact h.elim
theorem aM.three{H:Hp}{p q r:PV}{vs:List V}(h:aM H [p,q,r] vs):∃ v u w,vs=[v,u,w]/\Rep H p v/\Rep H q u/\Rep H r w:=by
 cases h with
 | cons h r=>obtain⟨u,w,rfl,h2,h3⟩:=r.two;exact⟨_,_,_,rfl,h,h2,h3⟩
theorem vT:DS E (Gx (tL E fs)) (kI A3 fs):=by
 intro σ H R q
 refine dH (K:=KI R) KI.g q λB H₀ Hs H1 env ps v sr rp hp=>?_
 obtain⟨i,j,k,rfl,hc,hp⟩:=AK hp
 obtain⟨w,u,z,rfl,P7,ru,rz⟩:=rp.three
 cases P7
 cases ru
 cases rz
 exact⟨i,j,k,rfl,hc,hp _ Hs H1 (.refl sr.gr.sub) AE⟩
end
end L2
namespace L2
open PySem PySem.Spec PyProof.Rows
def kj:List PV->List PV->List PV->List PV
 | x::xs,y::ys,z::zs=>.tup [x,y,z]::kj xs ys zs
 | _,_,_=>[]
theorem uc:∀ {xs ys zs:List PV} {i:Nat} (h1:i<xs.length) (h2:i<ys.length) (h3:i<zs.length),(kj xs ys zs)[i]?=some (.tup [xs[i],ys[i],zs[i]])
 | x::xs,y::ys,z::zs,0,_,_,_=>rfl
 | x::xs,y::ys,z::zs,i+1,h1,h2,h3=>by
  show (kj xs ys zs)[i]?=_
  exact uc (xs:=xs) (ys:=ys) (zs:=zs) (i:=i) (by simpa using h1) (by simpa using h2) (by simpa using h3)
 | [],_,_,_,h1,_,_=>by simp at h1
 | _::_,[],_,_,_,h2,_=>by simp at h2
 | _::_,_::_,[],_,_,_,h3=>by simp at h3
theorem lL:∀ {xs ys zs:List PV},(kj xs ys zs).length=min xs.length (min ys.length zs.length)
 | x::xs,y::ys,z::zs=>by
  show (kj xs ys zs).length+1=_
  rw[lL]
  simp only[List.length_cons]
  omega
 | [],_,_=>by simp[kj]
 | _::_,[],_=>by simp[kj]
 | _::_,_::_,[]=>by simp[kj]
def yW:List PV->M (List PV)
 | [p,q,r]=>match bR p,bR q,bR r with
  | some xs,some ys,some zs=>M.ok (kj xs ys zs)
  | _,_,_=>none
 | _=>none
section
variable{E:St->XK}{K:PySem.W.Frag}{fs:af->M (List PV)}
theorem A8{b1 b2 b3:Bool}{a1 a2 a3:Addr}{Oj:Hp}{xs ys zs:List PV}{vs us ws:List V}(OW:∀ Oc H',bj Oj Oc->bj Oc H'->lZ K H' b1 a1 vs)(QN:aM Oj xs vs)(OL:∀ Oc H',bj Oj Oc->bj Oc H'->lZ K H' b2 a2 us)(QO:aM Oj ys us)
  (Qm:∀ Oc H',bj Oj Oc->bj Oc H'->lZ K H' b3 a3 ws) (RT:aM Oj zs ws):k6 (Mt K b1 b2 b3 a1 a2 a3) Oj (kj xs ys zs) where
 stop:=λi Hs H s1 s2 hi=>by
  rw[lL,QN.length,QO.length,RT.length] at hi
  exact⟨vs,us,ws,OW Hs H s1 s2,OL Hs H s1 s2,Qm Hs H s1 s2,by omega⟩
 go:=λi Hs H s1 s2 hi=>by
  rw[lL] at hi
  obtain⟨v,e,_⟩:=QN.get (List.getElem?_eq_getElem (show i<xs.length by omega))
  obtain⟨u,e',_⟩:=QO.get (List.getElem?_eq_getElem (show i<ys.length by omega))
  obtain⟨w,e'',_⟩:=RT.get (List.getElem?_eq_getElem (show i<zs.length by omega))
  exact⟨vs,us,ws,v,u,w,OW Hs H s1 s2,OL Hs H s1 s2,Qm Hs H s1 s2,e,e',e''⟩
 xF:=λi Hs H x H2 s1 s2 hi y=>by
  rw[lL] at hi
  have l1:i<xs.length:=by omega
  have l2:i<ys.length:=by omega
  have l3:i<zs.length:=by omega
  obtain⟨v,e,r⟩:=QN.get (List.getElem?_eq_getElem l1)
  obtain⟨u,e',r'⟩:=QO.get (List.getElem?_eq_getElem l2)
  obtain⟨w,e'',R4⟩:=RT.get (List.getElem?_eq_getElem l3)
  obtain⟨pa,v',u',w',hn,rfl,rfl,y1,y2,y3⟩:=y
  have z1:=y1 vs (OW Hs H s1 s2)
  have z2:=y2 us (OL Hs H s1 s2)
  have z3:=y3 ws (Qm Hs H s1 s2)
  rw[e] at z1;cases z1
  rw[e'] at z2;cases z2
  rw[e''] at z3;cases z3
  have gr:=bL.new (o:=.tup [v,u,w]) s2 hn
  exact⟨_,_,uc l1 l2 l3,gr,.tup aE (.cons ((r.mono s1).mono gr.st) (.cons ((r'.mono s1).mono gr.st) (.cons ((R4.mono s1).mono gr.st) .nil)))⟩
theorem A1{ps:List PV}{Q:List PV->Prop}{F:EX->Prop}(h:aA (yW ps) Q F):∃ p q r xs ys zs,ps=[p,q,r]/\bR p=some xs/\bR q=some ys/\bR r=some zs/\Q (kj xs ys zs):=by
 unfold yW at h
 split at h
 ·split at h
  ·exact⟨_,_,_,_,_,_,rfl,by assumption,by assumption,by assumption,h⟩
  ·exact h.elim
 ·exact h.elim
theorem wU:DS E (GA K (tL E fs)) (kI yW fs):=by
 intro σ H R q
 refine dH (K:=KI R) KI.g q λB H₀ Hs H1 env ps v sr rp hp=>?_
 obtain⟨p,q,r,xs,ys,zs,rfl,e1,e2,e3,hp⟩:=A1 hp
 obtain⟨w,u,z,rfl,P7,ru,rz⟩:=rp.three
 obtain⟨b1,a1,vs,rfl,OW,QN⟩:=lV (K:=K) sr.gr.sub P7 e1
 obtain⟨b2,a2,us,rfl,OL,QO⟩:=lV (K:=K) sr.gr.sub ru e2
 obtain⟨b3,a3,ws,rfl,Qm,RT⟩:=lV (K:=K) sr.gr.sub rz e3
 exact⟨b1,b2,b3,a1,a2,a3,rfl,⟨vs,OW Hs H1 (λ_ _ z=>z) sr.gr.sub⟩,⟨us,OL Hs H1 (λ_ _ z=>z) sr.gr.sub⟩,⟨ws,Qm Hs H1 (λ_ _ z=>z) sr.gr.sub⟩,hp _ Hs H1 (.refl sr.gr.sub) (A8 OW QN OL QO Qm RT)⟩
end
end L2
namespace L2
open PySem PySem.Spec PyProof.Rows
def nK(i j k:Nat):PV->af->M af
 | .tup [p,q,r],env=>M.ok (((env.set i (some (.sh p))).set j (some (.sh q))).set k (some (.sh r)))
 | _,_=>none
theorem zz{E:XK}{K:PySem.W.Frag}{i j k:Nat}:GR E (iU K 3 (bc (aH i) (bc (aH j) (bc (aH k) iT)))) (nK i j k):=by
 intro B H₀ Hs H σ env p v Q Z sr r h
 cases r with
 | @tup a xs vs ha hx =>
  match xs,hx with
  | [p,q,r],hx =>
   obtain⟨v,u,w,rfl,rp,rq,rr⟩:=hx.three
   exact⟨a,[v,u,w],rfl,iF.of (sr.gr.sub _ _ ha),rfl,v,[u,w],rfl,u,[w],rfl,w,[],rfl,rfl,h _ (((sr.set rp).set rq).set rr)⟩
  | [],_=>exact h.elim
  | [_],_=>exact h.elim
  | [_,_],_=>exact h.elim
  | _::_::_::_::_,_=>exact h.elim
 | _=>exact h.elim
theorem yp{i j k:Nat}:tH (nK i j k):=λp env e h n=>by
 unfold nK at h
 split at h
 ·cases h;exact lJ (lJ (lJ n))
 ·cases h
section
variable{X:Cx}{E:XK}{e:Expr}{es:List Expr}{pos pos' px:Pos}{fs:af->M (List PV)}{f h:af->M PV}{i:Nat}{x:Str}
def ownAt(i:Nat)(env:af):M (List PV):=match env[i]? with
 | some (some (.ow xs))=>M.ok xs
 | _=>none
theorem aA.own{i:Nat}{env:af}{Q:List PV->Prop}{F:EX->Prop}(h:aA (ownAt i env) Q F):∃ xs,env[i]?=some (some (.ow xs))/\Q xs:=by
 unfold ownAt at h
 split at h
 ·exact⟨_,by assumption,h⟩
 ·exact h.elim
def GO(i:Nat)(xs:List PV)(p:PV)(env:af):PV->M Out
 | .int n=>match Bj xs.length n with
  | some j=>M.ok (.nx (env.set i (some (.ow (xs.set j p)))))
  | none=>none
 | _=>none
def Kl(i:Nat)(g f:af->M PV):af->M Out:=λenv=>(f env).bind λp=>(ownAt i env).bind λxs=>(g env).bind (GO i xs p env)
theorem Gj{ie:Expr}(hi:X.N[i]?=some x)(hv:Eb X.env.scope x)(hk:PE X ie (tE (λ_=>E) h))(he:PE X e (tE (λ_=>E) f))(hd:(x==("__debug__" : Str))=false:=by decide)(Py:(x==("__classdict__" : Str))=false:=by decide)
  (ha:∀ v,assign (.Subscript (.Name x px) ie pos') X.env v=(do
   let ov ← holding [v] (eval (.Name x px) X.env)
   let iv ← holding [v,ov] (eval ie X.env)
   standAt pos'
   holding [v,ov,iv] (setItem ov iv v)
   release [v,ov,iv] []):=by intro _;rfl)
  (hs:swapsWithSole [.Subscript (.Name x px) ie pos'] e pos.line X.env=pure false:=by rfl) (hw:swappedStores [.Subscript (.Name x px) ie pos'] e X.env=pure none:=by rfl)
  (h1:(assignEach [.Subscript (.Name x px) ie pos'] X.env).map (·.2)=[assign (.Subscript (.Name x px) ie pos') X.env]:=by rfl):PS X (.Assign [.Subscript (.Name x px) ie pos'] e pos) (tS E (Kl i h f)):=by
 refine(Ir he (Ha (oj hi hv hd Py) hk set_list ha) hs hw h1).imp λD σ H q=>k_ q λB H₀ Hs H1 env p v sr rp hp=>?_
 obtain⟨xs,ex,hp⟩:=aA.own (aA.bind hp)
 obtain⟨a,vs,h1,h2,h3,h4,h5⟩:=sr.ow i xs ex
 refine⟨.ref a,h1,B,H₀,Hs,env,sr,(aA.bind hp).imp (λk hk w Ol H2 g2 rk=>?_) λe he=>he.grow sr.gr⟩
 have OU:=sr.grow g2
 cases rk with
 | int n =>
  have RN:aA (match Bj xs.length n with | some j=>M.ok (Out.nx (env.set i (some (.ow (xs.set j p))))) | none=>none) (KS D B H₀) (XW E B H₀):=hk
  split at RN
  ·rename_i j ej
   exact⟨a,vs,n,j,rfl,rfl,g2.al _ _ h2,by rw[← h5.length];exact ej,RN σ Ol _ (OU.put ex h1 ((h5.mono g2.st).set (rp.mono g2.st) j))⟩
  ·exact RN.elim
 | _=>exact hk.elim
end
theorem KO.gr{Q:VK}:KG (KO Q):=λHs H Oc H' b k g vs p Ol H2 g2 r n=>k vs p Ol H2 (g.trans g2) r n
section
variable{X:Cx}{E:St->XK}{k n:Nat}{f C:Addr}{fd:FuncData}{ps:List Str}{sem:List PV->M (List PV)}{m:Str}{p pos apos Om:Pos}{e o:Expr}{es:List Expr}{fs:af->M (List PV)}{g:af->M PV}
end
end L2
namespace L2
open PySem PySem.Spec PyProof.Rows
mutual
def qB:PV->Bool
 | .b_=>true
 | .bl _=>true
 | .int _=>true
 | .str _=>true
 | .tup xs=>om xs
 | _=>false
def om:List PV->Bool
 | []=>true
 | p::r=>qB p&&om r
end
mutual
theorem Rep.away{Hs:Hp}{a:Addr}{ws:List V}(ha:Hs a=some (.lst ws)):∀ {p:PV} {v:V},Rep Hs p v->qB p=true->Rep (rem Hs a) p v
 | _,_,.b_,_=>.b_
 | _,_,.bl b,_=>.bl b
 | _,_,.int b,_=>.int b
 | _,_,.str b,_=>.str b
 | _,_,.tup (a:=c) h r,n=>by
  have nc:c≠a:=λz=>by subst z;rw[ha] at h;cases h
  exact .tup (by unfold rem;rw[if_neg nc];exact h) (r.away ha n)
 | _,_,.lst _ _,n=>by cases n
 | _,_,.kH _ _,n=>by cases n
 | _,_,.obj _ _,n=>by cases n
 | _,_,.xU _,n=>by cases n
 | _,_,.yj _ _ _,n=>by cases n
theorem aM.away{Hs:Hp}{a:Addr}{ws:List V}(ha:Hs a=some (.lst ws)):∀ {p:List PV} {v:List V},aM Hs p v->om p=true->aM (rem Hs a) p v
 | _,_,.nil,_=>.nil
 | _,_,.cons h r,n=>by
  have n':=Bool.and_eq_true_iff.mp (show (qB _&&om _)=true from n)
  exact .cons (h.away ha n'.1) (r.away ha n'.2)
end
def B5:M PV->M PV
 | some (.ok p)=>cD (qB p=true) (M.ok p)
 | _=>none
theorem aA.B5{r:M PV}{Q:PV->Prop}{E:EX->Prop}(h:aA (L2.B5 r) Q E):aA r (λp=>qB p=true/\Q p) (λ_=>False):=by
 cases r with
 | none=>exact h
 | some r=>cases r with
  | error e=>exact h
  | ok p =>
   obtain⟨n,h⟩:=aA.cD h
   exact⟨n,h⟩
theorem bL.back{Hs H Oc H':Hp}{a:Addr}{ws:List V}(h1:Hs a=none)(hH:H a=some (.lst ws))(s:bj Hs H)(g:bL (upd Hs a (.lst ws)) H Oc H'):bL Hs H (rem Oc a) H'/\Oc a=some (.lst ws):=by
 have e:Oc a=some (.lst ws):=g.st _ _ aE
 refine⟨⟨λc u q=>?_,g.al,λc u q=>?_,λc u q1 q2=>?_⟩,e⟩
 ·have nc:c≠a:=λz=>by subst z;rw[h1] at q;cases q
  unfold rem;rw[if_neg nc]
  exact g.st c u (by rw[ax nc];exact q)
 ·unfold rem at q
  split at q
  ·cases q
  ·exact g.sub c u q
 ·unfold rem
  by_cases nc:c=a
  ·rw[if_pos nc]
  ·rw[if_neg nc]
   exact g.nw c u (by rw[ax nc];exact q1) q2
theorem SR.lend{B H₀ Hs H:Hp}{σ:St}{env:af}{i:Nat}{xs:List PV}(r:SR B H₀ Hs H σ env)(e:env[i]?=some (some (.ow xs))):∃ a vs,Hs a=none/\H a=some (.lst vs)/\SR B H₀ (upd Hs a (.lst vs)) H σ (uK i env):=by
 obtain⟨a,vs,h1,h2,h3,h4,h5⟩:=r.ow i xs e
 refine⟨a,vs,h3,h2,?_⟩
 have ne:∀ c u,Hs c=some u->c≠a:=λc u q z=>by rw[z,h3] at q;cases q
 have Oz:bj Hs (upd Hs a (.lst vs)):=λc u q=>by rw[ax (ne c u q)];exact q
 unfold uK
 rw[e]
 refine⟨⟨λc u q=>Oz c u (r.gr.st c u q),r.gr.al,λc u q=>?_,λc u q1 q2=>?_⟩,by rw[List.length_set];exact r.len,λj q ej=>?_,λj ys ej=>?_,λj k ys zs b nj e1 e2 e3 e4=>?_,λj ba C fs ej=>?_,λj k _ _ C D fs gs e1 e2=>?_⟩
 ·by_cases z:c=a
  ·subst z;rw[aE] at q;cases q;exact h2
  ·rw[ax z] at q;exact r.gr.sub c u q
 ·have z:c≠a:=λz=>by rw[z,h4] at q2;cases q2
  rw[ax z];exact r.gr.nw c u q1 q2
 ·rw[List.getElem?_set] at ej
  by_cases z:i=j
  ·subst z
   rw[if_pos rfl] at ej
   split at ej
   ·cases ej
    exact⟨.ref a,h1,.lst aE (h5.mono Oz)⟩
   ·cases ej
  ·rw[if_neg z] at ej
   obtain⟨v,q1,q2⟩:=r.sh j q ej
   exact⟨v,q1,q2.mono Oz⟩
 ·rw[List.getElem?_set] at ej
  by_cases z:i=j
  ·subst z
   rw[if_pos rfl] at ej
   split at ej <;> cases ej
  ·rw[if_neg z] at ej
   obtain⟨b,us,q1,q2,q3,q4,q5⟩:=r.ow j ys ej
   have nb:b≠a:=λw=>by subst w;exact r.sep i j xs ys b z e ej h1 q1
   exact⟨b,us,q1,q2,by rw[ax nb];exact q3,q4,q5.mono Oz⟩
 ·rw[List.getElem?_set] at e1 e2
  by_cases z:i=j
  ·subst z
   rw[if_pos rfl] at e1
   split at e1 <;> cases e1
  ·by_cases z2:i=k
   ·subst z2
    rw[if_pos rfl] at e2
    split at e2 <;> cases e2
   ·rw[if_neg z] at e1
    rw[if_neg z2] at e2
    exact r.sep j k ys zs b nj e1 e2 e3 e4
 ·rw[List.getElem?_set] at ej
  by_cases z:i=j
  ·subst z
   rw[if_pos rfl] at ej
   split at ej <;> cases ej
  ·rw[if_neg z] at ej
   obtain⟨dx,us,q1,q2,q3,q4,q5⟩:=r.bd j ba C fs ej
   have nb:ba≠a:=λw=>by subst w;rw[h2] at q2;cases q2
   exact⟨dx,us,q1,q2,by rw[ax nb];exact q3,q4,q5.mono Oz⟩
 ·rw[List.getElem?_set] at e1 e2
  by_cases z:i=j
  ·subst z
   rw[if_pos rfl] at e1
   split at e1 <;> cases e1
  ·by_cases z2:i=k
   ·subst z2
    rw[if_pos rfl] at e2
    split at e2 <;> cases e2
   ·rw[if_neg z] at e1
    rw[if_neg z2] at e2
    exact r.one j k _ _ C D fs gs e1 e2
def xv(i:Nat)(f:af->M PV):af->M PV:=λenv=>(ownAt i env).bind λ_=>B5 (f (uK i env))
section
variable{X:Cx}{E:St->XK}{e:Expr}{f:af->M PV}{u:af->M Bool}
theorem zP(i:Nat)(he:PE X e (tE E f)):PE X e (tE E (xv i f)):=he.imp fun σ H Q q=>by
 obtain⟨B,H₀,Hs,env,sr,q⟩:=q
 obtain⟨xs,ex,q⟩:=aA.own (aA.bind q)
 obtain⟨a,vs,h3,h2,OU⟩:=sr.lend ex
 refine⟨B,H₀,_,_,OU,(aA.B5 q).imp (λp hp v Oc H' g r=>?_) λ_ z=>z.elim⟩
 obtain⟨g2,ea⟩:=bL.back h3 h2 sr.gr.sub g
 exact hp.2 v _ _ g2 (r.away ea hp.1)
end
end L2
namespace L2
open PySem PySem.Spec PyProof.Rows
def bq:PV->PV->M PV:=xO (λ_ j=>decide (j≠0/\j.natAbs.log2<9000)) λi j=>i.fdiv j
def cw:PV->PV->M PV:=xO (λ_ j=>decide (j≠0)) λi j=>i.fmod j
def wI:PV->PV->M PV:=xO (λi j=>decide (0<=j/\j<=1000000/\i.natAbs<2^64)) λi j=>i^j.toNat
def DK:PV->PV->M PV:=C4 λi j=>decide (i<j)
def D_:PV->PV->M PV:=C4 λi j=>decide (i<=j)
def JW:PV->PV->M PV:=C4 λi j=>decide (j<i)
def JS:PV->PV->M PV:=C4 λi j=>decide (j<=i)
section
variable{E:St->XK}
theorem Dr:mM E (rI DB λi j=>.int (i.fdiv j)) bq:=Fo
theorem FN:mM E (rI (λ_ j=>j≠0) λi j=>.int (i.fmod j)) cw:=Hv
theorem FO:mM E (rI Jh λi j=>.int (i^j.toNat)) wI:=JC
theorem uA:mM E (ze λi j=>.bl (decide (i<j))) DK:=uG
theorem oI:mM E (ze λi j=>.bl (decide (i<=j))) D_:=uG
theorem CQ:mM E (ze λi j=>.bl (decide (j<i))) JW:=uG
theorem Cm:mM E (ze λi j=>.bl (decide (j<=i))) JS:=uG
end
def aV(n:Nat)(s:List PV->M PV):List PV->M PV:=λps=>cD (ps.length=n) (s ps)
theorem nv{n:Nat}{s:List PV->M PV}{ps:List PV}(h:aV n s ps≠none):ps.length=n:=by
 unfold aV cD at h
 split at h
 ·assumption
 ·exact(h rfl).elim
section
variable{P:Program}{w:World}{K:PySem.W.Frag}{mg:Str->Option Value}{base:Heap}
theorem Dx{k n:Nat}{f:Addr}{fd:FuncData}{ps:List Str}{s:List PV->M PV}(F:aI P w K mg base (bH P w) k f fd ps (c7 n s)):aI P w K mg base (bH P w) k f fd ps (c7 n (aV n s)) where
 len:=λvs H Q E h=>by
  obtain⟨h0,Hs,qs,sm,r,h⟩:=h
  exact F.len vs H Q E ⟨h0,Hs,qs,sm,r,(aA.cD h).2⟩
 run:=λA outer s H args us vs Q E hr e hb rv h=>by
  obtain⟨h0,Hs,qs,sm,r,h⟩:=h
  exact F.run A outer s H args us vs Q E hr e hb rv ⟨h0,Hs,qs,sm,r,(aA.cD h).2⟩
structure cq (P:Program) (w:World) (K:PySem.W.Frag) (mg:Str->Option Value) (base:Heap) (n:Nat) (x:Str) (m:Nat) (sem:List PV->M PV):Prop where
 ex:∃ (f:Addr) (fd:FuncData) (ps:List Str),mg x=some (.ref f)/\PySem.W.keepIn K (.ref f)=true/\ps.length=m/\Binds K fd ps []/\aI P w K mg base (bH P w) n f fd ps (c7 m (aV m sem))
theorem aS.eJ{x qual:Str}{st:Stmt}{dv:Value}{f:Addr}{fd:FuncData}{N ps:List Str}{k:Nat}{g:af->M Out}(F:aS K x qual st dv f fd)(S:aw N ps (au st))
  (hb:∀ (OA:Value) (A:Around) (outer:List Env) (s:Shared) (H:Hp) (E:XK),bX k (A.deeper (envOfC qual (au st) s.heap.objs.size f OA))->e9 ((pU (bH P w) P w K mg base N qual (au st) f OA A outer s H E).out λ_=>E) (λ_=>E)->mH ((pU (bH P w) P w K mg base N qual (au st) f OA A outer s H E).out λ_=>E) (gc st) (tS E g)) :
  aI P w K mg base (bH P w) (k+1) f fd ps (c7 ps.length (aV ps.length (ay N.length g))):=by
 obtain⟨oc,od,kV,doc,pm,an,OA,ct,Qx,rfl,lk,Py⟩:=F.ex
 exact Dx (JF lk Py S λA outer s H E hr=>hb OA A outer s H E hr (BG rfl rfl))
end
section
variable{X:Cx}{E:St->XK}{n m k:Nat}{x:Str}{sem:List PV->M PV}{e:Expr}{es:List Expr}{fs:af->M (List PV)}{p pos:Pos}
theorem cq.call(F:cq X.prog X.w X.K X.mg X.base n x m sem)(hr:bX k X.A)(hn:n<=k)(hg:Gl X x)(O:e9 X E)(ha:PA X (e::es) (tL E fs))(Ph:(x==("__debug__" : Str))=false:=by decide)(he:starEach (e::es) X.env=(false,eval e X.env)::starEach es X.env:=by rfl)(OB:(backTo pos (starEach es X.env)).any (·.1)=false:=by rfl) :
  PE X (.Call (.Name x p) (e::es) [] pos) (tE E (ai (aV m sem) fs)):=by
 obtain⟨f,fd,ps,h1,h2,h3,h4,h5⟩:=F.ex
 have:=FY (p:=p) (PQ:=[]) h5 (hr.mono hn) hg h1 h2 h4 .nil (λ_=>.nil) O (λPL hp=>by rw[List.append_nil] at hp;exact nv hp) ha Ph he OB
 refine this.imp fun σ H Q q=>?_
 have e:(λps=>aV m sem (ps++[]))=aV m sem:=by funext ps;rw[List.append_nil]
 rw[e];exact q
structure iV (P:Program) (w:World) (K:PySem.W.Frag) (mg:Str->Option Value) (base:Heap) (C:Addr) (n:Nat) (x:Str) (m:Nat) (sem:List PV->M PV):Prop where
 ex:∃ (f:Addr) (fd:FuncData) (ps:List Str),lq K C/\Meth K C x f/\Binds K fd ps []/\aI P w K mg base (bH P w) n f fd ps (c7 m (aV m sem))
theorem iV.call{C:Addr}{o:Expr}{g:af->M PV}{apos:Pos}{pl:Sem Bool}(F:iV X.prog X.w X.K X.mg X.base C n x m sem)(hr:bX k X.A)(hn:n<=k)(O:e9 X E)(ho:PE X o (tE E g))(ha:PA X (e::es) (tL E fs))
  (Oz:starEach (e::es) X.env=(false,eval e X.env)::starEach es X.env:=by rfl) (OB:(backTo pos (starEach es X.env)).any (·.1)=false:=by rfl)
  (ht:eval (.Call (.Attribute o x apos) (e::es) [] pos) X.env=(do
   let ov ← eval o X.env
   standAt apos.atName
   let (f,first) ← holding [ov] (getMethod ov x pl)
   callWith pos f first (backTo pos (starEach (e::es) X.env)) (backToKw pos (keywordEach [] X.env))):=by rfl) :
  PE X (.Call (.Attribute o x apos) (e::es) [] pos) (tE E (bD C x (aV m sem) g fs)):=by
 obtain⟨f,fd,ps,h1,h2,h3,h4⟩:=F.ex
 exact E6 ho h1 h2 h4 (hr.mono hn) h3 O (λPL hp=>nv hp) ha Oz OB ht
theorem iV.By{C:Addr}{o:Expr}{g:af->M PV}{apos:Pos}{pl:Sem Bool}(F:iV X.prog X.w X.K X.mg X.base C n x m sem)(hr:bX k X.A)(hn:n<=k)(O:e9 X E)(ho:PE X o (tE E g))
  (ht:eval (.Call (.Attribute o x apos) [] [] pos) X.env=(do
   let ov ← eval o X.env
   standAt apos.atName
   let (f,first) ← holding [ov] (getMethod ov x pl)
   callWith pos f first (backTo pos (starEach [] X.env)) (backToKw pos (keywordEach [] X.env))):=by rfl) :
  PE X (.Call (.Attribute o x apos) [] [] pos) (tE E (bD C x (aV m sem) g ao)):=by
 obtain⟨f,fd,ps,h1,h2,h3,h4⟩:=F.ex
 exact Bt ho h1 h2 h4 (hr.mono hn) h3 O (λPL hp=>nv hp) ht
end
structure Bl (P:Program) (w:World) (K:PySem.W.Frag) (mg:Str->Option Value) (base:Heap) (C:Addr) (n:Nat) (x:Str) (m:Nat) (PQ:List PV) (sem:Addr->List PV->M (List (Str×PV))):Prop where
 ex:∃ (f:Addr) (fd:FuncData) (ps:List Str) (ds:List Value) (OX:List V),mg x=some (.ref C)/\Mk K C f/\Binds K fd ps ds/\Vals OX ds/\(∀ H,aM H PQ OX)/\aI P w K mg base (bH P w) n f fd ps (Ea m C sem)
def mW(m:Nat)(sem:Addr->List PV->M (List (Str×PV))):Addr->List PV->M (List (Str×PV)):=λa ps=>cD (ps.length+1=m) (sem a ps)
theorem z_{P:Program}{w:World}{K:PySem.W.Frag}{mg:Str->Option Value}{base:Heap}{k n:Nat}{f C:Addr}{fd:FuncData}{ps:List Str}{s:Addr->List PV->M (List (Str×PV))}(F:aI P w K mg base (bH P w) k f fd ps (Ea n C s)):aI P w K mg base (bH P w) k f fd ps (Ea n C (mW n s)) where
 len:=λvs H Q E h=>by
  obtain⟨h0,a,dx,us,Hs,H1,qs,e1,e2,e3,e4,e5,sm,r,h⟩:=h
  exact F.len vs H Q E ⟨h0,a,dx,us,Hs,H1,qs,e1,e2,e3,e4,e5,sm,r,(aA.cD h).2⟩
 run:=λA outer s H args us vs Q E hr e hb rv h=>by
  obtain⟨h0,a,dx,us',Hs,H1,qs,e1,e2,e3,e4,e5,sm,r,h⟩:=h
  exact F.run A outer s H args us vs Q E hr e hb rv ⟨h0,a,dx,us',Hs,H1,qs,e1,e2,e3,e4,e5,sm,r,(aA.cD h).2⟩
theorem aS.LI{P:Program}{w:World}{K:PySem.W.Frag}{mg:Str->Option Value}{base:Heap}{x qual:Str}{st:Stmt}{dv:Value}{f C:Addr}{fd:FuncData}{N ps:List Str}{k:Nat}{g:af->M Out}(F:aS K x qual st dv f fd)(S:aw N ps (au st))(hN:0<N.length)
  (hb:∀ (OA:Value) (A:Around) (outer:List Env) (s:Shared) (H:Hp) (E:XK),bX k (A.deeper (envOfC qual (au st) s.heap.objs.size f OA))->e9 ((pU (bH P w) P w K mg base N qual (au st) f OA A outer s H E).out λ_=>E) (λ_=>E)->mH ((pU (bH P w) P w K mg base N qual (au st) f OA A outer s H E).out λ_=>E) (gc st) (tS E g)) :
  aI P w K mg base (bH P w) (k+1) f fd ps (Ea ps.length C (mW ps.length (rY N.length g C))):=by
 obtain⟨oc,od,kV,doc,pm,an,OA,ct,Qx,rfl,lk,Py⟩:=F.ex
 exact z_ <| Ep lk Py S hN λA outer s H E hr=>hb OA A outer s H E hr (BG rfl rfl)
section
variable{X:Cx}{E:St->XK}{n m k:Nat}{x:Str}{e:Expr}{es:List Expr}{fs:af->M (List PV)}{p pos:Pos}
theorem Bl.make{C:Addr}{PQ:List PV}{sem:Addr->List PV->M (List (Str×PV))}(F:Bl X.prog X.w X.K X.mg X.base C n x m PQ (mW m sem))(hr:bX k X.A)(hn:n+1<=k)(hg:Gl X x)(O:e9 X E)(ha:PA X (e::es) (tL E fs))(Ph:(x==("__debug__" : Str))=false:=by decide)(he:starEach (e::es) X.env=(false,eval e X.env)::starEach es X.env:=by rfl)(OB:(backTo pos (starEach es X.env)).any (·.1)=false:=by rfl) :
  PE X (.Call (.Name x p) (e::es) [] pos) (tE E (ai (eh C (mW m sem) PQ) fs)):=by
 obtain⟨f,fd,ps,ds,OX,h1,h2,h4,h5,h6,h7⟩:=F.ex
 refine E3 (p:=p) h2 h7 (hr.mono hn) hg h1 h4 h5 h6 O (λa PL hp=>?_) ha Ph he OB
 unfold mW cD at hp
 split at hp
 ·rename_i h;rwa [List.length_append] at h
 ·exact(hp rfl).elim
end
def nR:Addr->Option Bool:=λ_=>none
theorem jo{P:Addr->Bool->Prop}:∀ C b,nR C=some b->P C b:=λ_ _ h=>by cases h
theorem vr{X:Cx}{E:St->XK}{x:Str}{pos:Pos}(i:Nat)(hN:X.N[i]?=some x:=by rfl)(hv:Eb X.env.scope x:=by first | exact .inl rfl | exact .inr (.inl rfl) | exact .inr (.inr rfl))(hd:(x==("__debug__" : Str))=false:=by decide)(Py:(x==("__classdict__" : Str))=false:=by decide):PE X (.Name x pos) (tE E (ae i)):=JI hN hv hd Py
end L2
namespace L2
open PySem PySem.Spec PyProof.Rows
theorem Gu{env:Env}{e:Expr}{es:List Expr}(h:(match e with | .Starred ..=>true | _=>false)=false):starEach (e::es) env=(false,eval e env)::starEach es env:=by
 cases e <;> first | rfl | cases h
def lM:List Expr->Option (List Int)
 | []=>some []
 | .Constant (.int i) _ _::r=>(lM r).map (i::·)
 | _=>none
section
variable{X:Cx}{E:St->XK}{pos:Pos}
theorem y_:∀ {es:List Expr} {ns:List Int},lM es=some ns->PA X es (tL E λ_=>M.ok (ns.map PV.int))
 | [],_,h=>by cases h;exact DW
 | .Constant (.int i) j p::r,ns,h=>by
  obtain⟨ms,h1,rfl⟩:=Option.map_eq_some_iff.mp (show (lM r).map (i::·)=some ns from h)
  exact zw Cq (y_ h1) (Gu rfl)
theorem zL{es:List Expr}(ns:List Int)(h:lM es=some ns:=by rfl)(hz:ns.length<=1000:=by decide):PE X (.List es pos) (tE E λ_=>M.ok (.lst (ns.map PV.int))):=by
 refine(BE (E:=E) (y_ h)).imp fun σ H Q q=>?_
 have e:(sk λ_=>M.ok (ns.map PV.int))=λ_=>M.ok (.lst (ns.map PV.int)):=by
  funext env
  show cD _ _=_
  unfold cD
  rw[if_pos (by rw[List.length_map];exact Nat.le_trans hz (by decide))]
 rw[e];exact q
end
end L2
namespace L2
open PySem PySem.Spec PyProof.Rows
def Bz:PV->PV->M (List PV)
 | .lst xs,.int k=>cD (-(2^63)<=k/\k<2^63/\xs.length*k.toNat<=sizeLine) (M.ok (List.replicate k.toNat xs).flatten)
 | _,_=>none
def Iu(f g:af->M PV):af->M (List PV):=λenv=>(f env).bind λp=>(g env).bind λq=>Bz p q
section
variable{X:Cx}{E:St->XK}{a b:Expr}{pos:Pos}{f g:af->M PV}
theorem Hm(ha:PE X a (tE E f))(hb:PE X b (tE E g)):PE X (.BinOp a .Mult b pos) (tO E (Iu f g)):=by
 refine(GB CP ha hb).imp fun σ H Q q=>bU (K:=KO Q) KO.gr q λB H₀ Hs H1 env p v sr rp hp=>?_
 refine⟨B,H₀,Hs,env,sr,(aA.bind hp).imp (λq hq u Oc H' g' ru=>?_) λe he=>he⟩
 have P9:=sr.grow g'
 have rp':=rp.mono g'.st
 cases rp' with
 | @lst l xs vs ha hx=>cases ru with
  | int k =>
   obtain⟨⟨h1,h2,h3⟩,h⟩:=aA.cD hq
   exact⟨l,k,vs,rfl,rfl,P9.gr.sub _ _ ha,h1,h2,by rw[← hx.length];exact h3,λp n=>h _ p Oc H' g' (hx.rep _) n⟩
  | _=>exact hq.elim
 | _=>exact hq.elim
end
end L2
namespace L2
open PySem PySem.Spec PyProof.Rows
structure z0 (K:PySem.W.Frag) (mg:Str->Option Value) (C:Addr) (x:Str):Prop where
 hc:PySem.W.excIn K C fS "ValueError.__new__" = true
 c:h_ K C
 ht:PySem.W.typeIn K (.ref C)=some (.type "type")
 kp:PySem.W.keepIn K (.ref C)=true
 m:mg x=some (.ref C)
structure sR (P:Program) (w:World) (K:PySem.W.Frag) (mg:Str->Option Value) (base:Heap) (C:Addr) (x fl:Str):Prop where
 ex:∃ (f:Addr) (fd:FuncData) (ps:List Str),rh K C "ValueError.__new__" f=true/\PySem.W.isFn K (.ref f)=true/\aI P w K mg base (bH P w) 1 f fd ps (AI K C fl)/\Binds K fd ps []
 c:h_ K C
 ht:PySem.W.typeIn K (.ref C)=some (.type "type")
 kp:PySem.W.keepIn K (.ref C)=true
 m:mg x=some (.ref C)
section
variable{X:Cx}{E:XK}{e:Expr}{es:List Expr}{pos p Om:Pos}{x fl:Str}{C:Addr}{k:Nat}{fs:af->M (List PV)}
theorem z0.raise(F:z0 X.K X.mg C x)(O:e9 X λ_=>E)(Oq:X.calm=true)(hg:Gl X x)(ha:PA X (e::es) (tL (λ_=>E) fs))
  (Ph:(x==("__debug__" : Str))=false:=by decide) (he:starEach (e::es) X.env=(false,eval e X.env)::starEach es X.env:=by rfl) (OB:(backTo Om (starEach es X.env)).any (·.1)=false:=by rfl) :
  PS X (.Raise (some (.Call (.Name x p) (e::es) [] Om)) none pos) (tS E (kU C fs)):=zW O Oq F.hc F.c F.ht F.kp hg F.m ha Ph he OB
theorem sR.raise(F:sR X.prog X.w X.K X.mg X.base C x fl)(hr:bX k X.A)(hn:2<=k)(O:e9 X λ_=>E)(Oq:X.calm=true)(hg:Gl X x)(ha:PA X [e] (tL (λ_=>E) fs))
  (Ph:(x==("__debug__" : Str))=false:=by decide) (he:starEach [e] X.env=(false,eval e X.env)::starEach [] X.env:=by rfl) (OB:(backTo Om (starEach [] X.env)).any (·.1)=false:=by rfl) :
  PS X (.Raise (some (.Call (.Name x p) [e] [] Om)) none pos) (tS E (jX C fl fs)):=by
 obtain⟨f,fd,ps,h1,h2,h3,h4⟩:=F.ex
 exact AY O Oq h1 h2 F.c F.ht F.kp h3 (hr.mono hn) h4 hg F.m ha Ph he OB
end
end L2
namespace L2
open PySem PySem.Spec PyProof.Rows
section
variable{X:Cx}{E:St->XK}
end
end L2
namespace L2
open PySem PySem.Spec PyProof.Rows
end L2
namespace L2
open PySem PySem.Spec PyProof.Rows
def HG(i j:Nat)(env:af):List PV->M Out
 | [p,q]=>M.ok (.nx ((env.set i (some (.sh p))).set j (some (.sh q))))
 | _=>none
def wj(i j:Nat)(fs:af->M (List PV)):af->M Out:=λenv=>(fs env).bind (HG i j env)
theorem yA{X:Cx}{E:XK}{i j:Nat}{x y:Str}{a b:Expr}{fs:af->M (List PV)}{px py pt pos:Pos}{kt k2:Nat}{Rq:Pos}(hc:X.calm=true)(hN:X.N.Nodup)(hi:X.N[i]?=some x)(hj:X.N[j]?=some y)(hij:i≠j)
  (hx:X.env.scope.names.lookup x=some .local) (hy:X.env.scope.names.lookup y=some .local) (ha:PA X [a,b] (tL (λ_=>E) fs))
  (hw:swappedStores [.Tuple [.Name x px,.Name y py] kt pt] (.Tuple [a,b] k2 Rq) X.env=pure (some [x,y]))
  (hs:swapsWithSole [.Tuple [.Name x px,.Name y py] kt pt] (.Tuple [a,b] k2 Rq) pos.line X.env=pure false:=by rfl) :
  PS X (.Assign [.Tuple [.Name x px,.Name y py] kt pt] (.Tuple [a,b] k2 Rq) pos) (tS E (wj i j fs)):=by
 refine(Hh hc hN hi hj hij hx hy ha hw hs).imp λD σ H q=>qD q λB H₀ Hs H1 env ps v sr rp hp=>?_
 match ps,rp,hp with
 | [],_,hp=>exact hp.elim
 | [_],_,hp=>exact hp.elim
 | _::_::_::_,_,hp=>exact hp.elim
 | [p,q],rp,hp =>
  obtain⟨v,u,rfl,r1,r2⟩:=rp.two
  exact⟨v,u,rfl,hp _ Hs H1 ((sr.set r1).set r2)⟩
end L2
namespace L2
open PySem PySem.Spec PyProof.Rows
section
variable{X:Cx}{E:St->XK}{pos:Pos}
end
end L2
namespace L2
open PySem PySem.Spec PyProof.Rows
section
variable{X:Cx}{tg elt iter c:Expr}{scope:Scope}{cl:List (Str×Addr)}{pos:Pos}{wi:TI}{it:af->M (List PV)}{g:TG}{set:PV->af->M af}{f:af->M PV}{ts fs:List Str}{js:List Nat}
theorem C1{E:St->XK}{σ:St}{H:Hp}{Q:VK}(hv:DS E wi it)(Rt:∀ E,GR E g set)(so:tH set)(q:tO E (da it set none f ts.length js) σ H Q):yF wi g (tE EF f) ts js σ H Q:=by
 refine hv σ H _ ?_
 obtain⟨B,H₀,Hs,env,sr,q⟩:=q
 refine⟨B,H₀,Hs,env,sr,(aA.bind q).imp (λxs hp J Oj H1 gr ok D hD=>?_) λe he=>he⟩
 obtain⟨hz,hp⟩:=aA.cD hp
 have hp:=aA.Bn hp
 have Rr:=sr.grow gr
 refine⟨λi m σ H=>m=xs.length-i/\i<=xs.length/\Jc set none f Q Oj H1 D xs i σ H,⟨xs.length,by simp,Nat.zero_le _,Oj,_,[],[],Rr.block hD,fL,aE,?_,.nil,Nat.le_refl _,hp.imp (λzs hz vs p Ol H2 g2 r n=>hz vs p Ol H2 (gr.trans g2) r n) λ_ z=>z⟩,?_⟩
 ·cases z:Oj D with
  | none=>rfl
  | some o=>have:=gr.sub _ _ z;rw[hD] at this;cases this
 rintro i m σ' H2 ⟨rfl,hi,Ol,env2,ys,vs,OU,n2,d1,d2,r2,l2,h2⟩
 by_cases Pz:i<xs.length
 ·refine .inr ⟨ok.go i Ol H2 OU.gr.st OU.gr.sub Pz,Jc set none f Q Oj H1 D xs (i+1),fun σ3 H3 j=>⟨xs.length-(i+1),by omega,rfl,Pz,j⟩,λx H3 y=>?_⟩
  obtain⟨p,Qa,ep,g3,r3⟩:=ok.xF i Ol H2 x H3 OU.gr.st OU.gr.sub Pz y
  have hd:xs.drop i=p::xs.drop (i+1):=by
   rw[List.drop_eq_getElem_cons Pz]
   rw[List.getElem?_eq_getElem Pz] at ep
   rw[Option.some.inj ep]
  rw[hd] at h2
  have h3:=aA.bind h2
  have Qo:=OU.grow g3
  refine Rt (λ_ _ _=>False) Oj H1 Qa H3 σ' env2 p x _ (λ_=>False) Qo r3 ?_
  cases hset:set p env2 with
  | none=>rw[hset] at h3;exact h3
  | some z=>cases z with
   | error e=>rw[hset] at h3;exact h3
   | ok e3 =>
    rw[hset] at h3
    intro σ4 sr4
    have n4:=so p env2 e3 hset n2
    refine⟨Oj,H1,Qa,e3,sr4,(aA.bind h3).imp (λy hy v Hs5 H5 g5 r5=>?_) λ_ z=>z.elim⟩
    exact Jc.put (set:=set) (t:=none) (f:=f) hD (sr4.grow g5) n4 (g5.al _ _ (g3.al _ _ d1)) (g5.nw _ _ (g3.nw _ _ d2 d1) (g3.al _ _ d1)) ((r2.mono g3.st).mono g5.st) l2 (by omega) r5 hy
 ·refine .inl ⟨ok.stop i Ol H2 OU.gr.st OU.gr.sub (by omega),?_⟩
  exact Jc.done (set:=set) (t:=none) (f:=f) (xs:=xs) (Oj:=Oj) (H1:=H1) (i:=i) hD ⟨Ol,env2,ys,vs,OU,n2,d1,d2,r2,l2,h2⟩ (by omega)
variable{E:XK}{i:Nat}{y:Str}{py QX:Pos}
theorem vd(Oq:X.calm=true)
  (OZ:closureFor scope X.env=pure cl) (hk:scope.kind=.function) (nc:jq scope.names=true) (lo:lO scope.names=true) (fh:lK cl scope.names=true) (ag:gF X cl) (fr:kS X scope cl fs js)
  (hi:PI X tg iter wi) (hv:DS (λ_=>E) wi it) (hg:∀ C s₀ H₀ ex N8,PG (xI X scope cl (ts++fs) C s₀ H₀ ex N8) tg g) (Rt:∀ E,GR E g set) (so:tH set) (he:∀ C s₀ H₀ ex N8,PE (xI X scope cl (ts++fs) C s₀ H₀ ex N8) elt (tE EF f))
  (hN:X.N.Nodup) (hiy:X.N[i]?=some y) (hy:Loc X.env.scope y)
  (hs:∀ x,foldedSetIterable iter X.env x=pure x:=by intro _;rfl) (RV:swapsWith (.ListComp elt [⟨tg,iter,[],0⟩] scope pos) (some (.Name y py)) QX.line X.env=pure true:=by rfl)
  (hf:X.fn y=true\/X.env.scope.names.lookup y=some .local:=by first | exact .inl rfl | exact .inr rfl | assumption) :
  PS X (.Assign [.Name y py] (.ListComp elt [⟨tg,iter,[],0⟩] scope pos) QX) (tS E (aY i (dy (da it set none f ts.length js)))):=by
 refine(Fq hN hiy hy Oq OZ hk nc lo fh ag fr hi hg he hs RV hf).imp λD σ H q=>?_
 refine C1 hv Rt so ?_
 obtain⟨B,H₀,Hs,env,sr,q⟩:=q
 refine⟨B,H₀,Hs,env,sr,(aA.bind (aA.bind q)).imp (λps hp vs p Oc H' g r n=>?_) λe he=>he.grow sr.gr⟩
 have gn:=bL.new (o:=.lst vs) g.sub n
 exact hp _ _ _ ((sr.grow (g.trans gn)).set (.lst aE (r.mono gn.st)))
end
end L2
namespace L2
open PySem PySem.Spec PyProof.Rows
section
variable{X:Cx}{tg:Expr}{a:Expr}{ta:TA}{p pos:Pos}
end
section
variable{E:St->XK}{X:Cx}{fs:af->M (List PV)}{a tg:Expr}{p p2 pos pos2:Pos}
end
end L2
namespace L2
open PySem PySem.Spec PyProof.Rows
open AutoSeq1 (wpAny_loadPart')
theorem zV(l:Addr)(items:Array Value)(n:Nat)(dct:Option Addr)(sl:Array (Option Value)) :
  Meets (Builtin.«enumerate.__new__» ⟨[.type "enumerate", .ref l],[]⟩) (λ_ R s=>s.heap.get? l=some { cls:=.type "tuple", dict:=dct,data:=.seq items n,slots:=sl } ∧
   R (.ok (.ret (.ref (s.heap.push { cls:=.type "tuple_iterator", data:=.fields #[.ref l,.int 0 0] }).objs.size)))
    { s with heap:=(s.heap.push { cls:=.type "tuple_iterator", data:=.fields #[.ref l,.int 0 0] }).push { cls:=.type "enumerate", data:=.fields #[.none,.bool false,.ref s.heap.objs.size,rawInt 0,.none,.none] } }) :=
 .of_wp λprog w A R s h=>by
  obtain⟨hp,g,d,tk,os⟩:=s;obtain⟨hl,h⟩:=h
  have RU:=sub_enumerate
  have hL:Heap.IsTuple (Shared.heap ⟨hp,g,d,tk,os⟩) l items:=⟨_,hl,rfl,n,rfl⟩
  wp_walk using wpAny_loadPart' hl
  refine wpAny_stack_any λst=>wpAny_pure ?_
  split
  ·rename_i c _ _ _ _ _
   cases (c==Value.type "enumerate")
   ·wp_walk using wpAny_loadPart' hl,wpAny_pyIter_tuple hL
    exact⟨_,rfl,h⟩
   ·wp_walk using wpAny_loadPart' hl,wpAny_pyIter_tuple hL
    exact⟨_,rfl,h⟩
  ·wp_walk using wpAny_loadPart' hl,wpAny_pyIter_tuple hL
   exact⟨_,rfl,h⟩
section
variable{prog:Program}{w:World}{A:Around}{E:Value->Shared->Prop}{s:Shared}
theorem yd{l:Addr}{items:Array Value}{Q:Value->Shared->Prop}(hL:s.heap.IsTuple l items)
  (h:∀ h',IsEnum h' (s.heap.objs.size+1) s.heap.objs.size 0 .none->h'.IsTupleIter s.heap.objs.size l 0->h'.objs.size=s.heap.objs.size+2 ->
   (∀ b o,s.heap.get? b=some o->h'.get? b=some o)->Q (.ref (s.heap.objs.size+1)) { s with heap:=h' }) :
  wpAny (model prog w) A (call (.type "enumerate") [.ref l]) Q E s:=by
 obtain⟨⟨c,dct,dt,sl⟩,hl,hc,n,hd⟩:=hL
 replace hc:c=.type "tuple" := hc
 replace hd:dt=.seq items n:=hd
 subst hc hd
 refine callType_new F.called_enumerate (by decide) (F.typeCall_enumerate_1 _) (F.newCall_enumerate_1 _) (λobj=>F.args_object_init_2 obj _) F.entry_enumerate_new
  (zV l items n dct sl) ⟨hl,?_⟩
 have hz:(s.heap.push { cls:=.type "tuple_iterator", data:=.fields #[.ref l,.int 0 0] }).objs.size=s.heap.objs.size+1:=Heap.size_push ..
 show _/\_
 rw[hz]
 have he:IsEnum ((s.heap.push { cls:=.type "tuple_iterator", data:=.fields #[.ref l,.int 0 0] }).push
   { cls:=.type "enumerate", data:=.fields #[.none,.bool false,.ref s.heap.objs.size,rawInt 0,.none,.none] }) (s.heap.objs.size+1) s.heap.objs.size 0 .none:=by
  have:=Heap.get?_push_size (s.heap.push { cls:=.type "tuple_iterator", data:=.fields #[.ref l,.int 0 0] })
   (o:={ cls:=.type "enumerate", data:=.fields #[.none,.bool false,.ref s.heap.objs.size,rawInt 0,.none,.none] }) rfl
  rw[hz] at this;exact this
 refine⟨⟨_,he,rfl⟩,h _ he ⟨_,Heap.get?_push_of_some _ (Heap.get?_push_size _ rfl),rfl,rfl⟩ (by rw[Heap.size_push,hz]) λb o x=>Heap.get?_push_of_some _ (Heap.get?_push_of_some _ x)⟩
end
theorem H0{prog:Program}{w:World}{A:Around}(hh:A.handled=none)(it t:Addr)(items:Array Value) :
  Draws prog w A it [it,t] items.size (λi v=>items[i]?=some v) (λi h=>h.IsTupleIter it t i/\h.IsTuple t items) where
 live:=λ_ _ st=>let ⟨⟨o,ho,_⟩,_⟩:=st;⟨o,ho⟩
 frame:=λ_ _ _ st hk=>by
  obtain⟨⟨o,ho,r⟩,⟨o2,QA,r2⟩⟩:=st
  exact⟨⟨o,hk it (by simp) o ho,r⟩,⟨o2,hk t (by simp) o2 QA,r2⟩⟩
 item:=λi s Q E hi st hQ=>by
  obtain⟨st,tt⟩:=st
  refine iX st tt (x:=items[i]) (by simp[hi]) λh' Rj Ry=>?_
  refine hQ _ h' s.toks (by simp[hi]) ⟨Rj,?_⟩ Ry
  obtain⟨o,ho,c1,_⟩:=st
  obtain⟨o2,QA,c2,r2⟩:=tt
  refine⟨o2,(Ry.2 t λz=>?_).trans QA,c2,r2⟩
  rw[z,ho] at QA;cases QA
  rw[c1] at c2;exact absurd c2 (by decide)
 done:=λs Q E st hE=>fP hh st.1 st.2 (by simp) hE
section
variable{X:Cx}
def G4 (K : PySem.W.Frag) (a : Addr) : It :=
  ⟨λi H => ∃ xs x, iF K H a xs /\ xs[i]? = some x,
   λi H y H' => ∃ p x, H p = none /\ y = .ref p /\ H' = upd H p (.tup [.int i, x]) /\ ∀ xs, iF K H a xs -> xs[i]? = some x,
   λi H => ∃ xs, iF K H a xs /\ xs.length <= i⟩
theorem yG{P:Program}{w:World}{K:PySem.W.Frag}{elts:List Expr}{x1:Nat}{tp:Pos}(a e it:Addr)(Qj:e≠it):Turn P w K (.Tuple elts x1 tp) (G4 K a) [e,it] e (λi h=>(∃ old,IsEnum h e it i old)/\h.IsTupleIter it a i) where
 mem:=by simp
 obj:=λi h st b hb=>by
  obtain⟨⟨old,he⟩,⟨o,e1,c,d⟩⟩:=st
  rcases List.mem_cons.mp hb with z | z
  ·subst z
   exact⟨_,he,λv z=>by cases z⟩
  ·have z':b=it:=by simpa using z
   subst z'
   exact⟨o,e1,λv z=>by rw[d] at z;cases z⟩
 keep:=λi h h' st k=>by
  obtain⟨⟨old,he⟩,⟨o,ho,r⟩⟩:=st
  exact⟨⟨old,k e (by simp) _ he⟩,⟨o,k it (by simp) o ho,r⟩⟩
 item:=by
  intro X hP hw hK hc i N8 s σ H E I hf st hg
  subst hP hw hK
  obtain⟨xs,x,hq,hx⟩:=hg
  obtain⟨Ob,rv,p,hz⟩:=I.tuple hq
  obtain⟨u,hu,ru⟩:=rv.get hx
  obtain⟨⟨old,he⟩,hit⟩:=st
  have QI:e<s.heap.objs.size:=Heap.lt_size he
  have Ri:it<s.heap.objs.size:=by obtain⟨_,z,_⟩:=hit;exact Heap.lt_size z
  have hea:e ∉ [it,a]:=λz=>by
   rcases List.mem_cons.mp z with z | z
   ·exact Qj z
   ·obtain⟨o,ho,c,_⟩:=p
    rw[← List.mem_singleton.mp z,he] at ho
    cases ho;exact absurd (show Value.type "enumerate" = Value.type "tuple" from c) (by decide)
  have Q4:i<Ob.toArray.size:=by
   have:=(List.getElem?_eq_some_iff.mp hu).1
   simpa using this
  refine wpAny_pyNext_enum_itemD (H0 (A:=X.A.in1) (I.ok.hd hc) it a Ob.toArray) he ⟨hit,p⟩ Q4 Qj hea λu' h' tk hu' ho Oz hT PX hk=>⟨_,rfl,?_⟩
  have eu:u'=u:=by
   rw[List.getElem?_toArray,hu] at hu';exact(Option.some.inj hu').symm
  subst eu
  refine wpAny_letOwnedTupleGo_enum (s:={ s with heap:=h',toks:=tk+1 }) ho λh2 he2 PK=>?_
  have QR:∀ b o,b ∉ [e,it]->s.heap.get? b=some o->h2.get? b=some o:=λb o hb q=>by
   have n1:b≠e:=λz=>hb (by simp[z])
   have n2:b≠it:=λz=>hb (by simp[z])
   exact(PK.2 b n1).trans (hk b o n1 n2 q)
  have QZ:h2.get? s.heap.objs.size=some { cls:=.type "tuple", data:=.seq #[.int i tk,u'] }:=(PK.2 _ (Nat.ne_of_gt QI)).trans hT
  have I2:Inv X N8 σ (upd H s.heap.objs.size (.tup [.int i,x])) { s with heap:=h2,toks:=tk+1 } :=
   I.lQ (ch:=[e,it]) QR hf (Nat.le_refl _) (λb hb=>by
    rcases List.mem_cons.mp hb with z | z
    ·subst z;exact⟨_,he⟩
    ·have z':b=it:=by simpa using z
     subst z'
     obtain⟨o,z,_⟩:=hit
     exact⟨o,z⟩)
    ⟨by show 2<=sizeLine;decide,[.int i tk,u'],.cons ⟨_,rfl⟩ (.cons ru .nil),⟨_,QZ,rfl,_,rfl⟩⟩
  have PH:H s.heap.objs.size=none:=I.bC.fresh (Nat.le_refl _)
  obtain⟨oi,hoi,ri⟩:=Oz.1
  refine⟨.ref s.heap.objs.size,_,I2,rfl,⟨_,x,PH,rfl,rfl,λys hy=>by rw[I.n8 hy hq];exact hx⟩,⟨⟨u',by simpa using he2⟩,⟨oi,(PK.2 it (Ne.symm Qj)).trans hoi,ri⟩⟩,λb hb=>?_⟩
  have nb:b≠s.heap.objs.size:=by
   rcases List.mem_cons.mp hb with z | z
   ·rw[z];exact Nat.ne_of_lt QI
   ·have z':b=it:=by simpa using z
    rw[z'];exact Nat.ne_of_lt Ri
  rw[ax nb]
  exact(hf b hb).1
 done:=by
  intro X hP hw hK hc i N8 s σ H E I hf st hg
  subst hP hw hK
  obtain⟨xs,hq,hx⟩:=hg
  obtain⟨Ob,rv,p,hz⟩:=I.tuple hq
  have hl:=rv.length
  obtain⟨⟨old,he⟩,hit⟩:=st
  obtain⟨f0,f1,f2,f3,f4,f5⟩:=hf it (by simp)
  have hT:s.TypeIs (.ref e) "enumerate" := ⟨_,he,rfl⟩
  unfold pyNext
  refine wpAny_bind (wpAny_attempt (wpAny_callSpecial?_slot (name:=Str.ofString "__next__") hT F.slot_enumerate_next
   (wpAny_call_entry F.slot_enumerate_next hT F.entry_enumerate_next ?_ (F.args_enumerate_next_1 _))))
  show wpAny _ _ (field (.ref e) 2 >>= _) _ _ _
  refine wpAny_bind (wpAny_field he rfl (x:=.ref it) rfl ?_)
  refine wpAny_bind (fP (I.ok.hd hc) hit p (by simp;omega) λh' x he' Rn=>?_)
  obtain⟨o,ho,Q1⟩:=Rn
  refine wpAny_bind (wpAny_isInstance (T := "StopIteration") (b:=true) ⟨o,ho,Q1⟩ isSubtype_stop ?_)
  exact wpAny_pure ⟨rfl,I.turned (t':=s.toks) (λb o hb e=>he' b o hb e) f0 f1 f3 f4 f5⟩
 self:=λ_ _ _ _ _ st h=>by
  obtain⟨⟨old,he⟩,_⟩:=st
  exact wpAny_pyIter_enum he h
def K7(K:PySem.W.Frag)(tl:TA):TI:=fun σ H R=>tl σ H λvs H1=>∃ a,vs=[.ref a]/\(((∃ xs,iS K H1 a xs)/\R (IW K a) H1)\/((∃ xs,iF K H1 a xs)/\R (G4 K a) H1))
theorem qx{elts:List Expr}{x1:Nat}{tp:Pos}{l:Expr}{tl:TA}{p pos:Pos}(hg:Gl X "enumerate")(hm:X.mg "enumerate" = none)(hl:PA X [l] tl)(hs:starEach [l] X.env=[(false,eval l X.env)]:=by rfl) :
  PI X (.Tuple elts x1 tp) (.Call (.Name "enumerate" p) [l] [] pos) (K7 X.K tl):=by
 intro N8 s σ H R I h
 refine Call_ (j6 I hg hm PyProof.Rows.boot_enumerate (PyProof.Rows.callWith_type1 (cB (hl pos N8 s σ H _ I h) λus s1 ⟨vs,H1,I1,r1,q1⟩=>?_) hs rfl))
 obtain⟨a,e,q⟩:=q1
 subst e
 cases r1 with
 | cons r rr =>
  cases rr
  cases (show _=Value.ref a from r)
  have fp:∀ b∈[s1.heap.objs.size+1,s1.heap.objs.size],nG X N8 H1 b:=λb hb=>by
   rcases List.mem_cons.mp hb with z | z
   ·subst z
    exact I1.vq (Nat.le_succ _) (I1.bC.fresh (Nat.le_succ _))
   ·have z':b=s1.heap.objs.size:=by simpa using z
    subst z'
    exact I1.vq (Nat.le_refl _) (I1.bC.fresh (Nat.le_refl _))
  rcases q with ⟨⟨xs,hq⟩,q⟩ | ⟨⟨xs,hq⟩,q⟩
  ·obtain⟨Ob,rv,pl,hz⟩:=I1.list hq
   refine call_enumerate_list pl.isList λh' he hit PX hk=>?_
   refine wpAny_pyIter_enum (s:={ s1 with heap:=h' }) he ?_
   exact⟨s1.heap.objs.size+1,[s1.heap.objs.size+1,s1.heap.objs.size],_,_,H1,rfl,I1.kept (t':=s1.toks) hk,Ak a _ _ (Nat.succ_ne_self _),⟨⟨_,he⟩,hit⟩,fp,q⟩
  ·obtain⟨Ob,rv,pl,hz⟩:=I1.tuple hq
   refine yd pl λh' he hit PX hk=>?_
   refine wpAny_pyIter_enum (s:={ s1 with heap:=h' }) he ?_
   exact⟨s1.heap.objs.size+1,[s1.heap.objs.size+1,s1.heap.objs.size],_,_,H1,rfl,I1.kept (t':=s1.toks) hk,yG a _ _ (Nat.succ_ne_self _),⟨⟨_,he⟩,hit⟩,fp,q⟩
end
def Mu(p:PV):M (List PV):=match bR p with
 | some xs=>M.ok (jd xs)
 | none=>none
def Ed:List PV->M (List PV)
 | [p]=>Mu p
 | _=>none
section
variable{E:St->XK}{K:PySem.W.Frag}{fs:af->M (List PV)}
theorem Dj{a:Addr}{Oj:Hp}{xs:List PV}{vs:List V}(hq:∀ Oc H',bj Oj Oc->bj Oc H'->iF K H' a vs)(hr:aM Oj xs vs):k6 (G4 K a) Oj (jd xs) where
 stop:=λi Hs H s1 s2 hi=>by
  unfold jd at hi
  rw[List.length_mapIdx,hr.length] at hi
  exact⟨vs,hq Hs H s1 s2,hi⟩
 go:=λi Hs H s1 s2 hi=>by
  unfold jd at hi
  rw[List.length_mapIdx] at hi
  obtain⟨v,e,_⟩:=hr.get (List.getElem?_eq_getElem hi)
  exact⟨vs,v,hq Hs H s1 s2,e⟩
 xF:=λi Hs H x H2 s1 s2 hi y=>by
  unfold jd at hi
  rw[List.length_mapIdx] at hi
  obtain⟨v,e,r⟩:=hr.get (List.getElem?_eq_getElem hi)
  obtain⟨pa,v',hn,rfl,rfl,y1⟩:=y
  have z1:=y1 vs (hq Hs H s1 s2)
  rw[e] at z1;cases z1
  have gr:=bL.new (o:=.tup [.int (i:Nat),v]) s2 hn
  refine⟨.tup [.int (i:Nat),xs[i]],_,?_,gr,.tup aE (.cons (.int _) (.cons ((r.mono s1).mono gr.st) .nil))⟩
  unfold jd
  rw[List.getElem?_mapIdx,List.getElem?_eq_getElem hi]
  rfl
theorem mU:DS E (K7 K (tL E fs)) (kI Ed fs):=by
 intro σ H R q
 refine dH (K:=KI R) KI.g q λB H₀ Hs H1 env ps v sr rp hp=>?_
 match ps,rp,hp with
 | [],_,hp=>exact hp.elim
 | _::_::_,_,hp=>exact hp.elim
 | [p],rp,hp =>
  obtain⟨w,rfl,P7⟩:=rp.one
  cases P7 with
  | lst ha hx=>exact⟨_,rfl,.inl ⟨⟨_,iS.of (sr.gr.sub _ _ ha)⟩,hp _ Hs H1 (.refl sr.gr.sub) (ug (λOc H' s1 s2=>iS.of (s2 _ _ (s1 _ _ ha))) hx)⟩⟩
  | kH ha hx=>exact⟨_,rfl,.inl ⟨⟨_,.inl (.inr ⟨_,sr.gr.sub _ _ ha⟩)⟩,hp _ Hs H1 (.refl sr.gr.sub) (ug (λOc H' s1 s2=>.inl (.inr ⟨_,s2 _ _ (s1 _ _ ha)⟩)) hx)⟩⟩
  | tup ha hx=>exact⟨_,rfl,.inr ⟨⟨_,iF.of (sr.gr.sub _ _ ha)⟩,hp _ Hs H1 (.refl sr.gr.sub) (Dj (λOc H' s1 s2=>iF.of (s2 _ _ (s1 _ _ ha))) hx)⟩⟩
  | _=>exact hp.elim
end
end L2
namespace L2
open PySem PySem.Spec PyProof.Rows
def L4(E:St->XK)(f:af->M Out):TS:=λD σ H=>∃ B H₀ Hs env,SR B H₀ Hs H σ env/\aA (f env) (KS D B H₀) (XW (E σ) Hs H)
theorem AW{E:St->XK}{f:af->M PV}{g:af->PV->M Out}{D:Ends}{σ:St}{H:Hp}{R:VK}(h:L4 E (λenv=>(f env).bind (g env)) D σ H)
  (k:∀ B H₀ Hs H1 env p v,SR B H₀ Hs H1 σ env->Rep Hs p v->aA (g env p) (KS D B H₀) (λ_=>True)->R v H1):tE E f σ H R:=by
 obtain⟨B,H₀,Hs,env,sr,h⟩:=h
 refine⟨B,H₀,Hs,env,sr,(aA.bind h).imp (λp hp v Oc H' g r=>?_) λe he=>he⟩
 exact k B H₀ Oc H' env p v (sr.grow g) r (hp.imp (λ_ z=>z) λ_ _=>trivial)
section
variable{X:Cx}{E:St->XK}{e:Expr}{pos pos':Pos}{f:af->M PV}{i:Nat}{x:Str}
theorem Fc(he:PE X e (tE E f))(hs:swapsWith e none pos.line X.env=pure false:=by rfl):mH X [.Expr e pos] (L4 E (gL f)):=by
 intro N8 s σ H D I q
 exact xp (ur he hs) zx N8 s σ H D I (AW q λB H₀ Hs H1 env p v sr rp hp=>hp σ Hs H1 sr)
end
theorem SR.unset{B H₀ Hs H:Hp}{σ:St}{env:af}{i:Nat}(r:SR B H₀ Hs H σ env):SR B H₀ Hs H (σ.set i none) (env.set i none):=by
 have key:∀ (j:Nat) (q:SV),(env.set i none)[j]?=some (some q)->env[j]?=some (some q)/\i≠j:=λj q e=>by
  rw[List.getElem?_set] at e
  by_cases z:i=j
  ·rw[if_pos z] at e
   split at e <;> cases e
  ·rw[if_neg z] at e;exact⟨e,z⟩
 have old:∀ j,i≠j->(σ.set i none)[j]?=σ[j]?:=λj z=>by rw[List.getElem?_set,if_neg z]
 refine⟨r.gr,by rw[List.length_set,List.length_set];exact r.len,λj q e=>?_,λj xs e=>?_,λj k xs ys a n e1 e2 e3=>?_,λj a C fs e=>?_,λj k a b C D fs gs e1 e2=>?_⟩
 ·obtain⟨e,z⟩:=key j _ e
  rw[old j z];exact r.sh j q e
 ·obtain⟨e,z⟩:=key j _ e
  rw[old j z];exact r.ow j xs e
 ·obtain⟨e1,z1⟩:=key j _ e1
  obtain⟨e2,z2⟩:=key k _ e2
  rw[old j z1] at e3
  rw[old k z2];exact r.sep j k xs ys a n e1 e2 e3
 ·obtain⟨e,z⟩:=key j _ e
  rw[old j z];exact r.bd j a C fs e
 ·exact r.one j k a b C D fs gs (key j _ e1).1 (key k _ e2).1
section
variable{X:Cx}{E:St->XK}{e:Expr}{pos pos':Pos}{f:af->M PV}{i:Nat}{x:Str}
end
abbrev Cx.qM(X:Cx)(pn:List (Addr×Obj)):Cx:={ X with pn:=pn }
abbrev Cx.hand(X:Cx)(ea:Addr):Cx:={ X with A:=X.A.mark (some (.ref ea)),calm:=false,xe:=λ_ _=>False }
section
variable{X:Cx}{N8 Qi:List (Addr×Obj)}{σ:St}{H:Hp}{s:Shared}{ea:Addr}
theorem Cx.Ok.qM(ok:X.Ok)(pn:List (Addr×Obj)):(X.qM pn).Ok:=⟨ok.mod,ok.kind,ok.glob,ok.blt,ok.above,ok.inj,ok.has,ok.GU,ok.hd,ok.frames,ok.IB,ok.JU,ok.bs,ok.CO,ok.vg,ok.wa,ok.mv,ok.Ec⟩
theorem Cx.Ok.rn{pn:List (Addr×Obj)}(ok:(X.qM pn).Ok):X.Ok:=⟨ok.mod,ok.kind,ok.glob,ok.blt,ok.above,ok.inj,ok.has,ok.GU,ok.hd,ok.frames,ok.IB,ok.JU,ok.bs,ok.CO,ok.vg,ok.wa,ok.mv,ok.Ec⟩
theorem Cx.Ok.hand(ok:X.Ok)(ea:Addr):(X.hand ea).Ok:=⟨ok.mod,ok.kind,ok.glob,ok.blt,ok.above,ok.inj,ok.has,ok.GU,(λz=>nomatch z),ok.frames,ok.IB,ok.JU,ok.bs,ok.CO,ok.vg,ok.wa,ok.mv,ok.Ec⟩
theorem Inv.qM(I:Inv X N8 σ H s):Inv (X.qM (X.pn++N8)) [] σ H s:=⟨I.ok.qM _,I.os,I.bare,I.base,I.loc,I.cell,I.free,I.gM,(λp hp=>I.pin p (by rw[List.append_nil] at hp;exact hp)),I.bC,I.len⟩
theorem Inv.rn(I:Inv (X.qM (X.pn++N8)) Qi σ H s):Inv X N8 σ H s:=⟨I.ok.rn,I.os,I.bare,I.base,I.loc,I.cell,I.free,I.gM,(λp hp=>I.pin p (List.mem_append_left _ hp)),I.bC,I.len⟩
theorem Inv.hand(I:Inv X N8 σ H s)(ea:Addr):Inv (X.hand ea) N8 σ H s:=⟨I.ok.hand ea,I.os,I.bare,I.base,I.loc,I.cell,I.free,I.gM,I.pin,I.bC,I.len⟩
theorem Inv.je(I:Inv (X.hand ea) N8 σ H s)(ok:X.Ok):Inv X N8 σ H s:=⟨ok,I.os,I.bare,I.base,I.loc,I.cell,I.free,I.gM,I.pin,I.bC,I.len⟩
theorem Inv.BS{Hc:Hp}{T C:Addr}{dd:Option Addr}{fl:Value}(I:Inv X N8 σ (oH Hc ea T C dd fl) s)(h1:Hc ea=some (iR C dd ea))(h2:Hc T=none)(h3:T≠ea):Inv X N8 σ Hc s:=by
 have no:∀ b,oH Hc ea T C dd fl b=none->Hc b=none:=λb e=>by
  by_cases z:b=ea
  ·rw[z,qh] at e;cases e
  ·by_cases z2:b=T
   ·rw[z2];exact h2
   ·rw[j8 z z2] at e;exact e
 have so:∀ b o,oH Hc ea T C dd fl b=some o->(∀ φ,o≠.ext φ)->Hc b=some o:=λb o e n=>by
  by_cases z:b=ea
  ·rw[z,qh] at e;cases e;exact absurd rfl (n _)
  ·by_cases z2:b=T
   ·rw[z2,qp h3] at e;cases e;exact absurd rfl (n _)
   ·rw[j8 z z2] at e;exact e
 refine⟨I.ok,I.os,I.bare,⟨I.base.keep,I.base.slot,λb o e n hx=>no b (I.base.free b o e n hx),I.base.there,λb xs e=>so b _ (I.base.rR b xs e) (λ_ z=>nomatch z),λb o u e=>so b _ (I.base.mz b o u e) (λ_ z=>nomatch z),λb ps e=>?_⟩,I.loc,I.cell,no _ I.free,λx c e=>no _ (I.gM x c e),λp hp=>?_,λb o e=>?_,I.len⟩
 ·obtain⟨more,q⟩:=I.base.rX b ps e
  exact⟨more,so b _ q λ_ z=>nomatch z⟩
 ·obtain⟨e,n,r⟩:=I.pin p hp
  exact⟨e,no _ n,r⟩
 ·by_cases z:b=ea
  ·subst z
   rw[h1] at e;cases e
   obtain⟨vs,_,_,hx,_⟩:=I.AZ h3
   exact Ey hx
  ·by_cases z2:b=T
   ·rw[z2,h2] at e;cases e
   ·refine(I.bC b o (by rw[j8 z z2];exact e)).mR (λ_ _ _ q=>q) (λc q=>so c _ q λ_ z=>nomatch z) λc xs q=>so c _ q λ_ z=>nomatch z
theorem Inv.gone{A:Around}{E:Value->Shared->Prop}{i:Nat}{n:Str}{pos:Pos}{Q:Unit->Shared->Prop}(I:Inv X N8 σ H s)(hN:X.N.Nodup)(hi:X.N[i]?=some n)(hx:X.env.scope.names.lookup n=some .local)
  (h:∀ s',Inv X N8 (σ.set i none) H s'->Q () s'):wpAny (model X.prog X.w) A (do bindName X.env n .none;unbindBehindTheSuite X.env n pos) Q E s:=by
 obtain⟨m,hn,hl⟩:=id I.loc
 have Bm:=I.Bm
 refine wpAny_nameGoes_keeps hx hn (by rw[I.ok.kind];rfl) λh' v RR hs=>?_
 obtain⟨oL,_,_,hoL,_⟩:=id hn
 have tracked:oy X.prog X.w H h':=λb ob e=>by
  refine(I.bC b ob e).mR (λc w' hc q=>(hs.2 c ?_).trans q) (λ_ q=>q) λ_ _ q=>q
  rintro rfl
  rcases hc with z | hc
  ·rw[← z,I.free] at e;cases e
  ·rw[I.free] at hc;cases hc
 refine h _ ⟨I.ok,I.os,I.bare,⟨λb o e n hb hx=>?_,λb o e n hb hx=>?_,I.base.free,λb o e hx=>?_,I.base.rR,I.base.mz,I.base.rX⟩,⟨_,RR,λj y v' e1 e2 e3=>?_⟩,λy c e=>?_,I.free,I.gM,λp hp=>?_,tracked,by simpa using I.len⟩
 ·exact(hs.2 b (Nat.ne_of_lt (Nat.lt_of_lt_of_le (Heap.lt_size e) I.ok.above))).trans (I.base.keep b o e n hb hx)
 ·obtain⟨sl,e1⟩:=I.base.slot b o e n hb hx
  exact⟨sl,(hs.2 b (Nat.ne_of_lt (Nat.lt_of_lt_of_le (Heap.lt_size e) I.ok.above))).trans e1⟩
 ·obtain⟨o',e1⟩:=I.base.there b o e hx
  exact⟨o',(hs.2 b (Nat.ne_of_lt (Nat.lt_of_lt_of_le (Heap.lt_size e) I.ok.above))).trans e1⟩
 ·have hj:i≠j:=λz=>by
   subst z
   rw[List.getElem?_set,if_pos rfl] at e2
   split at e2 <;> cases e2
  rw[List.getElem?_set_ne hj] at e2
  obtain⟨u',r',q⟩:=hl j y v' e1 e2 e3
  refine⟨u',r',?_⟩
  rcases q with ⟨k,e⟩ | ⟨k,c,e,z⟩
  ·refine .inl ⟨k,?_⟩
   have:y≠n:=λe=>hj (qX hN hi (e▸e1))
   simp[this,e]
  ·exact .inr ⟨k,c,e,z.sameBut hs (Bm y c e)⟩
 ·obtain⟨w',z⟩:=I.cell y c e
  exact⟨w',z.sameBut hs (Bm y c e)⟩
 ·obtain⟨e,n,ne,nf,d⟩:=I.pin p hp
  exact⟨(hs.2 p.1 ne).trans e,n,ne,nf,d⟩
end
abbrev Hd:=(Addr->Option Bool)×Option Nat×(af->M Out)
def Cd(i:Nat):Out->Out
 | .nx e=>.nx (e.set i none)
 | .bk e=>.bk (e.set i none)
 | .ct e=>.ct (e.set i none)
 | .rt p=>.rt p
def rO(o:Option Nat)(h:af->M Out)(x:EX)(env:af):M Out:=match o with
 | none=>Bn (h env)
 | some i=>(Bn (h (env.set i (some (.sh (.exc x.1 x.2)))))).bind λout=>M.ok (Cd i out)
def vv(b:Option Bool)(x y:M Out):M Out:=match b with
 | some true=>x
 | some false=>y
 | none=>none
def jB:List Hd->EX->af->M Out
 | [],_,_=>none
 | (t,o,h)::r,x,env=>vv (t x.1) (rO o h x env) (jB r x env)
def yf(r:M Out)(k:EX->M Out):M Out:=match r with
 | some (.error x)=>k x
 | r=>r
def Ek(f:af->M Out)(hs:List Hd):af->M Out:=λenv=>yf (f env) λx=>jB hs x env
inductive GQ (X:Cx) (E:XK):List ExceptHandler->List Hd->Prop where
 | nil:GQ X E [] []
 | GC {x:Str} {np pos:Pos} {b₀:Stmt} {P8:List Stmt} {rest:List ExceptHandler} {t:Addr->Option Bool} {h:af->M Out} {hs:List Hd} {D:Addr} (hg:Gl X x) (hm:X.mg x=some (.ref D)) (hd:(x==("__debug__" : Str))=false)
   (ht:∀ C b,t C=some b->PySem.W.exmOne X.K (.ref C) (.ref D)=some b) (hb:∀ ea,mH (X.hand ea) (b₀::P8) (tS E h)) (r:GQ X E rest hs):GQ X E (.ExceptHandler (some (.Name x np)) none (b₀::P8) pos::rest) ((t,none,h)::hs)
 | Lm {x n:Str} {i:Nat} {np pos:Pos} {b₀:Stmt} {P8:List Stmt} {rest:List ExceptHandler} {t:Addr->Option Bool} {h:af->M Out} {hs:List Hd} {D:Addr} (hg:Gl X x) (hm:X.mg x=some (.ref D)) (hd:(x==("__debug__" : Str))=false)
   (hN:X.N.Nodup) (hi:X.N[i]?=some n) (hx:X.env.scope.names.lookup n=some .local)
   (ht:∀ C b,t C=some b->PySem.W.exmOne X.K (.ref C) (.ref D)=some b) (hb:∀ ea,mH (X.hand ea) (b₀::P8) (tS E h)) (r:GQ X E rest hs):GQ X E (.ExceptHandler (some (.Name x np)) (some n) (b₀::P8) pos::rest) ((t,some i,h)::hs)
section
variable{X:Cx}{N8:List (Addr×Obj)}{σ:St}{H Hc B H₀ Hs:Hp}{s:Shared}{ea T C:Addr}{dd:Option Addr}{E:XK}{env:af}{fo:Option (List (Str×PV))}{D:Ends}{Z:EX->Prop}{F:Value->Shared->Prop}
theorem SP.je{D:Ends}{f:Flow}{s':Shared}(h:SP (X.hand ea) N8 D f s')(ok:X.Ok):SP X N8 D f s':=by
 cases f with
 | next=>obtain⟨σ',H',I,q⟩:=h;exact⟨σ',H',I.je ok,q⟩
 | brk=>obtain⟨σ',H',I,q⟩:=h;exact⟨σ',H',I.je ok,q⟩
 | cont=>obtain⟨σ',H',I,q⟩:=h;exact⟨σ',H',I.je ok,q⟩
 | ret u=>obtain⟨v,σ',H',I,r,q⟩:=h;exact⟨v,σ',H',I.je ok,r,q⟩
theorem aA.err{α:Type}{r:M α}{Q:α->Prop}{E':EX->Prop}(h:aA r Q (λ_=>False)):aA r Q E':=h.imp (λ_ z=>z) λ_ z=>z.elim
def Ends.gone(D:Ends)(i:Nat):Ends:=⟨fun σ H=>D.nx (σ.set i none) H,D.rt,fun σ H=>D.bk (σ.set i none) H,fun σ H=>D.ct (σ.set i none) H⟩
theorem KS.gone{i:Nat}{o:Out}(h:KS D B H₀ (Cd i o)):KS (D.gone i) B H₀ o:=by
 cases o with
 | nx e=>exact fun σ Hs H sr=>h _ Hs H sr.unset
 | bk e=>exact fun σ Hs H sr=>h _ Hs H sr.unset
 | ct e=>exact fun σ Hs H sr=>h _ Hs H sr.unset
 | rt p=>exact h
theorem D6{M:Model}{o:Obj}(hx:s.heap.get? ea=some o):PySem.W.Looks M s.heap (typeOf (.ref ea)) o.cls:=by
 intro A Q E s' k q
 exact Bs (k _ _ hx) q
theorem GQ.run{RQ:List ExceptHandler}{hd:List Hd}(hh:GQ X E RQ hd):∀ {s:Shared},Inv X N8 σ (oH Hc ea T C dd .none) s->Hc ea=some (iR C dd ea)->Hc T=none->T≠ea->SR B H₀ Hs Hc σ env->Rep Hs (.exc C fo) (.ref ea) ->
  aA (jB hd (C,fo) env) (KS D B H₀) Z->wpAny (model X.prog X.w) X.A (handleBy (.ref ea) X.env RQ) (SP X N8 D) F s:=by
 induction hh with
 | nil=>intro s I h1 h2 h3 sr rp q;exact q.elim
 | @GC x np pos b₀ P8 rest t h hs Dc hg hm hd ht hb r ih =>
  intro s I h1 h2 h3 sr rp q
  obtain⟨vs,oT,ts,hx,_⟩:=I.AZ h3
  refine wpAny_handleBy_cons (codeAny_handlers_test (kd (I.hand ea) hg hm ?_ hd)) (λq=>nomatch q)
  have LT:=D6 (M:=model X.prog X.w) hx
  cases e:t C with
  | none=>simp only[jB,e,vv] at q;exact q.elim
  | some b =>
   refine(PySem.W.exm_one I.jZ LT (ht C b e)).here ?_
   cases b with
   | false =>
    simp only[jB,e,vv] at q
    exact ih I h1 h2 h3 sr rp q
   | true =>
    simp only[jB,e,vv,rO] at q
    refine codeAny_handlers_suite ((I.hand ea).qJ (fr:=none) h3 λh' I2=>?_)
    refine wpAny_mono (hb ea N8 _ σ Hc D (I2.BS h1 h2 h3) ⟨B,H₀,Hs,env,sr,(aA.Bn q).err⟩) (λf s' z=>z.je I.ok) λ_ _ z=>z.elim
 | @Lm x n i np pos b₀ P8 rest t h hs Dc hg hm hd hN hi hxn ht hb r ih =>
  intro s I h1 h2 h3 sr rp q
  obtain⟨vs,oT,ts,hx,_⟩:=I.AZ h3
  refine wpAny_handleBy_cons (codeAny_handlers_test (kd (I.hand ea) hg hm ?_ hd)) (λq=>nomatch q)
  have LT:=D6 (M:=model X.prog X.w) hx
  cases e:t C with
  | none=>simp only[jB,e,vv] at q;exact q.elim
  | some b =>
   refine(PySem.W.exm_one I.jZ LT (ht C b e)).here ?_
   cases b with
   | false =>
    simp only[jB,e,vv] at q
    exact ih I h1 h2 h3 sr rp q
   | true =>
    simp only[jB,e,vv,rO] at q
    refine codeAny_handlers_suite_as ((I.hand ea).qJ (fr:=none) h3 λh' I2=>?_)
    refine kR (X:=X.hand ea) (v:=.ref ea) (i:=i) (I2.BS h1 h2 h3) hN hi (.inl hxn) rfl (λs3 I3=>?_) (.inr hxn)
    refine wpAny_mono (hb ea N8 _ _ Hc (D.gone i) I3 ⟨B,H₀,Hs,_,sr.set rp,(aA.Bn (E:=Z) ?_).err⟩) (λf s' z=>?_) λ_ _ z=>z.elim
    ·exact(aA.bind q).imp (λo z=>KS.gone z) λ_ z=>z
    ·cases f with
     | next=>obtain⟨σ',H',I4,d⟩:=z;exact(I4.je I.ok).gone hN hi hxn λs5 I5=>⟨_,H',I5,d⟩
     | brk=>obtain⟨σ',H',I4,d⟩:=z;exact(I4.je I.ok).gone hN hi hxn λs5 I5=>⟨_,H',I5,d⟩
     | cont=>obtain⟨σ',H',I4,d⟩:=z;exact(I4.je I.ok).gone hN hi hxn λs5 I5=>⟨_,H',I5,d⟩
     | ret u=>obtain⟨v,σ',H',I4,rv,d⟩:=z;exact(I4.je I.ok).gone hN hi hxn λs5 I5=>⟨v,_,H',I5,rv,d⟩
theorem HS{body:List Stmt}{h₀:ExceptHandler}{RQ:List ExceptHandler}{pos:Pos}{f:af->M Out}{hd:List Hd}(Oz:X.stack=X.env::X.outer)(hf:X.env.frame=some X.env.locals)
  (hb:∀ (pn:List (Addr×Obj)) (E2:St->XK),e9 ((X.qM pn).out E2) E2->mH ((X.qM pn).out E2) body (L4 E2 f)) (hh:GQ X E (h₀::RQ) hd):PS X (.Try body (h₀::RQ) [] [] pos) (tS E (Ek f hd)):=by
 intro N8 s σ H D I q
 obtain⟨B,H₀,Hs,env,sr,q⟩:=q
 refine wpAny_Try_except ?_
 let E2:St->XK:=fun σ v _ Hc=>∃ Hs C fo ea,v=.ref ea/\SR B H₀ Hs Hc σ env/\Rep Hs (.exc C fo) (.ref ea)/\aA (jB hd (C,fo) env) (KS D B H₀) (XW E B H₀)
 have q1:aA (f env) (KS D B H₀) (XW (E2 σ) Hs H):=by
  unfold Ek at q
  cases e:f env with
  | none=>rw[e] at q;exact q
  | some r =>
   rw[e] at q
   cases r with
   | ok o=>exact q
   | error x=>exact λea Oc H' g rp=>⟨Oc,x.1,x.2,ea,rfl,sr.grow g,rp,q⟩
 refine wpAny_mono (hb (X.pn++N8) E2 (BG Oz hf) [] s σ H D (I.qM.r0 _) ⟨B,H₀,Hs,env,sr,q1⟩) (λfl s1 hq=>?_) (λe s1 z=>?_)
 ·cases fl with
  | next=>obtain⟨σ',H',I',d⟩:=hq;exact wpAny_execs_nil ⟨σ',H',I'.e7.rn,d⟩
  | brk=>obtain⟨σ',H',I',d⟩:=hq;exact⟨σ',H',I'.e7.rn,d⟩
  | cont=>obtain⟨σ',H',I',d⟩:=hq;exact⟨σ',H',I'.e7.rn,d⟩
  | ret u=>obtain⟨v,σ',H',I',r,d⟩:=hq;exact⟨v,σ',H',I'.e7.rn,r,d⟩
 ·refine Zx.note (X:=X.qM (X.pn++N8)) z Oz hf λs' ea C dd Qi σ' Hc T he I2 h1 h2 h3 h4=>?_
  subst he
  refine I2.qJ (fr:=none) h3 λh' I3=>?_
  obtain⟨Oc,C',fo,ea',ee,P9,rp,hp⟩:=h4
  cases ee
  have I4:=I3.BS h1 h2 h3
  have eC:C'=C:=by
   obtain⟨vs,hx⟩:=I4.qR h1
   cases rp with
   | xU hr =>
    obtain⟨vs2,PY⟩:=I4.qR (P9.gr.sub _ _ hr)
    rw[hx] at PY;injection PY with PY;injection PY with PY;injection PY with PY;exact PY.symm
   | yj hr _ _ =>
    obtain⟨vs2,PY⟩:=I4.qR (P9.gr.sub _ _ hr)
    rw[hx] at PY;injection PY with PY;injection PY with PY;injection PY with PY;exact PY.symm
  subst eC
  exact hh.run I3.rn h1 h2 h3 P9 rp hp
end
end L2
namespace L2
open PySem PySem.Spec PyProof.Rows
def mi(ys ns:List Addr)(C:Addr):Option Bool:=if ys.contains C=true then some true else if ns.contains C=true then some false else none
theorem rC{ys ns:List Addr}{C:Addr}{b:Bool}(h:mi ys ns C=some b):(b=true/\C∈ys)\/(b=false/\C∈ns):=by
 unfold mi at h
 by_cases h1:ys.contains C=true
 ·rw[if_pos h1] at h;cases h;exact .inl ⟨rfl,by simpa using h1⟩
 ·rw[if_neg h1] at h
  by_cases h2:ns.contains C=true
  ·rw[if_pos h2] at h;cases h;exact .inr ⟨rfl,by simpa using h2⟩
  ·rw[if_neg h2] at h;cases h
def D9(f:Addr->Option Bool)(ys ns:List Addr):Bool:=ys.all (λC=>f C==some true)&&ns.all λC=>f C==some false
theorem yC{f:Addr->Option Bool}{ys ns:List Addr}(h:D9 f ys ns=true){C:Addr}{b:Bool}(e:mi ys ns C=some b):f C=some b:=by
 unfold D9 at h
 rw[Bool.and_eq_true,List.all_eq_true,List.all_eq_true] at h
 rcases rC e with ⟨rfl,m⟩ | ⟨rfl,m⟩
 ·exact eq_of_beq (h.1 C m)
 ·exact eq_of_beq (h.2 C m)
structure M3 (K:PySem.W.Frag) (mg:Str->Option Value) (x:Str) (D:Addr) (ys ns:List Addr):Prop where
 mg:mg x=some (.ref D)
 ok:∀ C b,mi ys ns C=some b->PySem.W.exmOne K (.ref C) (.ref D)=some b
theorem M3.of{K:PySem.W.Frag}{mg:Str->Option Value}{x:Str}{D:Addr}{ys ns:List Addr}(h1:mg x=some (.ref D))(h2:D9 (λC=>PySem.W.exmOne K (.ref C) (.ref D)) ys ns=true):M3 K mg x D ys ns:=⟨h1,λ_ _ e=>yC h2 e⟩
theorem xr{α:Type}{p:α->Prop}:∀ x∈([]:List α),p x:=λ_ h=>nomatch h
theorem Gg{α:Type}{p:α->Prop}{a:α}{l:List α}(h:p a)(r:∀ x∈l,p x):∀ x∈a::l,p x:=λx m=>by
 rcases List.mem_cons.mp m with rfl | m
 ·exact h
 ·exact r x m
def FR:List String:=["NoneType", "bool", "int", "str", "tuple", "list", "dict"]
theorem Fz{p:PV}{a:String}(h:Gp p=some a):a∈FR:=by
 cases p <;> first | (cases h;decide) | cases h
structure JP (K:PySem.W.Frag) (mg:Str->Option Value) (x:Str) (D:Addr) (ys ns yo no:List Addr):Prop where
 mg:mg x=some (.ref D)
 ty:∀ p a,Gp p=some a->PySem.W.kitOne K (.type a) (.ref D)=some false
 ob:∀ C b,mi yo no C=some b->qW K C/\PySem.W.kitOne K (.ref C) (.ref D)=some b
 oe:∀ C b,mi ys ns C=some b->h_ K C/\PySem.W.kitOne K (.ref C) (.ref D)=some b
theorem JP.of{K:PySem.W.Frag}{mg:Str->Option Value}{x:Str}{D:Addr}{ys ns yo no:List Addr}(h1:mg x=some (.ref D))(h2:(FR.all λa=>PySem.W.kitOne K (.type a) (.ref D)==some false)=true)
  (h3:D9 (λC=>PySem.W.kitOne K (.ref C) (.ref D)) yo no=true) (h4:D9 (λC=>PySem.W.kitOne K (.ref C) (.ref D)) ys ns=true) (o1:∀ C∈yo,qW K C) (o2:∀ C∈no,qW K C) (e1:∀ C∈ys,h_ K C) (e2:∀ C∈ns,h_ K C):JP K mg x D ys ns yo no where
 mg:=h1
 ty:=λp a h=>by
  rw[List.all_eq_true] at h2
  exact eq_of_beq (h2 a (Fz h))
 ob:=λC b h=>⟨by rcases rC h with ⟨_,m⟩ | ⟨_,m⟩ <;> first | exact o1 C m | exact o2 C m,yC h3 h⟩
 oe:=λC b h=>⟨by rcases rC h with ⟨_,m⟩ | ⟨_,m⟩ <;> first | exact e1 C m | exact e2 C m,yC h4 h⟩
section
variable{X:Cx}{E:St->XK}{e:Expr}{pos p px pt:Pos}{f:af->M PV}{x:Str}{D:Addr}{ys ns yo no:List Addr}
theorem JP.is(c:JP X.K X.mg x D ys ns yo no)(hg:Gl X "isinstance")(hm:X.mg "isinstance" = none)(hx:Gl X x)(he:PE X e (tE E f))(hd:(x==("__debug__" : Str))=false:=by decide)
  (h1:starEach [e,.Name x pt] X.env=(false,eval e X.env)::starEach [.Name x pt] X.env:=by rfl) (h2:starEach [.Name x pt] X.env=(false,eval (.Name x pt) X.env)::starEach [] X.env:=by rfl) (OB:(backTo pos (starEach [.Name x pt] X.env)).any (·.1)=false:=by rfl) :
  PE X (.Call (.Name "isinstance" p) [e,.Name x pt] [] pos) (tE E (tN (λ_=>false) (mi yo no) (mi ys ns) f)) :=
 Jm hg hm (zH hx c.mg rfl hd) c.ty c.ob c.oe he h1 h2 OB
end
end L2
namespace L2
open PySem PySem.Spec PyProof.Rows
section
variable{X:Cx}{E:St->XK}{e o:Expr}{pos apos Om:Pos}{f g:af->M PV}
def Gn:List V->Hp->VK->Prop:=λxs H Q=>∃ b,xs=[.bl b]/\Q (.int (if b then 1 else 0)) H
theorem A4:dC X (.type "int") Gn:=by
 intro N8 s σ H xs us Q I r h
 obtain⟨b,rfl,q⟩:=h
 obtain⟨u,rfl,rx⟩:=vals1 r
 cases rx
 exact call_int_bool ⟨.int _,H,I.kept (t':=s.toks+1) λ_ _ z=>z,⟨_,rfl⟩,q⟩
def J_:PV->M PV
 | .bl b=>M.ok (.int (if b then 1 else 0))
 | _=>none
def t9:List PV->M PV
 | [p]=>J_ p
 | _=>none
theorem Et:mh E Gn t9:=by
 intro σ Hs H ps vs Q s rp h
 match ps,rp,h with
 | [],_,h=>exact h.elim
 | _::_::_,_,h=>exact h.elim
 | [p],rp,h =>
  obtain⟨w,rfl,P7⟩:=rp.one
  cases P7 with
  | bl b=>exact⟨b,rfl,dY.flat h s (.int _)⟩
  | _=>exact h.elim
def JY(K:PySem.W.Frag):V->List V->Hp->VK->Prop:=λx vs H Q=>∃ (l:Addr) (bs:List Bool) (b:Bool) (j:Nat),x=.ref l/\vs=[.bl b]/\iS K H l (bs.map V.bl)/\bs.findIdx? (·==b)=some j/\Q (.int j) H
theorem Vals.KR{bs:List Bool}{us:List Value}(r:Vals (bs.map V.bl) us):us=bs.map Value.bool:=by
 induction bs generalizing us with
 | nil=>cases r;rfl
 | cons a t ih =>
  cases r with
  | cons h r =>
   cases (show _=Value.bool a from h)
   rw[ih r];rfl
theorem CN:Nx X "list.index" (JY X.K):=by
 intro N8 s σ H x vs v us Q I rx rv h
 obtain⟨l,bs,b,j,rfl,rfl,hq,hj,q⟩:=h
 cases rx
 obtain⟨u,rfl,ru⟩:=rv.one
 cases ru
 obtain⟨Ob,r,⟨ob,n,e,c,hdd,hd⟩,hz⟩:=I.list hq
 obtain rfl:=r.KR
 obtain⟨oc,od,dt,sl⟩:=ob
 simp only at c hd
 subst c hd
 obtain⟨hj1,hj2,hj3⟩:=List.findIdx?_eq_some_iff_getElem.mp hj
 have hl:j<(bs.map Value.bool).toArray.size:=by simpa using hj1
 have PZ:bs.length<=sizeLine:=by simpa using hz
 have hs:(j:Int)<2^63-1:=by
  have:sizeLine<2^40:=by decide
  omega
 refine call_meets F.slot_list_index ⟨_,e,rfl⟩ F.entry_list_index (F.args_list_index_2 _ _) (SeqAt.list_indexAt l (bs.map Value.bool).toArray n od sl (.bool b) (λy=>y==.bool b) j hl hs ?_ ?_) ⟨e,λy hy=>?_,?_⟩
 ·have:=eq_of_beq hj2
  simp[this]
 ·intro m hm h2
  have:=hj3 m h2
  simpa using this
 ·obtain⟨a,ha,rfl⟩:∃ a,a∈bs/\Value.bool a=y:=by simpa using hy
  have:=SeqAt.EqAt.bool_bool (A:=X.A.in1) (s:=s) a b
  have e2:(Value.bool a==Value.bool b)=(a==b):=by cases a <;> cases b <;> rfl
  rw[e2];exact this
 ·exact⟨.int j,H,I.kept (t':=s.toks+1) λ_ _ z=>z,⟨_,rfl⟩,q⟩
def GP(p q:PV):M PV:=match p,q with
 | .lst xs,.bl b=>dZ ((ye xs).bind λbs=>(bs.findIdx? (·==b)).map λ(j:Nat)=>.int (j:Int))
 | _,_=>none
def J9(p:PV)(k:M PV):M PV:=match p with
 | .lst xs=>k.bind λq=>GP (.lst xs) q
 | _=>none
def Dy(f g:af->M PV):af->M PV:=λenv=>(f env).bind λp=>J9 p (g env)
theorem C_(ho:PE X o (tE E f))(ha:PE X e (tE E g))(Qf:attributeBase o "index" X.env (eval o X.env)=eval o X.env:=by rfl)
  (QJ:((backTo Om (starEach [e] X.env)).all (λx=>!x.1)&&(backToKw Om (keywordEach [] X.env)).all (λx=>x.1.isSome)&&decide ([e].length+([]:List Keyword).length+(if ([]:List Keyword).isEmpty then 0 else 1)<30))=true:=by rfl)
  (Qg:(apos.endLine==Om.line)=true:=by rfl) (hs:starEach [e] X.env=(false,eval e X.env)::starEach [] X.env:=by rfl) (PU:(backTo Om (starEach [] X.env)).any (·.1)=false:=by rfl) :
  PE X (.Call (.Attribute o "index" apos) [e] [] Om) (tE E (Dy f g)):=by
 refine(GW PySem.F.plainAttrs_list PySem.F.slot_list_index PySem.F.type_list_index CN ho (fq ha mC hs) Qf QJ Qg hs PU).imp fun σ H Q q=>?_
 refine u5 q λB H₀ Hs H1 env p v sr rp hp=>?_
 cases rp with
 | @lst a _ vs ha' hx =>
  refine⟨.inl ⟨rfl,_,iS.of (sr.gr.sub _ _ ha')⟩,B,H₀,Hs,env,sr,(aA.bind hp).imp (λq2 hq u Oc H' g' ru=>?_) λe he=>he⟩
  cases ru with
  | bl b =>
   obtain⟨z,ez,OL⟩:=aA.opt hq
   obtain⟨bs,e1,e2⟩:=Option.bind_eq_some_iff.mp ez
   obtain⟨j,e3,rfl⟩:=Option.map_eq_some_iff.mp e2
   obtain rfl:=xX e1
   obtain rfl:=hx.KR
   exact⟨a,bs,b,j,rfl,rfl,iS.of ((sr.grow g').gr.sub _ _ (g'.st _ _ ha')),e3,OL _ _ _ g' (.int _)⟩
  | _=>exact hq.elim
 | _=>exact hp.elim
end
end L2
namespace L2
open PySem PySem.Spec PyProof.Rows _root_.HT
section
variable{prog:Program}{w:World}{A:Around}{E:Value->Shared->Prop}{s:Shared}
theorem nW{t sl:Addr}{items:Array Value}{vl vu:Value}{lo hi:Option Int}{Q:Value->Shared->Prop}(ht:IsTup s.heap t items)(hs:s.heap.IsSliceOf sl vl vu .none)(pl:IsPart vl lo)(pu:IsPart vu hi)
  (hw:dF items.size 0 lo=0/\dF items.size items.size hi=items.size) (h:Q (.ref t) s):wpAny (model prog w) A (getItem (.ref t) (.ref sl)) Q E s:=by
 obtain⟨os,Rl,hcs,RJ⟩:=id hs
 have hTs:s.TypeIs (.ref sl) "slice" := ⟨os,Rl,hcs⟩
 unfold getItem
 try with_reducible refine wpAny_holding ?_
 first | refine wpAny_bind (wpAny_pure ?_) | skip
 refine wpAny_bind (wpAny_sequenceKey ht.typeIs (by decide) ?_)
 refine wpAny_bind (wpAny_callSpecial?_slot (name:=Str.ofString "__getitem__") ht.typeIs PyProof.Rows.slot_tuple_getitem
  (wpAny_call_entry PyProof.Rows.slot_tuple_getitem ht.typeIs entry_tuple_getitem ?_ (args_tuple_getitem _ _)))
 show wpAny _ _ (Builtin.Tuple.tupleItemsOf (.ref t) >>= _) _ _ s
 refine wpAny_bind (tupleItemsOf_ ht ?_)
 refine wpAny_bind (wpAny_typeOf hTs ?_)
 rw[if_pos (by decide)]
 refine wpAny_bind (jD hs pl pu ?_)
 have hyes:(((dF items.size 0 lo:Nat):Int)==0&&(1:Int)==1&&(dF items.size items.size hi-dF items.size 0 lo)==items.size)=true:=by
  rw[hw.1,hw.2];simp
 show wpAny _ _ (if (((dF items.size 0 lo:Nat):Int)==0&&(1:Int)==1&&(dF items.size items.size hi-dF items.size 0 lo)==items.size)=true then _ else _) _ _ s
 rw[if_pos hyes]
 unfold Builtin.Tuple.tupleIsExact
 refine wpAny_bind (wpAny_bind (wpAny_typeOf ht.typeIs (wpAny_pure ?_)))
 rw[if_pos (show ((Value.type "tuple" == Value.type "tuple")=true) from beq_self_eq_true _)]
 refine wpAny_bind (wpAny_rule ?_)
 first
  | exact wpAny_bind (wpAny_pure (wpAny_pure ⟨_,rfl,wpAny_pure h⟩))
  | exact wpAny_bind (wpAny_pure ⟨_,rfl,wpAny_pure h⟩)
  | exact wpAny_pure ⟨_,rfl,wpAny_pure h⟩
end
section
variable{X:Cx}{E:St->XK}{e:Expr}{lo hi:Option Expr}{pos p2:Pos}{f:af->M PV}{gl gh:af->M (Option Int)}
def MB(K:PySem.W.Frag):V->Option Int->Option Int->Hp->VK->Prop:=λx lo hi H Q=>∃ a xs,x=.ref a/\iF K H a xs/\(dF xs.length 0 lo=0/\dF xs.length xs.length hi=xs.length)/\Q (.ref a) H
theorem Ef:D7 X (MB X.K):=by
 intro N8 s σ H x v vl vu lo hi sl Q I rx hs pl pu h
 obtain⟨a,xs,rfl,hx,hw,q⟩:=h
 cases rx
 obtain⟨Ob,r,ht,hz⟩:=I.tuple hx
 have hlen:Ob.toArray.size=xs.length:=by rw[List.size_toArray];exact r.length.symm
 refine⟨"tuple", _,PyProof.Rows.slot_tuple_getitem.lookup,ht.typeIs,?_⟩
 exact nW ht hs pl pu (by rw[hlen];exact hw) ⟨.ref a,H,I,rfl,q⟩
def J3(p:PV)(lo hi:Option Int):M PV:=match p with
 | .tup xs=>M.ok (.tup (pA xs lo hi))
 | .lst xs=>M.ok (.lst (pA xs lo hi))
 | .kH xs=>M.ok (.lst (pA xs lo hi))
 | _=>none
def jv(f:af->M PV)(lo hi:af->M (Option Int)):af->M PV:=λenv=>(f env).bind λp=>(lo env).bind λl=>(hi env).bind λh=>J3 p l h
theorem tJ(he:PE X e (tE E f))(hl:PO X lo (LK E gl))(hh:PO X hi (LK E gh)):PE X (.Subscript e (.Slice lo hi none p2) pos) (tE E (jv f gl gh)):=by
 refine(Bq (D7.or Hu (D7.or Ef FL)) he hl hh).imp fun σ H Q q=>bU (K:=kD Q) kD.g q λB H₀ Hs H1 env p v sr rp hp=>?_
 refine⟨B,H₀,Hs,env,sr,(aA.bind hp).imp (λl hl Ol H2 g2=>?_) λe he=>he⟩
 have OU:=sr.grow g2
 refine⟨B,H₀,Ol,env,OU,(aA.bind hl).imp (λh hh Qa H3 g3=>?_) λe he=>he.grow g2⟩
 have Qo:=OU.grow g3
 have hz:aA (J3 p l h) (dY Qa H3 Q) (λ_=>True):=hh.imp (λz hz w Hs4 H4 g4 r=>hz w Hs4 H4 ((g2.trans g3).trans g4) r) λ_ _=>trivial
 have rp3:=(rp.mono g2.st).mono g3.st
 cases rp3 with
 | @tup a xs vs ha hx =>
  by_cases hn:dF xs.length 0 l=0/\dF xs.length xs.length h=xs.length
  ·refine .inr (.inl ⟨_,_,rfl,iF.of (Qo.gr.sub _ _ ha),by rw[← hx.length];exact hn,?_⟩)
   have e:pA xs l h=xs:=by
    unfold pA;rw[hn.1,hn.2,List.drop_zero,Nat.sub_zero,List.take_length]
   have PZ:dY Qa H3 Q (.tup xs):=by
    have z:dY Qa H3 Q (.tup (pA xs l h)):=hz
    rw[e] at z;exact z
   exact dY.flat PZ Qo.gr.sub (.tup ha hx)
  ·exact .inl ⟨_,_,rfl,iF.of (Qo.gr.sub _ _ ha),by rw[← hx.length];exact hn,dY.tup hz Qo.gr.sub (hx.cut l h)⟩
 | lst ha hx=>exact .inr (.inr ⟨_,_,rfl,iS.of (Qo.gr.sub _ _ ha),dY.lst hz Qo.gr.sub (hx.cut l h)⟩)
 | kH ha hx=>exact .inr (.inr ⟨_,_,rfl,.inl (.inr ⟨_,Qo.gr.sub _ _ ha⟩),dY.lst hz Qo.gr.sub (hx.cut l h)⟩)
 | _=>exact hz.elim
end
end L2
namespace L2
open PySem PySem.Spec PyProof.Rows
end L2
namespace L2
open PySem PySem.Spec PyProof.Rows
section
variable{X:Cx}{E:St->XK}
def dW:PV->PV->M PV
 | .bl a,.bl b=>M.ok (.bl (!(a==b)))
 | .b_,.bl _=>M.ok (.bl true)
 | _,_=>none
def Ld(o:Bool->Bool):R2:=λx y H Q=>∃ b,y=.bl b/\((∃ a,x=.bl a/\Q (.bl (o (a==b))) H)\/(x=.b_/\Q (.bl (o false)) H))
theorem rM:gK X (compareOp .IsNot) (Ld not):=by
 intro N8 s σ H x y v u Q I rx ry h
 obtain⟨b,rfl,h⟩:=h
 cases ry
 rcases h with ⟨a,rfl,q⟩ | ⟨rfl,q⟩
 ·cases rx
  cases a <;> cases b <;> exact wpAny_bind (wpAny_pure (wpAny_pure (oE I q rfl)))
 ·cases rx
  cases b <;> exact wpAny_bind (wpAny_pure (wpAny_pure (oE I q rfl)))
theorem rJ:mM E (Ld not) dW:=by
 intro σ Hs H p q v u Q s rp rq h
 cases rq with
 | bl b =>
  cases rp with
  | bl a=>exact⟨b,rfl,.inl ⟨a,rfl,dY.flat h s (.bl _)⟩⟩
  | b_=>exact⟨b,rfl,.inr ⟨rfl,dY.flat h s (.bl _)⟩⟩
  | _=>exact h.elim
 | _=>cases rp <;> exact h.elim
end
section
variable{X:Cx}{E:St->XK}{o e:Expr}{es:List Expr}{pos apos:Pos}{m:Str}{k:Nat}{g:af->M PV}{fs:af->M (List PV)}{L:List (Addr×(List PV->M PV))}{P:Program}{w:World}{K:PySem.W.Frag}{mg:Str->Option Value}{base:Heap}
structure yY (P:Program) (w:World) (K:PySem.W.Frag) (mg:Str->Option Value) (base:Heap) (m:Str) (k:Nat) (L:List (Addr×(List PV->M PV))):Prop where
 ex:∀ C sem,L.lookup C=some sem->∃ n f fd ps j,n<=k/\lq K C/\Meth K C m f/\Binds K fd ps []/\aI P w K mg base (bH P w) n f fd ps (c7 j sem)/\∀ ps,sem ps≠none->ps.length=j
theorem yY.nil:yY P w K mg base m k []:=⟨λC sem h=>by cases h⟩
theorem yY.cons{C:Addr}{n j:Nat}{sem:List PV->M PV}(F:iV P w K mg base C n m j sem)(hn:n<=k)(r:yY P w K mg base m k L):yY P w K mg base m k ((C,aV j sem)::L):=⟨λC' sem' h=>by
 rw[List.lookup_cons] at h
 by_cases e:C'=C
 ·rw[e,beq_self_eq_true] at h
  cases h
  obtain⟨f,fd,ps,h1,h2,h3,h4⟩:=F.ex
  exact⟨n,f,fd,ps,j,hn,by rw[e];exact h1,by rw[e];exact h2,h3,h4,λPL hp=>nv hp⟩
 ·rw[beq_false_of_ne e] at h
  exact r.ex C' sem' h⟩
def Mz(L:List (Addr×(List PV->M PV)))(C:Addr)(ps:List PV):M PV:=match L.lookup C with
 | some sem=>sem ps
 | none=>none
def oB(L:List (Addr×(List PV->M PV)))(m:Str)(p:PV)(x:M (List PV)):M PV:=match p with
 | .obj B fl=>cD ((L.lookup B).isSome/\fl.lookup m=none) (x.bind λps=>Mz L B (.obj B fl::ps))
 | _=>none
def fg(L:List (Addr×(List PV->M PV)))(m:Str)(g:af->M PV)(fs:af->M (List PV)):af->M PV:=λenv=>(g env).bind λp=>oB L m p (fs env)
def G9(L:List (Addr×(List PV->M PV)))(m:Str)(E:St->XK)(ta:TE)(t:TA):TE:=fun σ H Q=>ta σ H λx H1 =>
 ∃ C sem a dx fs,L.lookup C=some sem/\x=V.ref a/\H1 a=some (HO.ins C dx fs)/\List.lookup m fs=none/\t σ H1 λvs H2=>∀ j,(∀ ps,sem ps≠none->ps.length=j)->c7 j sem (x::(vs++[])) H2 Q (E σ)
theorem tj{σ:St}{H:Hp}{Q:VK}(q:tE E (fg L m g fs) σ H Q):G9 L m E (tE E g) (tL E fs) σ H Q:=by
 refine bU (K:=kD Q) kD.g q λB H₀ Hs H1 env p v sr rp hp=>?_
 cases rp with
 | @obj a C' dx fl fvs ho hx =>
  obtain⟨⟨e1,hn⟩,Bk⟩:=aA.cD hp
  obtain⟨sem,es⟩:=Option.isSome_iff_exists.mp e1
  refine⟨C',sem,a,dx,fvs,es,rfl,sr.gr.sub _ _ ho,hx.none hn,B,H₀,Hs,env,sr,(aA.bind Bk).imp (λPL QC vs Oc H' g' r j hl=>?_) λe he=>he⟩
  unfold Mz at QC
  rw[es] at QC
  have r2:aM Oc (.obj C' fl::PL) (V.ref a::(vs++[])):=by rw[List.append_nil];exact .cons ((Rep.obj ho hx).mono g'.st) r
  have hn:sem (.obj C' fl::PL)≠none:=λz=>by rw[show (some sem:Option (List PV->M PV))=some sem from rfl] at QC;simp only[z] at QC;exact QC
  exact⟨by rw[← r2.length];exact hl _ hn,Oc,_,g'.sub,r2,QC.imp (λz hz w Ol H2 g2 r2=>hz w Ol H2 (g'.trans g2) r2) λe he=>he.grow g'⟩
 | _=>exact hp.elim
theorem yY.call{pl:Sem Bool}(hr:bX k X.A)(F:yY X.prog X.w X.K X.mg X.base m k L)(O:e9 X E)(he:PE X o (tE E g))(ha:PA X (e::es) (tL E fs))
  (Oz:starEach (e::es) X.env=(false,eval e X.env)::starEach es X.env:=by rfl) (OB:(backTo pos (starEach es X.env)).any (·.1)=false:=by rfl)
  (ht:eval (.Call (.Attribute o m apos) (e::es) [] pos) X.env=(do
   let ov ← eval o X.env
   standAt apos.atName
   let (f,first) ← holding [ov] (getMethod ov m pl)
   callWith pos f first (backTo pos (starEach (e::es) X.env)) (backToKw pos (keywordEach [] X.env))):=by rfl) :
  PE X (.Call (.Attribute o m apos) (e::es) [] pos) (tE E (fg L m g fs)):=by
 intro N8 s σ H Q I h
 refine PySem.W.methodCall_KW (pl:=pl) (cB (he N8 s σ H _ I (tj h)) λu s1 ⟨x,H1,I1,rx,q⟩=>?_) ht
 obtain⟨C,sem,a,dx,fs,ex,rfl,ea,l,q⟩:=q
 obtain⟨n,f,fd,ps,j,hn,c,hm,hb,F',hl⟩:=F.ex C sem ex
 obtain rfl:u=Value.ref a:=rx
 refine j9 I1 ea c hm l ?_
 refine PySem.W.callWith_K (first:=[.ref a]) (h₀:=X.base) I.ok.mod.Fe hm.kp (cB (ha pos N8 s1 σ H1 _ I1 q) λus s2 ⟨vs,H2,I2,r,q2⟩=>⟨I2.jZ,?_⟩) Oz OB
 exact nq (us:=.ref a::us) (vs:=.ref a::vs) F' (hr.mono hn) hb .nil O I2 (.cons rfl r) (q2 j hl)
theorem yY.By{pl:Sem Bool}(hr:bX k X.A)(F:yY X.prog X.w X.K X.mg X.base m k L)(O:e9 X E)(he:PE X o (tE E g))
  (ht:eval (.Call (.Attribute o m apos) [] [] pos) X.env=(do
   let ov ← eval o X.env
   standAt apos.atName
   let (f,first) ← holding [ov] (getMethod ov m pl)
   callWith pos f first (backTo pos (starEach [] X.env)) (backToKw pos (keywordEach [] X.env))):=by rfl) :
  PE X (.Call (.Attribute o m apos) [] [] pos) (tE E (fg L m g ao)):=by
 intro N8 s σ H Q I h
 refine PySem.W.methodCall_KW (pl:=pl) (cB (he N8 s σ H _ I (tj h)) λu s1 ⟨x,H1,I1,rx,q⟩=>?_) ht
 obtain⟨C,sem,a,dx,fs,ex,rfl,ea,l,B,H₀,Hs,env,sr,q⟩:=q
 obtain⟨n,f,fd,ps,j,hn,c,hm,hb,F',hl⟩:=F.ex C sem ex
 obtain rfl:u=Value.ref a:=rx
 refine j9 I1 ea c hm l ?_
 exact PySem.W.callWith_K0 (first:=[.ref a]) I1.jZ hm.kp (nq (us:=[.ref a]) (vs:=[.ref a]) F' (hr.mono hn) hb .nil O I1 (.cons rfl .nil) (q [] Hs H1 (.refl sr.gr.sub) .nil j hl))
end
end L2
namespace L2
open PySem PySem.Spec PyProof.Rows
end L2
namespace L2
open PySem PySem.Spec PyProof.Rows
open PySem.SeqAt (shaped noMix noMixAll)
section
variable{α β:Type}
theorem M.aP(a:α)(f:α->M β):M.bind (M.ok a) f=f a:=Eq.trans rfl rfl
theorem M.BQ(e:EX)(f:α->M β):M.bind (some (Except.error e)) f=some (.error e):=Eq.trans rfl rfl
theorem M.bind_none(f:α->M β):M.bind none f=none:=Eq.trans rfl rfl
theorem M.bind_some(a:α)(f:α->M β):M.bind (some (Except.ok a)) f=f a:=Eq.trans rfl rfl
theorem M.bind_assoc{γ:Type}(x:M α)(f:α->M β)(g:β->M γ):M.bind (M.bind x f) g=M.bind x λa=>M.bind (f a) g:=by
 cases x with
 | none=>rfl
 | some x=>cases x <;> rfl
theorem av{c:Prop}[Decidable c]{x:M α}(h:c):cD c x=x:=if_pos h
theorem JA(a:α):Bn (M.ok a)=M.ok a:=Eq.trans rfl rfl
end
theorem zY(x:PV):dZ (some x)=M.ok x:=Eq.trans rfl rfl
theorem w9(g:af->M Out)(env:af):D4 g (.nx env)=g env:=Eq.trans rfl rfl
theorem xh(g:af->M Out)(p:PV):D4 g (.rt p)=M.ok (.rt p):=Eq.trans rfl rfl
theorem E8(b:Bool):yX (.bl b)=M.ok b:=Eq.trans rfl rfl
theorem FW(p:PV):Hi (.rt p)=M.ok p:=Eq.trans rfl rfl
theorem ER(e:af):Hi (.nx e)=M.ok .b_:=Eq.trans rfl rfl
def tI(xs:List Int):PV:=.tup (xs.map PV.int)
def lI(xs:List Int):PV:=.lst (xs.map PV.int)
theorem Ew(xs:List Int):bR (tI xs)=some (xs.map PV.int):=Eq.trans rfl rfl
theorem Fu(xs:List Int):bR (lI xs)=some (xs.map PV.int):=Eq.trans rfl rfl
theorem CT(xs:List PV):bR (.tup xs)=some xs:=Eq.trans rfl rfl
theorem qI(xs:List PV):bR (.lst xs)=some xs:=Eq.trans rfl rfl
theorem CV(xs:List PV):bR (.kH xs)=some xs:=Eq.trans rfl rfl
theorem EU(xs:List Int):vX (tI xs)=M.ok (.int xs.length):=by simp[vX,tI,bR,dZ]
theorem ES(xs:List Int):vX (lI xs)=M.ok (.int xs.length):=by simp[vX,lI,bR,dZ]
theorem Ds(xs:List PV):vX (.tup xs)=M.ok (.int xs.length):=Eq.trans rfl rfl
theorem Bo(xs:List PV):vX (.lst xs)=M.ok (.int xs.length):=Eq.trans rfl rfl
theorem Cf(xs:List PV):vX (.kH xs)=M.ok (.int xs.length):=Eq.trans rfl rfl
theorem Bu(xs:List Int):Bf [.lst (xs.map PV.int)]=M.ok (.int xs.sum):=by simp[Bf,Kw,tM,dZ]
theorem qV(xs:List Bool):sy [.lst (xs.map PV.bl)]=M.ok (.bl (xs.all id)):=by simp[sy,all1,rB,dZ]
theorem gC{α:Type}{f:af->M PV}{inj h:α->PV}{rest:af}{x0:Option SV}(xs:List α)(H:∀ a∈xs,f (some (.sh (inj a))::rest)=M.ok (h a)):bP (cj 0) none f (xs.map inj) (x0::rest)=M.ok (xs.map h):=by
 induction xs generalizing x0 with
 | nil=>rfl
 | cons a r ih =>
  rw[List.map_cons,bP]
  show M.bind (M.ok ((x0::rest).set 0 (some (.sh (inj a))))) _=_
  rw[M.aP,List.set_cons_zero]
  show M.bind (f _) _=_
  rw[H a List.mem_cons_self,M.aP,ih λb hb=>H b (List.mem_cons_of_mem _ hb)]
  rfl
theorem jY{α:Type}{f:af->M PV}{p q h:α->PV}{rest:af}{x0 x1:Option SV}(xs:List α)(H:∀ a∈xs,f (some (.sh (p a))::some (.sh (q a))::rest)=M.ok (h a)):bP (bx 0 1) none f (xs.map λa=>.tup [p a,q a]) (x0::x1::rest)=M.ok (xs.map h):=by
 induction xs generalizing x0 x1 with
 | nil=>rfl
 | cons a r ih =>
  rw[List.map_cons,bP]
  show M.bind (M.ok (((x0::x1::rest).set 0 (some (.sh (p a)))).set 1 (some (.sh (q a))))) _=_
  rw[M.aP,List.set_cons_zero,List.set_cons_succ,List.set_cons_zero]
  show M.bind (f _) _=_
  rw[H a List.mem_cons_self,M.aP,ih λb hb=>H b (List.mem_cons_of_mem _ hb)]
  rfl
theorem CC{α:Type}{f:af->M PV}{p q s h:α->PV}{rest:af}{x0 x1 x2:Option SV}(xs:List α)(H:∀ a∈xs,f (some (.sh (p a))::some (.sh (q a))::some (.sh (s a))::rest)=M.ok (h a)):bP (nK 0 1 2) none f (xs.map λa=>.tup [p a,q a,s a]) (x0::x1::x2::rest)=M.ok (xs.map h):=by
 induction xs generalizing x0 x1 x2 with
 | nil=>rfl
 | cons a r ih =>
  rw[List.map_cons,bP]
  show M.bind (M.ok ((((x0::x1::x2::rest).set 0 (some (.sh (p a)))).set 1 (some (.sh (q a)))).set 2 (some (.sh (s a))))) _=_
  rw[M.aP,List.set_cons_zero,List.set_cons_succ,List.set_cons_zero,List.set_cons_succ,List.set_cons_succ,List.set_cons_zero]
  show M.bind (f _) _=_
  rw[H a List.mem_cons_self,M.aP,ih λb hb=>H b (List.mem_cons_of_mem _ hb)]
  rfl
theorem cN{α β:Type}{f:α->PV}{g:β->PV}{p q:PV}(xs:List α)(ys:List β)(hp:bR p=some (xs.map f))(hq:bR q=some (ys.map g)):zip2 [p,q]=M.ok ((xs.zip ys).map λz=>.tup [f z.1,g z.2]):=by
 simp only[zip2,hp,hq]
 congr 2
 rw[List.zipWith_map,List.zip_eq_zipWith,List.map_zipWith]
theorem rN{α β γ:Type}{f:α->PV}{g:β->PV}{h:γ->PV}{p q r:PV}(xs:List α)(ys:List β)(zs:List γ)(hp:bR p=some (xs.map f))(hq:bR q=some (ys.map g))(hr:bR r=some (zs.map h)):yW [p,q,r]=M.ok ((xs.zip (ys.zip zs)).map λz=>.tup [f z.1,g z.2.1,h z.2.2]):=by
 simp only[yW,hp,hq,hr]
 congr 2
 clear hp hq hr
 induction xs generalizing ys zs with
 | nil=>cases ys <;> cases zs <;> rfl
 | cons a r ih =>
  cases ys with
  | nil=>rfl
  | cons b s =>
   cases zs with
   | nil=>rfl
   | cons c t=>simp only[List.map_cons,kj,List.zip_cons_cons,ih]
theorem AR{α:Type}{f:α->PV}(xs:List α):jd (xs.map f)=(xs.zipIdx).map λz=>.tup [.int (z.2:Int),f z.1]:=by
 unfold jd
 rw[List.mapIdx_eq_zipIdx_map,List.zipIdx_map,List.map_map]
 rfl
theorem kN{set:PV->af->M af}{body:af->M Out}{α:Type}{inj:α->PV}(J:List α->af->Prop)
  (H:∀ a r env,J (a::r) env->∃ e' N_,set (inj a) env=M.ok e'/\body e'=M.ok (.nx N_)/\J r N_):∀ (xs:List α) (env:af),J xs env->∃ N_,jA set body (xs.map inj) env=M.ok (.nx N_)/\J [] N_
 | [],env,h=>⟨env,rfl,h⟩
 | a::r,env,h=>by
  obtain⟨e',N_,h1,h2,h3⟩:=H a r env h
  obtain⟨QD,h4,h5⟩:=kN J H r N_ h3
  refine⟨QD,?_,h5⟩
  rw[List.map_cons,jA,h1,M.aP,h2,M.aP]
  exact h4
theorem s_{u:af->M Bool}{b:af->M Out}(J:af->Prop)(m:af->Nat)
  (H:∀ env,J env->(u env=M.ok false)\/(u env=M.ok true/\∃ N_,b env=M.ok (.nx N_)/\J N_/\m N_<m env)) (env:af) (h:J env):∃ N_,mJ u b env=M.ok (.nx N_)/\J N_/\u N_=M.ok false:=by
 have key:∀ (n:Nat) (env:af),J env->m env<n->∃ N_,cP u b n env=M.ok (.nx N_)/\J N_/\u N_=M.ok false:=by
  intro n
  induction n with
  | zero=>intro env _ hn;omega
  | succ n ih =>
   intro env h hn
   rcases H env h with hu | ⟨hu,N_,hb,hj,hm⟩
   ·exact⟨env,by rw[cP,hu,M.aP];rfl,h,hu⟩
   ·obtain⟨QD,h1,h2,h3⟩:=ih N_ hj (by omega)
    exact⟨QD,by rw[cP,hu,M.aP,if_pos rfl,hb,M.aP];exact h1,h2,h3⟩
 obtain⟨N_,h1,h2,h3⟩:=key (m env+1) env h (Nat.lt_succ_self _)
 refine⟨N_,?_,h2,h3⟩
 rw[zS (n:=m env+1) (by rw[h1];exact λz=>nomatch z),h1]
theorem log2_small{i:Int}{k:Nat}(h:i.natAbs<2^k)(hk:k<=9000):i.natAbs.log2<67108864:=by
 by_cases z:i.natAbs=0
 ·rw[z];decide
 ·have:=(Nat.log2_lt z).mpr h
  omega
theorem aN{i j:Int}{k l:Nat}(hi:i.natAbs<2^k)(hj:j.natAbs<2^l)(hk:k<=9000:=by decide)(hl:l<=9000:=by decide):cv (.int i) (.int j)=M.ok (.int (i*j)):=by
 rw[cv,av ⟨log2_small hi hk,log2_small hj hl⟩]
theorem ot{i j:Int}(h0:j≠0)(h:j.natAbs<2^9000):bq (.int i) (.int j)=M.ok (.int (i.fdiv j)):=by
 show cD _ _=_
 refine av (decide_eq_true ⟨h0,(Nat.log2_lt (by omega)).mpr h⟩)
theorem BC{i j:Int}(h0:j≠0):cw (.int i) (.int j)=M.ok (.int (i.fmod j)):=by
 show cD _ _=_
 exact av (decide_eq_true h0)
theorem aD{i j:Int}(h0:0<j)(h:j<2^64):bq (.int i) (.int j)=M.ok (.int (i/j)):=by
 rw[ot (by omega) (Nat.lt_of_lt_of_le (show j.natAbs<2^64 by omega) (Nat.pow_le_pow_right (by decide) (by decide))),Int.fdiv_eq_ediv_of_nonneg _ (by omega)]
theorem aF{i j:Int}(h0:0<j):cw (.int i) (.int j)=M.ok (.int (i%j)):=by
 rw[BC (by omega),Int.fmod_eq_emod_of_nonneg _ (by omega)]
theorem ck{xs:List PV}{p:PV}{j:Nat}{x:PV}(hs:bR p=some xs)(h:xs[j]?=some x):aQ p (.int (j:Int))=M.ok x:=by
 cases p with
 | tup ys=>cases hs;simp only[aQ,vj h,dZ]
 | lst ys=>cases hs;simp only[aQ,vj h,dZ]
 | kH ys=>cases hs;simp only[aQ,vj h,dZ]
 | _=>cases hs
section
variable{b:String->Bool}{ob oe:Addr->Option Bool}
theorem Ig(xs:List Int):y0 b ob oe (tI xs)=M.ok (.bl (b "tuple")):=Eq.trans rfl rfl
theorem HX(xs:List Int):y0 b ob oe (lI xs)=M.ok (.bl (b "list")):=Eq.trans rfl rfl
theorem EZ(xs:List PV):y0 b ob oe (.tup xs)=M.ok (.bl (b "tuple")):=Eq.trans rfl rfl
theorem Fp(xs:List PV):y0 b ob oe (.lst xs)=M.ok (.bl (b "list")):=Eq.trans rfl rfl
theorem FG(i:Int):y0 b ob oe (.int i)=M.ok (.bl (b "int")):=Eq.trans rfl rfl
theorem IJ(i:Bool):y0 b ob oe (.bl i)=M.ok (.bl (b "bool")):=Eq.trans rfl rfl
theorem F5:y0 b ob oe .b_=M.ok (.bl (b "NoneType")):=Eq.trans rfl rfl
theorem Em(x:Str):y0 b ob oe (.str x)=M.ok (.bl (b "str")):=Eq.trans rfl rfl
theorem E5:y0 b ob oe .emp=M.ok (.bl (b "dict")):=Eq.trans rfl rfl
end
theorem Ej(i j:Int):nY (.int i) (.int j)=M.ok (.bl (!decide (i=j))):=by
 simp only[nY,ql,dat,Gq,shaped,PyData.canLay0,PyData.depth,noMix]
 rw[av ⟨rfl,rfl,trivial⟩]
 unfold same
 rw[M.aP];congr
theorem Ex(i j:Int):l7 (.int i) (.int j)=M.ok (.bl (decide (i=j))):=by
 simp only[l7,ql,dat,Gq,shaped,PyData.canLay0,PyData.depth,noMix]
 rw[av ⟨rfl,rfl,trivial⟩]
 unfold same
 rw[M.aP];congr
theorem G2(i j:Bool):nY (.bl i) (.bl j)=M.ok (.bl (!decide (i=j))):=by
 simp only[nY,ql,dat,Gq,shaped,PyData.canLay0,PyData.depth,noMix]
 rw[av ⟨rfl,rfl,trivial⟩]
 unfold same
 rw[M.aP];congr
theorem Jx(i j:Bool):l7 (.bl i) (.bl j)=M.ok (.bl (decide (i=j))):=by
 simp only[l7,ql,dat,Gq,shaped,PyData.canLay0,PyData.depth,noMix]
 rw[av ⟨rfl,rfl,trivial⟩]
 unfold same
 rw[M.aP];congr
theorem oJ(xs:List Int):pL (xs.map PV.int)=some (xs.map PyData.int):=by
 induction xs with
 | nil=>rfl
 | cons a r ih=>simp[pL,dat,ih]
theorem ly(xs:List Int):PyData.canLayAll0 (xs.map PyData.int)=true:=by
 induction xs with
 | nil=>rfl
 | cons a r ih=>simp[PyData.canLayAll0,PyData.canLay0,ih]
theorem mG(xs:List Int):PyData.depthAll (xs.map PyData.int)=0:=by
 induction xs with
 | nil=>rfl
 | cons a r ih=>simp[PyData.depthAll,PyData.depth,ih]
theorem noMix_ints:∀ (xs ys:List Int),noMixAll (xs.map PyData.int) (ys.map PyData.int)=true
 | [],[]=>by simp[noMixAll]
 | [],_::_=>by simp[noMixAll]
 | _::_,[]=>by simp[noMixAll]
 | a::r,b::s=>by simp[noMixAll,noMix,noMix_ints r s]
theorem same_ints:∀ (xs ys:List Int),sameAll (xs.map PyData.int) (ys.map PyData.int)=decide (xs=ys)
 | [],[]=>by simp[sameAll]
 | [],_::_=>by simp[sameAll]
 | _::_,[]=>by simp[sameAll]
 | a::r,b::s=>by
  simp only[List.map_cons,sameAll,same_ints r s]
  unfold same
  rw[Bool.eq_iff_iff];simp
theorem yv(xs ys:List Int):l7 (tI xs) (tI ys)=M.ok (.bl (decide (xs=ys))):=by
 simp only[l7,ql,dat,tI,oJ,Option.map_some,Gq]
 rw[av (by simp[shaped,PyData.canLay0,PyData.depth,ly,mG,noMix,noMix_ints])]
 unfold same
 rw[same_ints];rfl
theorem Dz(xs ys:List Int):nY (tI xs) (tI ys)=M.ok (.bl (!decide (xs=ys))):=by
 simp only[nY,ql,dat,tI,oJ,Option.map_some,Gq]
 rw[av (by simp[shaped,PyData.canLay0,PyData.depth,ly,mG,noMix,noMix_ints])]
 unfold same
 rw[same_ints];rfl
theorem EE(i j:Int):DK (.int i) (.int j)=M.ok (.bl (decide (i<j))):=Eq.trans rfl rfl
theorem Es(i j:Int):D_ (.int i) (.int j)=M.ok (.bl (decide (i<=j))):=Eq.trans rfl rfl
theorem E9(i j:Int):JW (.int i) (.int j)=M.ok (.bl (decide (j<i))):=Eq.trans rfl rfl
theorem F9(i j:Int):JS (.int i) (.int j)=M.ok (.bl (decide (j<=i))):=Eq.trans rfl rfl
theorem DI(i j:Int):eR (.int i) (.int j)=M.ok (.int (i+j)):=Eq.trans rfl rfl
theorem Cz(i j:Int):jh (.int i) (.int j)=M.ok (.int (i-j)):=Eq.trans rfl rfl
theorem iy{n:Int}(h:0<=n)(h2:n<2^62):qi [.int n]=M.ok ((List.range n.toNat).map λ(i:Nat)=>.int (i:Int)):=by
 show cD (-(2^62)<=n/\n<2^62) _=_
 rw[av (by omega)]
 simp
theorem dq{β:Type}{set:PV->af->M af}{body:af->M Out}{α:Type}{inj:α->PV}{k:Out->M β}{r:M β}(xs:List α)(J:List α->af->Prop){env:af}(h:J xs env)
  (H:∀ a r env,J (a::r) env->∃ e' N_,set (inj a) env=M.ok e'/\body e'=M.ok (.nx N_)/\J r N_) (hk:∀ N_,J [] N_->k (.nx N_)=r):M.bind (jA set body (xs.map inj) env) k=r:=by
 obtain⟨N_,e,h'⟩:=kN J H xs env h
 rw[e,M.aP];exact hk N_ h'
theorem yR{β:Type}{u:af->M Bool}{b:af->M Out}{k:Out->M β}{r:M β}(J:af->Prop)(m:af->Nat){env:af}(h:J env)
  (H:∀ env,J env->(u env=M.ok false)\/(u env=M.ok true/\∃ N_,b env=M.ok (.nx N_)/\J N_/\m N_<m env)) (hk:∀ N_,J N_->u N_=M.ok false->k (.nx N_)=r):M.bind (mJ u b env) k=r:=by
 obtain⟨N_,e,h',h2⟩:=s_ J m H env h
 rw[e,M.aP];exact hk N_ h' h2
theorem aJ{n:Nat}(h:n<=1000):n<=sizeLine:=Nat.le_of_lt (n5 h)
def tupK(ps:List PV):M PV:=cD (ps.length<=sizeLine) (M.ok (.tup ps))
def lstK(ps:List PV):M PV:=cD (ps.length<=sizeLine) (M.ok (.lst ps))
theorem EW(fs:af->M (List PV))(env:af):jN fs env=(fs env).bind tupK:=rfl
theorem Er(fs:af->M (List PV))(env:af):sk fs env=(fs env).bind lstK:=rfl
theorem IL:tupK []=M.ok (.tup []):=av (aJ (show 0<=1000 by decide))
theorem GZ:lstK []=M.ok (.lst []):=av (aJ (show 0<=1000 by decide))
theorem HL(a:PV):tupK [a]=M.ok (.tup [a]):=av (aJ (show 1<=1000 by decide))
theorem Ht(a:PV):lstK [a]=M.ok (.lst [a]):=av (aJ (show 1<=1000 by decide))
theorem Ji(a b:PV):tupK [a,b]=M.ok (.tup [a,b]):=av (aJ (show 2<=1000 by decide))
theorem G6(a b:PV):lstK [a,b]=M.ok (.lst [a,b]):=av (aJ (show 2<=1000 by decide))
theorem IT(a b c:PV):tupK [a,b,c]=M.ok (.tup [a,b,c]):=av (aJ (show 3<=1000 by decide))
theorem IX(a b c:PV):lstK [a,b,c]=M.ok (.lst [a,b,c]):=av (aJ (show 3<=1000 by decide))
theorem IY(a b c d:PV):tupK [a,b,c,d]=M.ok (.tup [a,b,c,d]):=av (aJ (show 4<=1000 by decide))
theorem I0(a b c d:PV):lstK [a,b,c,d]=M.ok (.lst [a,b,c,d]):=av (aJ (show 4<=1000 by decide))
theorem HI(a b c d e:PV):tupK [a,b,c,d,e]=M.ok (.tup [a,b,c,d,e]):=av (aJ (show 5<=1000 by decide))
theorem JD(a b c d e:PV):lstK [a,b,c,d,e]=M.ok (.lst [a,b,c,d,e]):=av (aJ (show 5<=1000 by decide))
theorem IH(a b c d e f:PV):tupK [a,b,c,d,e,f]=M.ok (.tup [a,b,c,d,e,f]):=av (aJ (show 6<=1000 by decide))
theorem Iv(a b c d e f:PV):lstK [a,b,c,d,e,f]=M.ok (.lst [a,b,c,d,e,f]):=av (aJ (show 6<=1000 by decide))
end L2
namespace L2
open PySem PySem.Spec PyProof.Rows
def kE{α:Type}(m:M α)(Q:α->Prop):Prop:=∃ a,m=M.ok a/\Q a
section
variable{α β γ:Type}{Q Q':α->Prop}{m:M α}
theorem kE.eq{a:α}(h:kE m λx=>x=a):m=M.ok a:=by obtain⟨b,e,rfl⟩:=h;exact e
def Tn(J:af->Prop)(B:af->Prop)(R:PV->Prop):Out->Prop
 | .nx e=>J e
 | .ct e=>J e
 | .bk e=>B e
 | .rt p=>R p
theorem kE.BD{set:PV->af->M af}{body:af->M Out}{inj:γ->PV}{B:af->Prop}{R:PV->Prop}(J:List γ->af->Prop)
  (H:∀ a r env,J (a::r) env->kE (M.bind (set (inj a) env) body) (Tn (J r) B R)):∀ (xs:List γ) (env:af),J xs env->kE (jA set body (xs.map inj) env) λo=>(∃ e,o=.nx e/\(J [] e\/B e))\/∃ p,o=.rt p/\R p
 | [],env,h=>⟨_,rfl,.inl ⟨_,rfl,.inl h⟩⟩
 | a::r,env,h=>by
  obtain⟨o,e,q⟩:=H a r env h
  rw[List.map_cons,jA,← M.bind_assoc,e,M.aP]
  cases o with
  | nx e'=>exact kE.BD J H r e' q
  | ct e'=>exact kE.BD J H r e' q
  | bk e'=>exact⟨_,rfl,.inl ⟨_,rfl,.inr q⟩⟩
  | rt p=>exact⟨_,rfl,.inr ⟨_,rfl,q⟩⟩
theorem kE.loop{R:β->Prop}{set:PV->af->M af}{body:af->M Out}{inj:γ->PV}{k:Out->M β}{xs:List γ}{env:af}(J:List γ->af->Prop)(h:J xs env)
  (H:∀ a r env,J (a::r) env->kE (M.bind (set (inj a) env) body) (Tn (J r) (λ_=>False) λ_=>False)) (hk:∀ N_,J [] N_->kE (k (.nx N_)) R):kE (M.bind (jA set body (xs.map inj) env) k) R:=by
 obtain⟨o,e,q⟩:=kE.BD J H xs env h
 rw[e,M.aP]
 rcases q with ⟨e',rfl,q | q⟩ | ⟨p,_,q⟩
 ·exact hk e' q
 ·exact q.elim
 ·exact q.elim
end
def Kr(i:Nat)(env:af)(xs:List PV)(p:PV):M Out:=if xs.length<sizeLine then M.ok (.nx (env.set i (some (.ow (xs++[p]))))) else none
theorem gS(i:Nat)(f:af->M PV)(env:af):jG i f env=(ownAt i env).bind λxs=>(f env).bind λp=>Kr i env xs p:=by
 unfold jG ownAt
 rcases env[i]? with _ | _ | (_ | _ | _) <;> rfl
theorem hG{i:Nat}{env:af}{xs:List PV}{p:PV}(h:xs.length<1000):Kr i env xs p=M.ok (.nx (env.set i (some (.ow (xs++[p]))))):=if_pos (n5 (Nat.le_of_lt h))
def t4(C:Addr)(m:Str)(sem:List PV->M PV)(p:PV)(x:M (List PV)):M PV:=match p with
 | .obj C' fl=>cD (C'=C/\fl.lookup m=none) (x.bind λps=>sem (.obj C' fl::ps))
 | _=>none
theorem bT(C:Addr)(m:Str)(sem:List PV->M PV)(g:af->M PV)(fs:af->M (List PV))(env:af):bD C m sem g fs env=(g env).bind λp=>t4 C m sem p (fs env):=rfl
theorem lU{C:Addr}{m:Str}{sem:List PV->M PV}{fl:List (Str×PV)}{x:M (List PV)}(h:fl.lookup m=none):t4 C m sem (.obj C fl) x=x.bind λps=>sem (.obj C fl::ps):=av ⟨rfl,h⟩
def Ar(ok:Addr->Bool)(f:Str)(p:PV):M PV:=match p with
 | .obj C fs=>cD (ok C=true) (dZ (fs.lookup f))
 | _=>none
theorem eI(ok:Addr->Bool)(f:Str)(g:af->M PV)(env:af):cT ok f g env=(g env).bind (Ar ok f):=rfl
theorem nU{ok:Addr->Bool}{f:Str}{C:Addr}{fs:List (Str×PV)}{x:PV}(h:ok C=true)(hl:fs.lookup f=some x):Ar ok f (.obj C fs)=M.ok x:=by
 show cD _ _=_
 rw[av h,hl];rfl
theorem fO(xs:List Int)(x:Int):xs.map PV.int++[.int x]=(xs++[x]).map PV.int:=by simp
end L2
namespace L2
open PySem PySem.Spec PyProof.Rows
theorem ux{α:Type}{f:α->PV}{p:PV}(xs:List α)(h:bR p=some (xs.map f)):Ed [p]=M.ok (xs.zipIdx.map λz=>.tup [.int (z.2:Int),f z.1]):=by
 show Mu p=_
 unfold Mu
 rw[h]
 show M.ok (jd _)=_
 rw[AR]
theorem Ca(xs:List Int):Ed [lI xs]=M.ok (xs.zipIdx.map λz=>.tup [.int (z.2:Int),.int z.1]):=ux xs rfl
theorem Ju(xs:List Int):Ed [tI xs]=M.ok (xs.zipIdx.map λz=>.tup [.int (z.2:Int),.int z.1]):=ux xs rfl
theorem vb{α:Type}{f:α->PV}(xs:List α):Ed [.lst (xs.map f)]=M.ok (xs.zipIdx.map λz=>.tup [.int (z.2:Int),f z.1]):=ux xs rfl
theorem Ga(f:af->M Out)(hs:List Hd)(env:af):Ek f hs env=yf (f env) λx=>jB hs x env:=rfl
theorem yx(x:EX)(k:EX->M Out):yf (some (.error x)) k=k x:=Eq.trans rfl rfl
theorem yw(t:Addr->Option Bool)(o:Option Nat)(h:af->M Out)(r:List Hd)(x:EX)(env:af):jB ((t,o,h)::r) x env=vv (t x.1) (rO o h x env) (jB r x env):=Eq.trans rfl rfl
theorem HB(x y:M Out):vv (some true) x y=x:=Eq.trans rfl rfl
theorem Dh(h:af->M Out)(x:EX)(env:af):rO none h x env=Bn (h env):=Eq.trans rfl rfl
end L2
namespace L2
open PySem PySem.Spec PyProof.Rows
theorem NG{α:Type}{us:List α}(h:us.length=1):∃ a,us=[a]:=by
 cases us with
 | nil=>cases h
 | cons a t=>cases t with
  | nil=>exact⟨a,rfl⟩
  | cons b t=>cases h
theorem ln2{α:Type}{us:List α}(h:us.length=2):∃ a b,us=[a,b]:=by
 cases us with
 | nil=>cases h
 | cons a t=>obtain⟨b,rfl⟩:=NG (Nat.succ.inj h);exact⟨a,b,rfl⟩
theorem Nd{α:Type}{us:List α}(h:us.length=3):∃ a b c,us=[a,b,c]:=by
 cases us with
 | nil=>cases h
 | cons a t=>obtain⟨b,c,rfl⟩:=ln2 (Nat.succ.inj h);exact⟨a,b,c,rfl⟩
theorem Ny{α:Type}{us:List α}(h:us.length=4):∃ a b c d,us=[a,b,c,d]:=by
 cases us with
 | nil=>cases h
 | cons a t=>obtain⟨b,c,d,rfl⟩:=Nd (Nat.succ.inj h);exact⟨a,b,c,d,rfl⟩
theorem NV{α:Type}{us:List α}(h:us.length=5):∃ a b c d e,us=[a,b,c,d,e]:=by
 cases us with
 | nil=>cases h
 | cons a t=>obtain⟨b,c,d,e,rfl⟩:=Ny (Nat.succ.inj h);exact⟨a,b,c,d,e,rfl⟩
def zk(K:PySem.W.Frag):Bool:=K.all λp=>match p.2.cls with
 | .type t=>t != "list"
 | _=>true
theorem Br{K:PySem.W.Frag}(h:zk K=true){a:Addr}{o:Obj}(e:K.lookup a=some o):o.cls≠.type "list" := by
 induction K with
 | nil=>cases e
 | cons p r ih =>
  obtain⟨b,u⟩:=p
  rw[zk,List.all_cons,Bool.and_eq_true] at h
  rw[List.lookup_cons] at e
  cases q:a==b with
  | true =>
   rw[q] at e;cases e
   intro z
   have h1:=h.1
   simp only[z] at h1
   exact absurd h1 (by decide)
  | false=>rw[q] at e;exact ih h.2 e
theorem tW{H:Hp}:∀ ns:List Int,aM H (ns.map PV.int) (ns.map V.int)
 | []=>.nil
 | i::r=>.cons (.int i) (tW r)
theorem yN{l:PySem.W.OpenLaw}{n k:Nat}{q:Program}{loose:List Str}{XP:(Str->Option Value)->Heap->Prop}{YP:World->Heap->Prop}{d:DefRec}{K:Params->PySem.W.Frag}{sem:List PV->M PV}{x:Str}
  (hn:l.most=some n) (Q5:n<=sizeLine) (hdf:d.params.defaults=[]) (hr:bX k callerA)
  (hY:∀ (w:World) (h:Heap),YP w h->(K w.params).In h)
  (hK:∀ w:World,zk (K w.params)=true)
  (F:∀ (w:World) (mg:Str->Option Value) (fa:Addr) (h:Heap),(K w.params).In h->h.Ns mainGlobals mg->mg d.name=some (.ref fa) ->
   ∃ fd:FuncData,(∀ (s:Shared) (u:Value),BindsTo s fd ⟨[u],[]⟩ [(x,u)]) ∧
    ∀ base:Heap,(K w.params).In base->base.Ns mainGlobals mg->aI l.prog w (K w.params) mg base (bH l.prog w) k fa fd [x] (c7 1 sem))
  (Rm:∀ ns:List Int,ns.length<=n->(∀ i∈ns,Builtin.Int.intBits i<=1048576)->sem [.kH (ns.map PV.int)]=M.ok (.bl true)) :
  PySem.W.WalkO q loose XP YP l.row.toRowW d [] (λf vs=>PySem.call f vs):=by
 intro w s₀ s₁ mg mb G Y fa o pm cd doc dV kV ho hd Py hD hmg hg args vals as Ad hlay hrd hwl hlo
 obtain rfl:dV=.none:=PySem.W.Dflts.none hD hdf
 obtain rfl:kV=.none:=PySem.W.Dflts.noKw hD
 obtain⟨a,vs,ns,rfl,rfl,hobj,hints,hlen⟩:=Att.AF hn Ad hwl
 have RH:∀ i∈ns,Builtin.Int.intBits i<=1048576:=λi hi=>by
  have h1:=PySem.W.layableW_arg hlay _ (List.mem_singleton.mpr rfl)
  have h2:=PySem.W.layableW_item h1 (.int i) (List.mem_map.mpr ⟨i,hi,rfl⟩)
  exact intBits_le_of_layable h2
 have KX:=hY w _ Y
 obtain⟨fd,hb,hF⟩:=F w mg fa _ KX G.T.g hmg
 have hs:=Rm ns hlen RH
 refine PySem.W.enter_call (codeAny_mono (Cw KX G.T.g G.T.b G.T.builtins G.T.nolimit hg hobj hints (Nat.le_trans hlen Q5) hr hF hb (λH hO hS=>⟨rfl,H,[.kH (ns.map PV.int)],λ_ _ e=>e,?_,?_⟩) λH e s' z=>?_) λr s' hq=>?_)
 ·rcases hS with (hS | ⟨ob,hS⟩) | ⟨ob,Ob,m,e1,e2,_⟩
  ·rcases hO a with z | ⟨ob,xs,z⟩
   ·rw[z] at hS;cases hS
   ·rw[z] at hS;cases hS
  ·exact .cons (.kH hS (tW ns)) .nil
  ·exact absurd e2 (Br (hK w) e1)
 ·rw[hs]
  intro v Oc H' g r
  cases r;rfl
 ·obtain⟨ea,T,C,dd,Hc,_,_,_,_,_,_,_,_,z⟩:=z;exact z
 ·obtain⟨rfl,h2,h3,h4⟩:=hq
  exact⟨.inl ⟨.bool true,.bool true,[],rfl,λ_=>rfl,.bool true,Att.AS l _,λ_=>⟨List.Pairwise.nil,λ_ hm=>(nomatch hm)⟩⟩,h2,h3,h4⟩
end L2
namespace L2
open PySem PySem.Spec PyProof.Rows
abbrev xP(x q:Str)(t:Stmt)(s:Value)(c:Addr):FuncData:=PySem.W.fnOf x q (i7 t) (gc t) (au t) .none .none .none s none (.ref c) .none
theorem aS.of{K:PySem.W.Frag}{x q:Str}{t:Stmt}{dv kV doc pm:Value}{an:Option Addr}{OA ct:Value}{f:Addr}(h1:K.lookup f=some ⟨.type "function", none,.func (PySem.W.fnOf x q (i7 t) (gc t) (au t) dv kV doc pm an OA ct),⟨[]⟩⟩)(h2:PySem.W.codeIn K OA q=true)(h3:PySem.W.keepIn K (.ref f)=true):aS K x q t dv f (PySem.W.fnOf x q (i7 t) (gc t) (au t) dv kV doc pm an OA ct):=⟨⟨_,_,_,_,_,_,_,_,_,rfl,h1,h2⟩,h3⟩
section
variable{α:Type}{P:List α->Prop}
theorem NF(h:∀ a,P [a]):∀ us,us.length=1->P us:=λus hl=>by obtain⟨a,rfl⟩:=NG hl;exact h a
theorem GL(h:∀ a b,P [a,b]):∀ us,us.length=2->P us:=λus hl=>by obtain⟨a,b,rfl⟩:=ln2 hl;exact h a b
theorem Nt(h:∀ a b c,P [a,b,c]):∀ us,us.length=3->P us:=λus hl=>by obtain⟨a,b,c,rfl⟩:=Nd hl;exact h a b c
theorem NB(h:∀ a b c d,P [a,b,c,d]):∀ us,us.length=4->P us:=λus hl=>by obtain⟨a,b,c,d,rfl⟩:=Ny hl;exact h a b c d
theorem NH(h:∀ a b c d e,P [a,b,c,d,e]):∀ us,us.length=5->P us:=λus hl=>by obtain⟨a,b,c,d,e,rfl⟩:=NV hl;exact h a b c d e
end
theorem aw.of{N P:List Str}{sc:Scope}(h1:sc.kind=.function:=by rfl)(h2:sc.isCoroutine=false:=by rfl)(h3:sc.isGenerator=false:=by rfl)(h4:N.Nodup:=by decide +kernel)(h5:N.take P.length=P:=by rfl)(h6:∀ x∈P,sc.names.lookup x=some .local\/sc.names.lookup x=some .cell:=by decide +kernel)(h7:∀ y∈sc.names,y.2≠.free:=by decide +kernel):aw N P sc:=⟨h1,h2,h3,h4,h5,h6,h7⟩
theorem aK{X:Cx}{pos:Pos}{i:Nat}{x:Str}(hN:X.N.Nodup)(hi:X.N[i]?=some x:=by rfl)(hx:Loc X.env.scope x:=by first | exact .inl rfl | exact .inr rfl)(hf:X.fn x=true\/X.env.scope.names.lookup x=some .local:=by first | exact .inl rfl | exact .inr rfl):PG X (.Name x pos) (aH i):=FE hN hi hx hf
end L2
namespace L2
open PySem PySem.Spec PyProof.Rows
section
variable{K:PySem.W.Frag}{mg:Str->Option Value}{h:Heap}{x q:Str}{t:Stmt}{n m:Nat}{ps:List Str}{sem:List PV->M PV}{tO:List PV->M (List PV)}
theorem ik(P:Program)(w:World)(base:Heap)(X:K.In h)(G:h.Ns mainGlobals mg)(a c:Addr)(s:Value)(ok:aS K x q t .none a (xP x q t s c)->aI P w K mg base (bH P w) n a (xP x q t s c) ps (c7 m (aV m sem)))
  (h1:K.lookup a=some ⟨.type "function", none,.func (xP x q t s c),⟨[]⟩⟩:=by kernel_rfl) (h2:PySem.W.codeIn K (.ref c) q=true:=by kernel_rfl) (h3:PySem.W.keepIn K (.ref a)=true:=by kernel_rfl) (h4:PySem.W.nsIn K mainGlobals x=some (some (.ref a)):=by kernel_rfl)
  (h5:ps.length=m:=by rfl) (h6:Binds K (xP x q t s c) ps []:=by first | exact Binds.all (NF λ_=>rfl) | exact Binds.all (GL λ_ _=>rfl) | exact Binds.all (Nt λ_ _ _=>rfl) | exact Binds.all (NB λ_ _ _ _=>rfl) | exact Binds.all (NH λ_ _ _ _ _=>rfl) | exact Binds.all (bn6 λ_ _ _ _ _ _=>rfl) | exact Binds.all (bn7 λ_ _ _ _ _ _ _=>rfl)):cq P w K mg base n x m sem :=
 ⟨⟨a,_,ps,PySem.W.mg_of X G h4,h3,h5,h6,ok (.of h1 h2 h3)⟩⟩
theorem yr(P:Program)(w:World)(base:Heap){C:Addr}(cc:lq K C)(a c:Addr)(s:Value)(ok:aS K x q t .none a (xP x q t s c)->aI P w K mg base (bH P w) n a (xP x q t s c) ps (c7 m (aV m sem)))
  (h1:K.lookup a=some ⟨.type "function", none,.func (xP x q t s c),⟨[]⟩⟩:=by kernel_rfl) (h2:PySem.W.codeIn K (.ref c) q=true:=by kernel_rfl) (h3:PySem.W.keepIn K (.ref a)=true:=by kernel_rfl) (h4:PySem.W.findIn K (.ref C) x=some (some (.ref a)):=by kernel_rfl) (h5:PySem.W.isFn K (.ref a)=true:=by kernel_rfl)
  (h6:Binds K (xP x q t s c) ps []:=by first | exact Binds.all (NF λ_=>rfl) | exact Binds.all (GL λ_ _=>rfl) | exact Binds.all (Nt λ_ _ _=>rfl) | exact Binds.all (NB λ_ _ _ _=>rfl) | exact Binds.all (NH λ_ _ _ _ _=>rfl) | exact Binds.all (bn6 λ_ _ _ _ _ _=>rfl) | exact Binds.all (bn7 λ_ _ _ _ _ _ _=>rfl)):iV P w K mg base C n x m sem :=
 ⟨⟨a,_,ps,cc,⟨h4,h5,h3⟩,h6,ok (.of h1 h2 h3)⟩⟩
end
end L2
namespace HD
open PySem PySem.W L2
abbrev pw:Program:=PySem.Challenge.pw_dialvault_k27_whole_one_paper
noncomputable section
noncomputable def st(s:String)(t:Nat):Value:=.str (Str.ofString s) t
def en(P:Params)(s:String)(t:Nat)(v:Value):DictEntry:=⟨PyData.keyHash P (Str.ofString s),st s t,v⟩
def tu(xs:List Value):Obj:=⟨.type "tuple", none,.seq ⟨xs⟩ 0,⟨[]⟩⟩
def di(n:Nat)(es:List DictEntry):Obj:=⟨.type "dict", none,.dict ⟨es⟩ n,⟨[]⟩⟩
def tp(i:Nat):Stmt:=pw.main.body.getD i (.Pass ⟨0,0,0,0⟩)
def mp(i j:Nat):Stmt:=inClass (tp i) j
def co(a b:String)(t:Nat)(l n:Int)(x1 x2 x3 x4 x5:Nat)(u:Nat):Obj:=⟨.type "code", none,.fields ⟨[st a t,st b (t+1),st "/claim/cut.py" (t+2),.int l 0,.int n 0,.int 0 0,.int 0 0,.int 3 0,.ref x1,.bool true,.int 181 0,.ref x2,.none,.ref x3,.ref x4,.ref x5,.int u 0,.int l 0,st "/claim/cut.py" (u+1)]⟩,⟨[]⟩⟩
def ft(a b:String)(s:Stmt):Obj:=⟨.none,none,.func ⟨Str.ofString a,Str.ofString b,i7 s,.stmts (gc s),au s,0,[],.none,.none,.none,.none,none,.none,.none,0⟩,⟨[]⟩⟩
def fo(a b:String)(s:Stmt)(df pm:Value)(cd:Nat):Obj:=⟨.type "function", none,.func ⟨Str.ofString a,Str.ofString b,i7 s,.stmts (gc s),au s,3,[],df,.none,.none,pm,none,.ref cd,.none,0⟩,⟨[]⟩⟩
def Hn:List Obj->List Obj
 | []=>[]
 | [a]=>[a]
 | a::_::r=>a::Hn r
def bt:Nat->List Obj->BT
 | 0,_=>.nil
 | _+1,[]=>.nil
 | n+1,a::r=>.node a (bt n (Hn r)) (bt n (Hn (r.drop 1)))
def S(L:Params->List Obj)(n k:Nat)(w:World)(os:OsState):SharedT:=⟨bt 14 (L w.params),n,{},⟨[]⟩,⟨0,0,0,0⟩,k,os⟩
def F(L:Params->List Obj)(k:Nat)(w:World)(os:OsState):Shared:=⟨⟨⟨L w.params⟩,{}⟩,⟨[]⟩,⟨0,0,0,0⟩,k,os⟩
def cc(a:String)(t:Nat)(l:Int)(x y u:Nat):Obj:=⟨.type "code", none,.fields ⟨[st a t,st a (t+1),st "/claim/cut.py" (t+2),.int l 0,.int 0 0,.int 0 0,.int 0 0,.int 0 0,.ref x,.bool false,.int 181 0,.ref y,.none,.none,.none,.none,.int u 0,.int l 0,st "/claim/cut.py" (u+1)]⟩,⟨[]⟩⟩
def fr(a b:Nat)(s:String)(t:Nat):Obj:=⟨.type "frame", none,.plain,⟨[some (.ref a),some (.ref 3),some (.ref b),none,some (st s t),none,some (.ref 0)]⟩⟩
def su(a:Nat):Obj:=⟨.type "super", none,.fields ⟨[.ref a,.ref a,.ref a]⟩,⟨[]⟩⟩
def ii(a:Nat):Obj:=⟨.type "builtin_function_or_method", none,.fields ⟨[.builtin "object.__init_subclass__", .ref a]⟩,⟨[]⟩⟩
def xJ:List Nat->List Value
 | a::b::c::r=>.int a 0::.int b 0::.ref c::xJ r
 | _=>[]
def fi(xs:List Nat):Obj:=⟨.none,none,.fields ⟨xJ xs⟩,⟨[]⟩⟩
def cl(n:Str)(bs ms:List Value)(k:Nat)(ss:List Value)(sl:List (Option Value)):Obj:=⟨.type "type", none,.cls ⟨n,bs,ms,k,n,true,[],ss,false,none,false⟩,⟨sl⟩⟩
def pt(L:List Obj)(us:List (Nat×Obj))(ns:List Obj):List Obj:=us.foldl (λl u=>l.set u.1 u.2) L++ns
abbrev b0:=boot_o_0
abbrev b1:=boot_o_1
abbrev b2:=boot_o_2
abbrev b3:=boot_o_3
abbrev b4:=boot_o_4
abbrev b5:=boot_o_5
abbrev b6:=boot_o_6
abbrev b7:=boot_o_7
abbrev b8:=boot_o_8
abbrev b9:=boot_o_9
abbrev N6:=boot_o_10
def m0:Value:=st "__main__" 164
def m1:Value:=st "dialvault.errors" 194
def m2:Value:=st "dialvault.wholes" 386
def m3:Value:=st "dialvault.vault" 434
def m4:Value:=st "dialvault.papers" 613
def m5:Value:=st "dialvault.rungs" 763
def m6:Value:=st "law_dialvault_k27_whole_one_paper" 949
def nl:List String->Nat->List Value
 | [],_=>[]
 | x::r,t=>st x t::nl r (t+1)
def fA(P:Params)(a t:Nat)(x q:String)(s:Stmt)(l n:Int)(vs:List String)(df pm:Value):List Obj:=[b7 P,b8 P,tu (nl vs (t+3)),b7 P,ft x q s,co x q t l n a (a+1) (a+2) (a+3) (a+4) (t+3+vs.length),fo x q s df pm (a+5)]
def fT(P:Params)(a t:Nat)(x:String)(s:Stmt)(l n:Int)(vs:List String)(pm:Value):List Obj:=fA P a t x x s l n vs .none pm
def fB(P:Params)(a t:Nat)(x q:String)(s:Stmt)(l n:Int)(df pm:Value):List Obj:=[b7 P,b8 P,ft x q s,⟨.type "code", none,.fields ⟨[st x t,st q (t+1),st "/claim/cut.py" (t+2),.int l 0,.int n 0,.int 0 0,.int 0 0,.int 3 0,.ref a,.bool true,.int 181 0,.ref (a+1),.none,.none,.none,.ref (a+2),.int (t+3) 0,.int l 0,st "/claim/cut.py" (t+4)]⟩,⟨[]⟩⟩,fo x q s df pm (a+3)]
def dB(P:Params)(n t:Nat)(m:Value)(l:Int)(r:List DictEntry):Obj:=di n (en P "__module__" t m::en P "__firstlineno__" (t+4) (.int l (t+3))::r)
def dA(P:Params)(n t:Nat)(m:Value)(x:String)(l:Int)(r:List DictEntry):Obj:=di n (en P "__module__" t m::en P "__qualname__" (t+2) (st x (t+1))::en P "__firstlineno__" (t+4) (.int l (t+3))::r)
def gw(t a:Nat):Obj:=⟨.type "getset_descriptor", none,.fields ⟨[st "__weakref__" t,.ref a,.builtin "ExceptionGroup.__weakref__", .none]⟩,⟨[]⟩⟩
def gd(t a:Nat):Obj:=⟨.type "getset_descriptor", none,.fields ⟨[st "__dict__" t,.ref a,.builtin "function.__dict__", .builtin "function.__dict__#set"]⟩,⟨[]⟩⟩
def ce(x:String)(b a k:Nat)(ss:List Value)(d t u:Nat):Obj:=cl x [.ref b] [.ref a,.ref b,.type "ValueError", .type "Exception", .type "BaseException", .type "object"] k ss [some (.ref d),none,some (st x t),some (st x u),some (.builtin "ValueError.__new__"),some (.bool true)]
def gl P:=[en P "__doc__" 166 .none,en P "__package__" 167 .none,en P "__loader__" 168 (.builtin "__main__.__loader__#opaque"),en P "__spec__" 169 .none,en P "__annotations__" 170 (.ref 6),en P "__builtins__" 171 (.ref 4),en P "__file__" 173 (st "/claim/cut.py" 172),en P "__cached__" 174 .none,en P "_wall" 193 (.ref 21),en P "VaultError" 220 (.ref 38),en P "NoDial" 252 (.ref 65),en P "NoLever" 284 (.ref 91),en P "NoPrice" 316 (.ref 117),en P "NoSetting" 339 (.ref 136),en P "NoPulls" 362 (.ref 155),en P "TooMany" 385 (.ref 174),en P "is_whole" 394 (.ref 183),en P "is_row" 400 (.ref 188),en P "common" 412 (.ref 195),en P "multiple_of" 421 (.ref 202),en P "unit_row" 427 (.ref 207),en P "rest_sum" 433 (.ref 212),en P "MOST_DIALS" 437 (.int 6 436),en P "LEAST_SIZE" 439 (.int 2 438),en P "MOST_SIZE" 441 (.int 360 440),en P "MOST_LEVERS" 443 (.int 8 442),en P "LEAST_PRICE" 445 (.int 1 444),en P "MOST_PRICE" 447 (.int 1000 446),en P "Vault" 505 (.ref 256),en P "is_within" 514 (.ref 267),en P "need_sizes" 523 (.ref 274),en P "need_levers" 533 (.ref 281),en P "prices_for" 542 (.ref 288),en P "rests" 548 (.ref 293),en P "nought" 555 (.ref 300),en P "is_setting" 561 (.ref 305),en P "is_pulls" 569 (.ref 312),en P "need_setting" 577 (.ref 319),en P "need_pulls" 585 (.ref 326),en P "added" 591 (.ref 331),en P "turned" 603 (.ref 338),en P "between" 612 (.ref 345),en P "weigh" 620 (.ref 350),en P "weighs_no_lever" 626 (.ref 355),en P "Paper" 670 (.ref 386),en P "Way" 719 (.ref 428),en P "Bar" 762 (.ref 461),en P "mixed" 770 (.ref 468),en P "mixed_made" 782 (.ref 475),en P "unpulled" 790 (.ref 482),en P "pulled_once" 799 (.ref 489),en P "step_size" 809 (.ref 496),en P "taken_in" 824 (.ref 503),en P "lowered" 836 (.ref 510),en P "in_spans" 846 (.ref 517),en P "Rungs" 930 (.ref 582),en P "first_turned" 936 (.ref 591),en P "bring" 948 (.ref 598),en P "_law_cell" 958 (.ref 605),en P "_law_stream" 969 (.ref 612),en P "_law_digits" 980 (.ref 619),en P "_law_sizes" 986 (.ref 624),en P "_law_great" 993 (.ref 631),en P "_law_lever" 1005 (.ref 638),en P "_law_levers" 1016 (.ref 645),en P "_law_round" 1027 (.ref 652),en P "_law_added" 1033 (.ref 657),en P "_law_turned" 1046 (.ref 664),en P "_law_weighed" 1060 (.ref 671),en P "_law_setting" 1066 (.ref 676),en P "_law_pulls" 1072 (.ref 681),en P "_law_way_good" 1085 (.ref 688),en P "_law_bar_good" 1100 (.ref 695),en P "_law_one_paper" 1113 (.ref 702),en P "_law_refused" 1122 (.ref 709),en P "law" 1128 (.ref 714)]
def LA(P:Params):List Obj:=[b0 P,b1 P,b2 P,b3 P,b4 P,b5 P,b6 P,b7 P,b8 P,b9 P,N6 P,b7 P,b8 P,cc "<module>" 182 1 11 12 185,fr 13 3 "__main__" 164]
def o9:Obj:=⟨.type "builtin_function_or_method", none,(.fields ⟨[.builtin "type.__prepare__", .type "type"]⟩),⟨[]⟩⟩
def N5:Obj:=gw 216 38
def JQ:=tu [.ref 38]
def L0 P:=pt (LA P) [(3,di 15 (en P "__name__" 165 m1::(gl P).take 14)),(12,fi [1,0,20,5,0,27,9,0,47,16,0,73,23,0,99,30,0,125])] (fT P 15 187 "_wall" (tp 0) 1 1 ["k"] m0++([tu [.type "ValueError"],o9,dA P 5 203 m1 "VaultError" 5 [en P "word" 214 (.ref 35),en P "__static_attributes__" 215 (.ref 36)],b7 P,fi [7,4,34],cc "VaultError" 198 5 25 26 201,fr 27 24 "dialvault.errors" 194]++(fA P 29 208 "word" "VaultError.word" (mp 2 0) 7 1 ["self"] .none m1++([b7 P,dB P 3 203 m1 5 [en P "word" 214 (.ref 35),en P "__static_attributes__" 215 (.ref 36),en P "__weakref__" 217 (.ref 39),en P "__doc__" 218 .none],cl "VaultError" [.type "ValueError"] [.ref 38,.type "ValueError", .type "Exception", .type "BaseException", .type "object"] 37 [.ref 65,.ref 91,.ref 117,.ref 136] [some (.ref 22),none,some (st "VaultError" 196),some (st "VaultError" 204),some (.builtin "ValueError.__new__"),some (.bool true)],N5,su 38,ii 38,JQ,o9,dA P 6 228 m1 "NoDial" 9 [en P "__init__" 240 (.ref 55),en P "word" 247 (.ref 62),en P "__static_attributes__" 249 (.ref 63)],b7 P,fi [11,4,54,14,4,61],cc "NoDial" 223 9 45 46 226,fr 47 44 "dialvault.errors" 194]++(fA P 49 233 "__init__" "NoDial.__init__" (mp 3 0) 11 2 ["self", "dial"] .none m1++(fA P 56 241 "word" "NoDial.word" (mp 3 1) 14 1 ["self"] .none m1++([tu [st "dial" 248],dB P 2 228 m1 9 [en P "__init__" 240 (.ref 55),en P "word" 247 (.ref 62),en P "__static_attributes__" 249 (.ref 63),en P "__doc__" 250 .none],ce "NoDial" 38 65 64 [] 42 221 229,su 65,ii 65,JQ,o9,dA P 6 260 m1 "NoLever" 16 [en P "__init__" 272 (.ref 81),en P "word" 279 (.ref 88),en P "__static_attributes__" 281 (.ref 89)],b7 P,fi [18,4,80,21,4,87],cc "NoLever" 255 16 71 72 258,fr 73 70 "dialvault.errors" 194]++(fA P 75 265 "__init__" "NoLever.__init__" (mp 4 0) 18 2 ["self", "lever"] .none m1++(fA P 82 273 "word" "NoLever.word" (mp 4 1) 21 1 ["self"] .none m1++([tu [st "lever" 280],dB P 2 260 m1 16 [en P "__init__" 272 (.ref 81),en P "word" 279 (.ref 88),en P "__static_attributes__" 281 (.ref 89),en P "__doc__" 282 .none],ce "NoLever" 38 91 90 [] 68 253 261,su 91,ii 91,JQ,o9,dA P 6 292 m1 "NoPrice" 23 [en P "__init__" 304 (.ref 107),en P "word" 311 (.ref 114),en P "__static_attributes__" 313 (.ref 115)],b7 P,fi [25,4,106,28,4,113],cc "NoPrice" 287 23 97 98 290,fr 99 96 "dialvault.errors" 194]++(fA P 101 297 "__init__" "NoPrice.__init__" (mp 5 0) 25 2 ["self", "lever"] .none m1++(fA P 108 305 "word" "NoPrice.word" (mp 5 1) 28 1 ["self"] .none m1++([tu [st "lever" 312],dB P 2 292 m1 23 [en P "__init__" 304 (.ref 107),en P "word" 311 (.ref 114),en P "__static_attributes__" 313 (.ref 115),en P "__doc__" 314 .none],ce "NoPrice" 38 117 116 [] 94 285 293,su 117,ii 117,JQ,o9,dA P 5 324 m1 "NoSetting" 30 [en P "word" 335 (.ref 133),en P "__static_attributes__" 336 (.ref 134)],b7 P,fi [32,4,132],cc "NoSetting" 319 30 123 124 322,fr 125 122 "dialvault.errors" 194]++(fA P 127 329 "word" "NoSetting.word" (mp 6 0) 32 1 ["self"] .none m1++([b7 P,dB P 2 324 m1 30 [en P "word" 335 (.ref 133),en P "__static_attributes__" 336 (.ref 134),en P "__doc__" 337 .none],ce "NoSetting" 38 136 135 [] 120 317 325,su 136,ii 136])))))))))))))))
def M5:Obj:=gd 499 256
def M4:Obj:=gw 501 256
def L1 P:=pt (L0 P) [(3,di 44 (en P "__name__" 165 m4::(gl P).take 43)),(12,fi [1,0,20,5,0,27,9,0,47,16,0,73,23,0,99,30,0,125,34,0,144,38,0,163,43,0,182,45,0,187,49,0,194,60,0,201,65,0,206,67,0,211,76,0,218,97,0,266,99,0,273,107,0,280,113,0,287,122,0,292,124,0,299,126,0,304,131,0,311,133,0,318,136,0,325,139,0,330,142,0,337,149,0,344,154,0,349]),(38,cl "VaultError" [.type "ValueError"] [.ref 38,.type "ValueError", .type "Exception", .type "BaseException", .type "object"] 37 [.ref 65,.ref 91,.ref 117,.ref 136,.ref 155,.ref 174] [some (.ref 22),none,some (st "VaultError" 196),some (st "VaultError" 204),some (.builtin "ValueError.__new__"),some (.bool true)])] ([JQ,o9,dA P 5 347 m1 "NoPulls" 34 [en P "word" 358 (.ref 152),en P "__static_attributes__" 359 (.ref 153)],b7 P,fi [36,4,151],cc "NoPulls" 342 34 142 143 345,fr 144 141 "dialvault.errors" 194]++(fA P 146 352 "word" "NoPulls.word" (mp 7 0) 36 1 ["self"] .none m1++([b7 P,dB P 2 347 m1 34 [en P "word" 358 (.ref 152),en P "__static_attributes__" 359 (.ref 153),en P "__doc__" 360 .none],ce "NoPulls" 38 155 154 [] 139 340 348,su 155,ii 155,JQ,o9,dA P 5 370 m1 "TooMany" 38 [en P "word" 381 (.ref 171),en P "__static_attributes__" 382 (.ref 172)],b7 P,fi [40,4,170],cc "TooMany" 365 38 161 162 368,fr 163 160 "dialvault.errors" 194]++(fA P 165 375 "word" "TooMany.word" (mp 8 0) 40 1 ["self"] .none m1++([b7 P,dB P 2 370 m1 38 [en P "word" 381 (.ref 171),en P "__static_attributes__" 382 (.ref 172),en P "__doc__" 383 .none],ce "TooMany" 38 174 173 [] 158 363 371,su 174,ii 174]++(fT P 177 388 "is_whole" (tp 10) 43 1 ["thing"] m2++(fB P 184 395 "is_row" "is_row" (tp 11) 45 2 .none m2++(fT P 189 401 "common" (tp 12) 49 2 ["one", "other", "row", "behind", "times", "rest"] m2++(fT P 196 413 "multiple_of" (tp 13) 60 1 ["numbers", "multiple", "number"] m2++(fB P 203 422 "unit_row" "unit_row" (tp 14) 65 2 .none m2++(fB P 208 428 "rest_sum" "rest_sum" (tp 15) 67 3 .none m2++([b7 P,o9,dA P 9 455 m3 "Vault" 76 [en P "__init__" 465 (.ref 225),en P "sizes" 472 (.ref 232),en P "levers" 479 (.ref 239),en P "prices" 486 (.ref 246),en P "around" 493 (.ref 253),en P "__static_attributes__" 498 (.ref 254)],b7 P,fi [78,4,224,86,4,231,89,4,238,92,4,245,95,4,252],cc "Vault" 450 76 216 217 453,fr 218 215 "dialvault.vault" 434,tu [.none]]++(fB P 221 460 "__init__" "Vault.__init__" (mp 23 0) 78 4 (.ref 220) m3++(fA P 226 466 "sizes" "Vault.sizes" (mp 23 1) 86 1 ["self"] .none m3++(fA P 233 473 "levers" "Vault.levers" (mp 23 2) 89 1 ["self"] .none m3++(fA P 240 480 "prices" "Vault.prices" (mp 23 3) 92 1 ["self"] .none m3++(fA P 247 487 "around" "Vault.around" (mp 23 4) 95 1 ["self"] .none m3++([tu [st "dial_sizes" 494,st "least_round" 495,st "lever_prices" 496,st "lever_settings" 497],dB P 4 455 m3 76 [en P "__init__" 465 (.ref 225),en P "sizes" 472 (.ref 232),en P "levers" 479 (.ref 239),en P "prices" 486 (.ref 246),en P "around" 493 (.ref 253),en P "__static_attributes__" 498 (.ref 254),en P "__dict__" 500 (.ref 257),en P "__weakref__" 502 (.ref 258),en P "__doc__" 503 .none],cl "Vault" [.type "object"] [.ref 256,.type "object"] 255 [] [none,none,some (st "Vault" 448),some (st "Vault" 456),some (.builtin "object.__new__"),some (.bool true)],M5,M4,su 256,ii 256]++(fT P 261 506 "is_within" (tp 24) 97 3 ["thing", "least", "most"] m3++(fT P 268 515 "need_sizes" (tp 25) 99 1 ["sizes", "dial", "size"] m3++(fT P 275 524 "need_levers" (tp 26) 107 2 ["levers", "dials", "place", "lever"] m3++(fT P 282 534 "prices_for" (tp 27) 113 2 ["levers", "prices", "place"] m3++(fB P 289 543 "rests" "rests" (tp 28) 122 2 .none m3++(fT P 294 549 "nought" (tp 29) 124 1 ["vault"] m3++(fB P 301 556 "is_setting" "is_setting" (tp 30) 126 2 .none m3++(fT P 306 562 "is_pulls" (tp 31) 131 2 ["vault", "thing"] m3++(fT P 313 570 "need_setting" (tp 32) 133 2 ["vault", "thing"] m3++(fT P 320 578 "need_pulls" (tp 33) 136 2 ["vault", "thing"] m3++(fB P 327 586 "added" "added" (tp 34) 139 4 .none m3++(fT P 332 592 "turned" (tp 35) 142 3 ["vault", "setting", "pulls", "reached", "lever", "times"] m3++(fT P 339 604 "between" (tp 36) 149 3 ["vault", "one", "other"] m3++(fB P 346 615 "weigh" "weigh" (tp 38) 154 3 .none m4))))))))))))))))))))))))))))))))
def Np:Obj:=gd 664 386
def MC:Obj:=gw 666 386
def Lx:=tu [.ref 386]
def L2 P:=pt (L1 P) [(3,di 56 (en P "__name__" 165 m5::(gl P).take 55)),(12,fi [1,0,20,5,0,27,9,0,47,16,0,73,23,0,99,30,0,125,34,0,144,38,0,163,43,0,182,45,0,187,49,0,194,60,0,201,65,0,206,67,0,211,76,0,218,97,0,266,99,0,273,107,0,280,113,0,287,122,0,292,124,0,299,126,0,304,131,0,311,133,0,318,136,0,325,139,0,330,142,0,337,149,0,344,154,0,349,160,0,354,162,0,361,174,0,396,189,0,436,203,0,467,205,0,474,208,0,481,210,0,488,213,0,495,216,0,502,225,0,509,230,0,516])] (fB P 351 621 "weighs_no_lever" "weighs_no_lever" (tp 39) 160 2 .none m4++([b7 P,o9,dA P 7 634 m4 "Paper" 162 [en P "brings" 645 (.ref 369),en P "shows" 655 (.ref 376),en P "words" 662 (.ref 383),en P "__static_attributes__" 663 (.ref 384)],b7 P,fi [164,4,368,167,4,375,172,4,382],cc "Paper" 629 162 359 360 632,fr 361 358 "dialvault.papers" 613]++(fA P 363 639 "brings" "Paper.brings" (mp 40 0) 164 1 ["self"] .none m4++(fA P 370 646 "shows" "Paper.shows" (mp 40 1) 167 4 ["self", "vault", "one", "other"] .none m4++(fA P 377 656 "words" "Paper.words" (mp 40 2) 172 1 ["self"] .none m4++([b7 P,dB P 4 634 m4 162 [en P "brings" 645 (.ref 369),en P "shows" 655 (.ref 376),en P "words" 662 (.ref 383),en P "__static_attributes__" 663 (.ref 384),en P "__dict__" 665 (.ref 387),en P "__weakref__" 667 (.ref 388),en P "__doc__" 668 .none],cl "Paper" [.type "object"] [.ref 386,.type "object"] 385 [.ref 428,.ref 461] [none,none,some (st "Paper" 627),some (st "Paper" 635),some (.builtin "object.__new__"),some (.bool true)],Np,MC,su 386,ii 386,Lx,o9,dA P 8 678 m4 "Way" 174 [en P "__init__" 690 (.ref 404),en P "brings" 697 (.ref 411),en P "shows" 707 (.ref 418),en P "words" 714 (.ref 425),en P "__static_attributes__" 716 (.ref 426)],b7 P,fi [176,4,403,179,4,410,182,4,417,187,4,424],cc "Way" 673 174 394 395 676,fr 396 393 "dialvault.papers" 613]++(fA P 398 683 "__init__" "Way.__init__" (mp 41 0) 176 2 ["self", "pulls"] .none m4++(fA P 405 691 "brings" "Way.brings" (mp 41 1) 179 1 ["self"] .none m4++(fA P 412 698 "shows" "Way.shows" (mp 41 2) 182 4 ["self", "vault", "one", "other"] .none m4++(fA P 419 708 "words" "Way.words" (mp 41 3) 187 1 ["self"] .none m4++([tu [st "pulls" 715],dB P 2 678 m4 174 [en P "__init__" 690 (.ref 404),en P "brings" 697 (.ref 411),en P "shows" 707 (.ref 418),en P "words" 714 (.ref 425),en P "__static_attributes__" 716 (.ref 426),en P "__doc__" 717 .none],cl "Way" [.ref 386] [.ref 428,.ref 386,.type "object"] 427 [] [some (.ref 391),none,some (st "Way" 671),some (st "Way" 679),some (.builtin "object.__new__"),some (.bool true)],su 428,ii 428,Lx,o9,dA P 7 727 m4 "Bar" 189 [en P "__init__" 739 (.ref 444),en P "shows" 750 (.ref 451),en P "words" 757 (.ref 458),en P "__static_attributes__" 759 (.ref 459)],b7 P,fi [191,4,443,194,4,450,200,4,457],cc "Bar" 722 189 434 435 725,fr 436 433 "dialvault.papers" 613]++(fA P 438 732 "__init__" "Bar.__init__" (mp 42 0) 191 2 ["self", "weights"] .none m4++(fA P 445 740 "shows" "Bar.shows" (mp 42 1) 194 4 ["self", "vault", "one", "other", "difference"] .none m4++(fA P 452 751 "words" "Bar.words" (mp 42 2) 200 1 ["self"] .none m4++([tu [st "weights" 758],dB P 2 727 m4 189 [en P "__init__" 739 (.ref 444),en P "shows" 750 (.ref 451),en P "words" 757 (.ref 458),en P "__static_attributes__" 759 (.ref 459),en P "__doc__" 760 .none],cl "Bar" [.ref 386] [.ref 461,.ref 386,.type "object"] 460 [] [some (.ref 431),none,some (st "Bar" 720),some (st "Bar" 728),some (.builtin "object.__new__"),some (.bool true)],su 461,ii 461]++(fB P 464 765 "mixed" "mixed" (tp 44) 203 4 .none m5++(fT P 469 771 "mixed_made" (tp 45) 205 5 ["sizes", "made", "times", "other", "others", "doing"] m5++(fT P 476 783 "unpulled" (tp 46) 208 2 ["vault", "setting"] m5++(fT P 483 791 "pulled_once" (tp 47) 210 2 ["vault", "lever", "levers"] m5++(fT P 490 800 "step_size" (tp 48) 213 3 ["sizes", "made_rows", "dial", "notch"] m5++(fT P 497 810 "taken_in" (tp 49) 216 3 ["sizes", "made_rows", "left", "wider", "dial", "made", "step", "notch", "found"] m5++(fT P 504 825 "lowered" (tp 50) 225 4 ["sizes", "made_rows", "made", "first", "dial", "times"] m5++(fT P 511 837 "in_spans" (tp 51) 230 2 ["pulls", "idle_rows", "lever", "row"] m5)))))))))))))))))))))))
def LX:Obj:=gd 924 582
def Nc:Obj:=gw 926 582
def L3 P:=pt (L2 P) [(3,di 77 (en P "__name__" 165 m6::gl P)),(12,fi [1,0,20,5,0,27,9,0,47,16,0,73,23,0,99,30,0,125,34,0,144,38,0,163,43,0,182,45,0,187,49,0,194,60,0,201,65,0,206,67,0,211,76,0,218,97,0,266,99,0,273,107,0,280,113,0,287,122,0,292,124,0,299,126,0,304,131,0,311,133,0,318,136,0,325,139,0,330,142,0,337,149,0,344,154,0,349,160,0,354,162,0,361,174,0,396,189,0,436,203,0,467,205,0,474,208,0,481,210,0,488,213,0,495,216,0,502,225,0,509,230,0,516,235,0,523,287,0,590,289,0,597,297,0,604,301,0,611,308,0,618,315,0,623,326,0,630,328,0,637,339,0,644,348,0,651,356,0,656,358,0,663,363,0,670,369,0,675,373,0,680,380,0,687,390,0,694,403,0,701,417,0,708,423,0,713])] ([b7 P,o9,dA P 13 854 m5 "Rungs" 235 [en P "__init__" 864 (.ref 529),en P "steps" 870 (.ref 534),en P "rows" 877 (.ref 541),en P "spans" 884 (.ref 548),en P "idle" 891 (.ref 555),en P "brought_down" 899 (.ref 562),en P "least" 907 (.ref 569),en P "pulls_to" 913 (.ref 574),en P "weights_at" 919 (.ref 579),en P "__static_attributes__" 923 (.ref 580)],b7 P,fi [237,4,528,249,4,533,253,4,540,256,4,547,259,4,554,262,4,561,266,4,568,269,4,573,275,4,578],cc "Rungs" 849 235 521 522 852,fr 523 520 "dialvault.rungs" 763]++(fB P 525 859 "__init__" "Rungs.__init__" (mp 52 0) 237 2 .none m5++(fB P 530 865 "steps" "Rungs.steps" (mp 52 1) 249 1 .none m5++(fA P 535 871 "rows" "Rungs.rows" (mp 52 2) 253 1 ["self"] .none m5++(fA P 542 878 "spans" "Rungs.spans" (mp 52 3) 256 1 ["self"] .none m5++(fA P 549 885 "idle" "Rungs.idle" (mp 52 4) 259 1 ["self"] .none m5++(fA P 556 892 "brought_down" "Rungs.brought_down" (mp 52 5) 262 2 ["self", "setting"] .none m5++(fA P 563 900 "least" "Rungs.least" (mp 52 6) 266 2 ["self", "setting"] .none m5++(fB P 570 908 "pulls_to" "Rungs.pulls_to" (mp 52 7) 269 2 .none m5++(fB P 575 914 "weights_at" "Rungs.weights_at" (mp 52 8) 275 2 .none m5++([tu [st "idle_rows" 920,st "made_rows" 921,st "vault" 922],dB P 4 854 m5 235 [en P "__init__" 864 (.ref 529),en P "steps" 870 (.ref 534),en P "rows" 877 (.ref 541),en P "spans" 884 (.ref 548),en P "idle" 891 (.ref 555),en P "brought_down" 899 (.ref 562),en P "least" 907 (.ref 569),en P "pulls_to" 913 (.ref 574),en P "weights_at" 919 (.ref 579),en P "__static_attributes__" 923 (.ref 580),en P "__dict__" 925 (.ref 583),en P "__weakref__" 927 (.ref 584),en P "__doc__" 928 .none],cl "Rungs" [.type "object"] [.ref 582,.type "object"] 581 [] [none,none,some (st "Rungs" 847),some (st "Rungs" 855),some (.builtin "object.__new__"),some (.bool true)],LX,Nc,su 582,ii 582]++(fB P 587 931 "first_turned" "first_turned" (tp 53) 287 1 .none m5++(fT P 592 937 "bring" (tp 54) 289 3 ["vault", "one", "other", "difference", "rungs", "pulls"] m5++(fT P 599 951 "_law_cell" (tp 56) 297 2 ["_law_script", "_law_k"] m6++(fT P 606 959 "_law_stream" (tp 57) 301 2 ["_law_cell_here", "_law_many", "_law_found", "_law_number", "_law_k"] m6++(fT P 613 970 "_law_digits" (tp 58) 308 2 ["_law_cell_here", "_law_bases", "_law_found", "_law_left", "_law_base"] m6++(fB P 620 981 "_law_sizes" "_law_sizes" (tp 59) 315 1 .none m6++(fT P 625 987 "_law_great" (tp 60) 326 1 ["_law_number"] m6++(fT P 632 994 "_law_lever" (tp 61) 328 2 ["_law_cell_here", "_law_sizes_here", "_law_row", "_law_number", "_law_size", "_law_share"] m6++(fT P 639 1006 "_law_levers" (tp 62) 339 2 ["_law_script", "_law_sizes_here", "_law_levers_here", "_law_k", "_law_cell_here"] m6++(fT P 646 1017 "_law_round" (tp 63) 348 1 ["_law_sizes_here", "_law_found", "_law_size", "_law_one", "_law_other"] m6++(fB P 653 1028 "_law_added" "_law_added" (tp 64) 356 4 .none m6++(fT P 658 1034 "_law_turned" (tp 65) 358 4 ["_law_sizes_here", "_law_levers_here", "_law_setting_here", "_law_pulls_here", "_law_found", "_law_row", "_law_times"] m6++(fT P 665 1047 "_law_weighed" (tp 66) 363 3 ["_law_sizes_here", "_law_weights", "_law_setting_here", "_law_around", "_law_total", "_law_weight", "_law_notch", "_law_size"] m6++(fB P 672 1061 "_law_setting" "_law_setting" (tp 67) 369 2 .none m6++(fB P 677 1067 "_law_pulls" "_law_pulls" (tp 68) 373 2 .none m6++(fT P 682 1073 "_law_way_good" (tp 69) 380 5 ["_law_paper", "_law_sizes_here", "_law_levers_here", "_law_one", "_law_other", "_law_pulls_here", "_law_times"] m6++(fT P 689 1086 "_law_bar_good" (tp 70) 390 5 ["_law_paper", "_law_sizes_here", "_law_levers_here", "_law_one", "_law_other", "_law_weights", "_law_weight", "_law_size", "_law_row"] m6++(fT P 696 1101 "_law_one_paper" (tp 71) 403 4 ["_law_vault", "_law_rungs", "_law_one", "_law_other", "_law_sizes_here", "_law_levers_here", "_law_paper"] m6++(fT P 703 1114 "_law_refused" (tp 72) 417 3 ["_law_vault", "_law_one", "_law_other"] m6++(fB P 710 1123 "law" "law" (tp 73) 423 1 .none m6)))))))))))))))))))))))))))))))
def LF(P:Params):=L3 P
def bE:List Stmt:=behindTheImports pw
def env:Env:={ scope:=pw.main.scope,locals:=mainNs,globals:=mainNs,cells:=[],code:=.ref 13,frame:=some 14 }
def cE:Code:=.body bE env
abbrev B:List Frame:=[topFrame ⟨0,0,0,0⟩]
abbrev ann:Option Value:=(some (.ref 6))
def Ik:List Stmt:=(bE.drop 0).take 7
def JL:List Stmt:=(bE.drop 7).take 32
def HE:List Stmt:=(bE.drop 39).take 13
def Jo:List Stmt:=(bE.drop 52).take 22
end
theorem Ad:∀ w:World,(λos=>topGo treeTable pw w 11 ann 12 ⟨boot_heap w.params,⟨[]⟩,boot_drawn,boot_toks,os⟩ (topStub pw))=λos=>some (F LA 187 w os,⟨denote treeTable cE,cE,⟨0,0,0,0⟩,B⟩):=λw=>by
 rw[PySem.W.Fast.te15667345088766844465,PySem.W.Fast.te14364793385576792824,PySem.W.Fast.te11892475500146522536]
 kernel_rfl
theorem Nk:∀ w:World,(λos=>segRun treeTable pw w 11 ann 1 1 (F LA 187 w os) (blockOf bE env cE ⟨0,0,0,0⟩ B))=λos=>some (Flow.next,(S LA 15 187 w os).abs,cE,⟨0,0,0,0⟩):=λw=>by
 rw[PySem.W.Fast.te14374325043358763698,PySem.W.Fast.te14364793385576792824]
 kernel_rfl
theorem NM:∀ w:World,(λos=>segRunT treeTable pw w 11 ann 1 1326 (S LA 15 187 w os) (piecesOf Ik env cE ⟨0,0,0,0⟩ B))=λos=>some (Flow.next,S L0 139 340 w os,cE,⟨30,0,33,16⟩):=λw=>by
 rw[PySem.W.Fast.te10110043849684766642,PySem.W.Fast.te14364793385576792824]
 kernel_rfl
theorem N7:∀ w:World,(λos=>segRunT treeTable pw w 11 ann 1 1499 (S L0 139 340 w os) (piecesOf JL env cE ⟨30,0,33,16⟩ B))=λos=>some (Flow.next,S L1 351 621 w os,cE,⟨154,0,159,44⟩):=λw=>by
 rw[PySem.W.Fast.te10110043849684766642,PySem.W.Fast.te14364793385576792824]
 kernel_rfl
theorem Bk:∀ w:World,(λos=>segRunT treeTable pw w 11 ann 1 1229 (S L1 351 621 w os) (piecesOf HE env cE ⟨154,0,159,44⟩ B))=λos=>some (Flow.next,S L2 518 847 w os,cE,⟨230,0,234,16⟩):=λw=>by
 rw[PySem.W.Fast.te10110043849684766642,PySem.W.Fast.te14364793385576792824]
 kernel_rfl
theorem N1:∀ w:World,(λos=>segRunT treeTable pw w 11 ann 1 1095 (S L2 518 847 w os) (piecesOf Jo env cE ⟨230,0,234,16⟩ B))=λos=>some (Flow.next,S L3 715 1129 w os,cE,⟨423,0,447,15⟩):=λw=>by
 rw[PySem.W.Fast.te10110043849684766642,PySem.W.Fast.te14364793385576792824]
 kernel_rfl
theorem G3:∀ w:World,(λos=>topRun treeTable pw w 11 ann 2 (S L3 715 1129 w os).abs ⟨doneF .next,cE,⟨423,0,447,15⟩,B⟩)=λos=>some (F LF 1129 w os):=λw=>by
 rw[PySem.W.Fast.te14082659384304107361,PySem.W.Fast.te14364793385576792824]
 kernel_rfl
theorem N4:bE=(Ik++(JL++(HE++(Jo++[])))):=by kernel_rfl
theorem CL(w:World)(os:OsState):topRun treeTable pw w 11 ann (1326+(1499+(1229+(1095+2)))) (S LA 15 187 w os).abs (restOf bE env cE ⟨0,0,0,0⟩ B)=some (F LF 1129 w os):=by
 rw[show restOf bE env cE ⟨0,0,0,0⟩ B=restOf (Ik++(JL++(HE++(Jo++[])))) env cE ⟨0,0,0,0⟩ B from congrArg (λb=>restOf b env cE ⟨0,0,0,0⟩ B) N4]
 exact piece_app (segRun_of (congrFun (NM w) os)) (piece_app (segRun_of (congrFun (N7 w) os)) (piece_app (segRun_of (congrFun (Bk w) os)) (piece_app (segRun_of (congrFun (N1 w) os)) (piece_nil (congrFun (G3 w) os)))))
theorem MA(w:World)(os:OsState):topRun treeTable pw w 11 ann (12+(1+(1326+(1499+(1229+(1095+2)))))) ⟨boot_heap w.params,⟨[]⟩,boot_drawn,boot_toks,os⟩ (topStub pw)=some (F LF 1129 w os) :=
 go_top (congrFun (Ad w) os) (piece_block (congrFun (Nk w) os) (CL w os))
end HD
namespace HD
open PySem PySem.W L2
noncomputable section
def vw:Program:=PySem.W.view pw [0,2,3,4,5,6,7,8,10,11,12,13,14,15,17,18,19,20,21,22,23,24,25,26,27,28,29,30,31,32,33,34,35,36,38,39,40,41,42,44,45,46,47,48,49,50,51,52,53,54,56,57,58,59,60,61,62,63,64,65,66,67,68,69,70,71,72,73]
def loose:List Str:=[]
noncomputable def as:List Addr:=[2,3,15,17,18,20,21,22,29,31,32,34,35,36,37,38,39,42,49,51,52,54,55,56,58,59,61,62,63,64,65,68,75,77,78,80,81,82,84,85,87,88,89,90,91,94,101,103,104,106,107,108,110,111,113,114,115,116,117,120,127,129,130,132,133,134,135,136,139,146,148,149,151,152,153,154,155,158,165,167,168,170,171,172,173,174,177,179,180,182,183,184,187,188,189,191,192,194,195,196,198,199,201,202,203,206,207,208,211,212,220,221,224,225,226,228,229,231,232,233,235,236,238,239,240,242,243,245,246,247,249,250,252,253,254,255,256,257,258,261,263,264,266,267,268,270,271,273,274,275,277,278,280,281,282,284,285,287,288,289,292,293,294,296,297,299,300,301,304,305,306,308,309,311,312,313,315,316,318,319,320,322,323,325,326,327,330,331,332,334,335,337,338,339,341,342,344,345,346,349,350,351,354,355,363,365,366,368,369,370,372,373,375,376,377,379,380,382,383,384,385,386,387,388,391,398,400,401,403,404,405,407,408,410,411,412,414,415,417,418,419,421,422,424,425,426,427,428,431,438,440,441,443,444,445,447,448,450,451,452,454,455,457,458,459,460,461,464,467,468,469,471,472,474,475,476,478,479,481,482,483,485,486,488,489,490,492,493,495,496,497,499,500,502,503,504,506,507,509,510,511,513,514,516,517,525,528,529,530,533,534,535,537,538,540,541,542,544,545,547,548,549,551,552,554,555,556,558,559,561,562,563,565,566,568,569,570,573,574,575,578,579,580,581,582,583,584,587,590,591,592,594,595,597,598,599,601,602,604,605,606,608,609,611,612,613,615,616,618,619,620,623,624,625,627,628,630,631,632,634,635,637,638,639,641,642,644,645,646,648,649,651,652,653,656,657,658,660,661,663,664,665,667,668,670,671,672,675,676,677,680,681,682,684,685,687,688,689,691,692,694,695,696,698,699,701,702,703,705,706,708,709,710,713,714]
def K(P:Params):Frag:=as.map λa=>(a,(LF P).getD a (su 0))
def hook:Hook:=kHook K as (λ_=>by kernel_rfl)
abbrev rr:RowW:=(PySem.Challenge.rw_dialvault_k27_whole_one_paper.row).toRowW
def Xt:Shared->Bool:=λs=>xlAt vw [] s&&recOk (RowW.records rr) s
def H1(P:Params):Heap:=⟨⟨LF P⟩,{}⟩
end
theorem Ka:∀ w:World,((boot_heap w.params).isNs mainGlobals&&(Array.mk []:Array GenState).size==0,(boot_heap w.params).objs.size,(boot_heap w.params).nsMap mainGlobals "__annotations__")=(true,11,ann):=λw=>by
 rw[PySem.W.Fast.te8920871248978507458]
 kernel_rfl
theorem NO(w:World):staticsOk (importedModules pw.main.body) (boot_heap w.params) (H1 w.params)=true:=by
 first | (rw[PySem.W.Fast.te4187177175401517315,PySem.W.Fast.te5923862056798008813];kernel_rfl) | (rw[PySem.W.Fast.te4187177175401517315];kernel_rfl) | (rw[PySem.W.Fast.te5923862056798008813];kernel_rfl) | (kernel_rfl)
theorem NY(w:World):namesBound pw (H1 w.params)=true:=by
 first | (rw[PySem.W.Fast.te4187177175401517315,PySem.W.Fast.te5923862056798008813];kernel_rfl) | (rw[PySem.W.Fast.te4187177175401517315];kernel_rfl) | (rw[PySem.W.Fast.te5923862056798008813];kernel_rfl) | (kernel_rfl)
theorem NS(w:World)(os:_):gensDone ⟨H1 w.params,⟨[]⟩,⟨0,0,0,0⟩,1129,os⟩=true:=by
 first | (rw[PySem.W.Fast.te4187177175401517315,PySem.W.Fast.te5923862056798008813];kernel_rfl) | (rw[PySem.W.Fast.te4187177175401517315];kernel_rfl) | (rw[PySem.W.Fast.te5923862056798008813];kernel_rfl) | (kernel_rfl)
theorem NR(w:World):laidKept (boot_heap w.params) (H1 w.params)=true:=by
 first | (rw[PySem.W.Fast.te4187177175401517315,PySem.W.Fast.te5923862056798008813];kernel_rfl) | (rw[PySem.W.Fast.te4187177175401517315];kernel_rfl) | (rw[PySem.W.Fast.te5923862056798008813];kernel_rfl) | (kernel_rfl)
theorem N0(w:World)(os:_):openSeen vw loose (importedModules pw.main.body) Xt true ⟨H1 w.params,⟨[]⟩,⟨0,0,0,0⟩,1129,os⟩=openGood vw loose:=by
 first | (rw[PySem.W.Fast.te4187177175401517315,PySem.W.Fast.te5923862056798008813];kernel_rfl) | (rw[PySem.W.Fast.te4187177175401517315];kernel_rfl) | (rw[PySem.W.Fast.te5923862056798008813];kernel_rfl) | (kernel_rfl)
theorem NX(w:World)(os:_):Hook.obs hook ⟨H1 w.params,⟨[]⟩,⟨0,0,0,0⟩,1129,os⟩=Hook.val hook w:=by
 first | (rw[PySem.W.Fast.te4187177175401517315,PySem.W.Fast.te5923862056798008813];kernel_rfl) | (rw[PySem.W.Fast.te4187177175401517315];kernel_rfl) | (rw[PySem.W.Fast.te5923862056798008813];kernel_rfl) | (kernel_rfl)
theorem Jy:∀ w:World,(λos=>((staticsOk (importedModules pw.main.body) (boot_heap w.params) (H1 w.params)&&namesBound pw (H1 w.params)&&gensDone ⟨H1 w.params,⟨[]⟩,⟨0,0,0,0⟩,1129,os⟩&&laidKept (boot_heap w.params) (H1 w.params)),
  openSeen vw loose (importedModules pw.main.body) Xt true ⟨H1 w.params,⟨[]⟩,⟨0,0,0,0⟩,1129,os⟩,Hook.obs hook ⟨H1 w.params,⟨[]⟩,⟨0,0,0,0⟩,1129,os⟩))=λ_=>(true,openGood vw loose,Hook.val hook w):=λw=>funext λos=>by
 rw[NO,NY,NS,NR,N0,NX];rfl
theorem Km:LeftO pw vw loose Xt (Hook.obs hook) (Hook.val hook) 10416 :=
 LeftO.of_pieces (H₀:=boot_heap) (H₁:=H1) (gs₀:=⟨[]⟩) (gs₁:=⟨[]⟩) (d₀:=boot_drawn) (d₁:=⟨0,0,0,0⟩) (k₀:=boot_toks) (k₁:=1129) (m₀:=11) (ann:=ann) (M:=(12+(1+(1326+(1499+(1229+(1095+2)))))))
  (boot_open (by kernel_rfl) (by kernel_rfl) (λs=>by kernel_rfl)) Ka MA (by kernel_rfl) Jy
end HD
open PySem PySem.W
theorem HD.said:PySem.Challenge.rw_dialvault_k27_whole_one_paper.wellSaid=true:=by
 decide +kernel
namespace xH
open PySem L2 PyProof.Rows
def bg:Addr:=461
def fm:Addr:=65
def ij:Addr:=91
def fK:Addr:=117
def lT:Addr:=155
def bu:Addr:=136
def aB:Addr:=582
def jy:Addr:=174
def az:Addr:=256
def bf:Addr:=428
def hZ:List Addr:=[bu]
def gW:List Addr:=[fm,ij,fK,lT,jy]
def nZ:List Addr:=[]
def ou:List Addr:=[]
def jr:List Addr:=[bg]
def jj:List Addr:=[aB,az,bf]
def rT:List Addr:=[]
def qL:List Addr:=[]
def kb:List Addr:=[bf]
def j3:List Addr:=[bg,aB,az]
def jQ:af->M Out :=
 (aq (retS (Av (tN (λa=>kZ a "int") nR nR (ae 0)) (IV (tN (λa=>kZ a "bool") nR nR (ae 0)))))
 ar)
def fN:List PV->M PV:=aV 1 (ay 1 jQ)
def jK:af->M Out :=
 (aq (iq (wD (iP (cz (tN (λa=>["list", "tuple"].any λt=>kZ a t) nR nR (ae 0)))) (cz (aj nY (ai dE (aa (ae 0) ao)) (ae 1)))) (aq (retS (λ_=>M.ok (.bl false)))
 ar) ar)
 (aq (retS (ai sy (aa (dy (da (itemsOf (ae 0)) (cj 0) none (ai fN (aa (ae 0) ao)) 1 [])) ao)))
 ar))
def gz:List PV->M PV:=aV 2 (ay 2 jK)
def lx:af->M Out :=
 (aq (aY 2 (jN (aa (ae 0) (aa (λ_=>M.ok (.int 1)) (aa (λ_=>M.ok (.int 0)) ao)))))
 (aq (aY 3 (jN (aa (ae 1) (aa (λ_=>M.ok (.int 0)) (aa (λ_=>M.ok (.int 1)) ao)))))
 (aq (mJ (cz (aj nY (aj aQ (ae 3) (λ_=>M.ok (.int 0))) (λ_=>M.ok (.int 0)))) (aq (aY 4 (aj bq (aj aQ (ae 2) (λ_=>M.ok (.int 0))) (aj aQ (ae 3) (λ_=>M.ok (.int 0)))))
 (aq (aY 5 (jN (aa (aj jh (aj aQ (ae 2) (λ_=>M.ok (.int 0))) (aj cv (ae 4) (aj aQ (ae 3) (λ_=>M.ok (.int 0))))) (aa (aj jh (aj aQ (ae 2) (λ_=>M.ok (.int 1))) (aj cv (ae 4) (aj aQ (ae 3) (λ_=>M.ok (.int 1))))) (aa (aj jh (aj aQ (ae 2) (λ_=>M.ok (.int 2))) (aj cv (ae 4) (aj aQ (ae 3) (λ_=>M.ok (.int 2))))) ao)))))
 (aq (aY 2 (ae 3))
 (aq (aY 3 (ae 5))
 ar)))))
 (aq (iq (cz (aj DK (aj aQ (ae 2) (λ_=>M.ok (.int 0))) (λ_=>M.ok (.int 0)))) (aq (retS (jN (aa (jH (aj aQ (ae 2) (λ_=>M.ok (.int 0)))) (aa (jH (aj aQ (ae 2) (λ_=>M.ok (.int 1)))) (aa (jH (aj aQ (ae 2) (λ_=>M.ok (.int 2)))) ao)))))
 ar) ar)
 (aq (retS (ae 2))
 ar)))))
def gq:List PV->M PV:=aV 2 (ay 6 lx)
def eo:af->M Out :=
 (aq (aY 1 (λ_=>M.ok (.int 1)))
 (aq (gG (itemsOf (ae 0)) (cj 2) (aq (aY 1 (aj cv (aj bq (ae 1) (aj aQ (ai gq (aa (ae 1) (aa (ae 2) ao))) (λ_=>M.ok (.int 0)))) (ae 2)))
 ar))
 (aq (retS (ae 1))
 ar)))
def dj:List PV->M PV:=aV 1 (ay 3 eo)
def jU:af->M Out :=
 (aq (retS (ai cG (aa (dy (da (kI qi (aa (ae 0) ao)) (cj 0) none (AJ (cz (aj l7 (ae 0) (ae 1))) (λ_=>M.ok (.int 1)) (λ_=>M.ok (.int 0))) 1 [1])) ao)))
 ar)
def ki:List PV->M PV:=aV 2 (ay 2 jU)
def jR:af->M Out :=
 (aq (retS (aj cw (ai Bf (aa (dy (da (kI zip2 (aa (ae 0) (aa (ae 1) ao))) (bx 0 1) none (aj cv (ae 0) (ae 1)) 2 [])) ao)) (ae 2)))
 ar)
def j4:List PV->M PV:=aV 3 (ay 3 jR)
def eY:af->M Out :=
 (aq (retS (Av (ai fN (aa (ae 0) ao)) (kc D_ D_ (ae 1) (ae 0) (ae 2))))
 ar)
def dG:List PV->M PV:=aV 3 (ay 3 eY)
def fu:af->M Out :=
 (aq (iq (cz (aj JW (ai dE (aa (ae 0) ao)) (λ_=>M.ok (.int 6)))) (aq (kU jy (aa (λ_=>M.ok (.str "a vault has at most six dials")) ao))
 ar) ar)
 (aq (iq (cz (aj l7 (ai dE (aa (ae 0) ao)) (λ_=>M.ok (.int 0)))) (aq (jX fm "dial" (aa (λ_=>M.ok (.int 0)) ao))
 ar) ar)
 (aq (gG (kI Ed (aa (ae 0) ao)) (bx 1 2) (aq (iq (iP (cz (ai dG (aa (ae 2) (aa (λ_=>M.ok (.int 2)) (aa (λ_=>M.ok (.int 360)) ao)))))) (aq (jX fm "dial" (aa (ae 1) ao))
 ar) ar)
 ar))
 ar)))
def dR:List PV->M PV:=aV 1 (ay 3 fu)
def f7:af->M Out :=
 (aq (iq (cz (aj JW (ai dE (aa (ae 0) ao)) (λ_=>M.ok (.int 8)))) (aq (kU jy (aa (λ_=>M.ok (.str "a vault has at most eight levers")) ao))
 ar) ar)
 (aq (gG (kI Ed (aa (ae 0) ao)) (bx 2 3) (aq (iq (iP (cz (ai gz (aa (ae 3) (aa (ae 1) ao))))) (aq (jX ij "lever" (aa (ae 2) ao))
 ar) ar)
 ar))
 ar))
def gg:List PV->M PV:=aV 2 (ay 4 f7)
def g9:af->M Out :=
 (aq (iq (cz (aj yc (ae 1) (λ_=>M.ok .b_))) (aq (retS (aj cv (jN (aa (λ_=>M.ok (.int 1)) ao)) (ai dE (aa (ae 0) ao))))
 ar) ar)
 (aq (gG (kI qi (aa (ai (GS λi j=>if j>i then j else i) (aa (ai dE (aa (ae 0) ao)) (aa (ai dE (aa (ae 1) ao)) ao))) ao)) (cj 2) (aq (iq (wD (cz (aj JS (ae 2) (ai dE (aa (ae 0) ao)))) (cz (aj JS (ae 2) (ai dE (aa (ae 1) ao))))) (aq (jX fK "lever" (aa (ae 2) ao))
 ar) ar)
 (aq (iq (iP (cz (ai dG (aa (aj aQ (ae 1) (ae 2)) (aa (λ_=>M.ok (.int 1)) (aa (λ_=>M.ok (.int 1000)) ao)))))) (aq (jX fK "lever" (aa (ae 2) ao))
 ar) ar)
 ar)))
 (aq (retS (ai cG (aa (ae 1) ao)))
 ar)))
def gP:List PV->M PV:=aV 2 (ay 3 g9)
def lR:af->M Out :=
 (aq (retS (ai cG (aa (dy (da (kI zip2 (aa (ae 0) (aa (ae 1) ao))) (bx 0 1) none (aj cw (ae 0) (ae 1)) 2 [])) ao)))
 ar)
def i5:List PV->M PV:=aV 2 (ay 2 lR)
def mZ:af->M Out :=
 (aq (retS (ai cG (aa (dy (da (kI zip2 (aa (ae 0) (aa (ae 2) ao))) (bx 0 1) none (aj eR (aj cv (ae 2) (ae 0)) (aj cv (ae 3) (ae 1))) 2 [1,3])) ao)))
 ar)
def lF:List PV->M PV:=aV 4 (ay 4 mZ)
def fz:af->M Out :=
 (aq (aY 5 (ai lF (aa (aj aQ (ae 1) (λ_=>M.ok (.int 0))) (aa (ae 2) (aa (aj aQ (ae 3) (λ_=>M.ok (.int 0))) (aa (ae 4) ao))))))
 (aq (retS (jN (aa (ai i5 (aa (ae 5) (aa (ae 0) ao))) (aa (ai lF (aa (aj aQ (ae 1) (λ_=>M.ok (.int 1))) (aa (ae 2) (aa (aj aQ (ae 3) (λ_=>M.ok (.int 1))) (aa (ae 4) ao))))) ao))))
 ar))
def dX:List PV->M PV:=aV 5 (ay 6 fz)
def eU:af->M Out :=
 (aq (aY 3 (aj aQ (aj aQ (aj aQ (ae 1) (ae 2)) (λ_=>M.ok (.int 0))) (ae 2)))
 (aq (retS (AJ (cz (aj l7 (ae 3) (λ_=>M.ok (.int 0)))) (aj aQ (ae 0) (ae 2)) (ae 3)))
 ar))
def dJ:List PV->M PV:=aV 3 (ay 4 eU)
def jT:af->M Out :=
 (aq (pF 3 (ko ao))
 (aq (gG (kI Ed (aa (ae 1) ao)) (bx 4 5) (aq (aY 6 (ai dJ (aa (ae 0) (aa (ae 1) (aa (ae 4) ao)))))
 (aq (aY 7 (aj aQ (aj aQ (ae 2) (λ_=>M.ok (.int 0))) (ae 4)))
 (aq (aY 8 (ai gq (aa (ae 6) (aa (ae 7) ao))))
 (aq (jG 3 (ai dX (aa (ae 0) (aa (ae 5) (aa (aj aQ (ae 8) (λ_=>M.ok (.int 1))) (aa (ae 2) (aa (aj aQ (ae 8) (λ_=>M.ok (.int 2))) ao)))))))
 (aq (aY 2 (ai dX (aa (ae 0) (aa (ae 2) (aa (aj bq (ae 6) (aj aQ (ae 8) (λ_=>M.ok (.int 0)))) (aa (ae 5) (aa (jH (aj bq (ae 7) (aj aQ (ae 8) (λ_=>M.ok (.int 0))))) ao)))))))
 ar))))))
 (aq (pW [3] (retS (jN (aa (ae 3) (aa (aj aQ (ae 2) (λ_=>M.ok (.int 1))) ao)))))
 ar)))
def kf:List PV->M PV:=aV 3 (ay 9 jT)
def jL:af->M Out :=
 (aq (gG (kI zX (aa (ae 3) (aa (ai dE (aa (ae 0) ao)) ao))) (cj 4) (aq (aY 5 (aj bq (aj aQ (aj aQ (ae 2) (λ_=>M.ok (.int 0))) (ae 4)) (ai dJ (aa (ae 0) (aa (ae 1) (aa (ae 4) ao))))))
 (aq (aY 2 (ai dX (aa (ae 0) (aa (ae 2) (aa (λ_=>M.ok (.int 1)) (aa (aj aQ (ae 1) (ae 4)) (aa (jH (ae 5)) ao)))))))
 ar)))
 (aq (retS (ae 2))
 ar))
def fJ:List PV->M PV:=aV 4 (ay 6 jL)
def iu:af->M Out :=
 (aq (gG (kI A3 (aa (aj jh (ai dE (aa (ae 1) ao)) (λ_=>M.ok (.int 1))) (aa (jH (λ_=>M.ok (.int 1))) (aa (jH (λ_=>M.ok (.int 1))) ao)))) (cj 2) (aq (aY 3 (aj aQ (ae 1) (ae 2)))
 (aq (aY 0 (ai lF (aa (ae 0) (aa (λ_=>M.ok (.int 1)) (aa (ae 3) (aa (jH (aj bq (aj aQ (ae 0) (ae 2)) (aj aQ (ae 3) (ae 2)))) ao))))))
 ar)))
 (aq (retS (ae 0))
 ar))
def iB:List PV->M PV:=aV 2 (ay 4 iu)
def fF:af->M Out :=
 (aq (retS (Dy (dy (da (itemsOf (ae 0)) (cj 0) none (aj nY (ae 0) (λ_=>M.ok (.int 0))) 1 [])) (λ_=>M.ok (.bl true))))
 ar)
def ff:List PV->M PV:=aV 1 (ay 1 fF)
def gA:af->M Out :=
 (aq (iq (cz (aj DK (ae 1) (ai dE (aa (ae 0) ao)))) (aq (retS (aj aQ (ae 0) (ae 1)))
 ar) ar)
 (aq (retS (λ_=>M.ok (.int 0)))
 ar))
def cA:List PV->M PV:=aV 2 (ay 2 gA)
def cH:af->M Out :=
 (aq (pF 2 (ko ao))
 (aq (aY 3 (aj eR (aj cw (ae 0) (λ_=>M.ok (.int 2147483629))) (λ_=>M.ok (.int 17))))
 (aq (gG (kI qi (aa (ae 1) ao)) (cj 4) (aq (aY 3 (aj cw (aj eR (aj eR (aj cv (ae 3) (λ_=>M.ok (.int 48271))) (aj cv (λ_=>M.ok (.int 7919)) (ae 4))) (λ_=>M.ok (.int 1))) (λ_=>M.ok (.int 2147483647))))
 (aq (jG 2 (aj bq (ae 3) (λ_=>M.ok (.int 5))))
 ar)))
 (aq (pW [2] (retS (ae 2)))
 ar))))
def cF:List PV->M PV:=aV 2 (ay 5 cH)
def cK:af->M Out :=
 (aq (pF 2 (ko ao))
 (aq (aY 3 (ae 0))
 (aq (gG (itemsOf (ae 1)) (cj 4) (aq (jG 2 (aj cw (ae 3) (ae 4)))
 (aq (aY 3 (aj bq (ae 3) (ae 4)))
 ar)))
 (aq (pW [2] (retS (ae 2)))
 ar))))
def cI:List PV->M PV:=aV 2 (ay 5 cK)
def gZ:af->M Out :=
 (aq (aY 1 (aj eR (λ_=>M.ok (.int 1)) (aj cw (aj bq (ae 0) (λ_=>M.ok (.int 2))) (λ_=>M.ok (.int 6)))))
 (aq (iq (cz (aj l7 (aj cw (ae 0) (λ_=>M.ok (.int 2))) (λ_=>M.ok (.int 1)))) (aq (retS (dy (da (itemsOf (ai cI (aa (aj bq (ae 0) (λ_=>M.ok (.int 12))) (aa (aj cv (sk (aa (λ_=>M.ok (.int 359)) ao)) (ae 1)) ao)))) (cj 0) none (aj eR (λ_=>M.ok (.int 2)) (ae 0)) 1 [])))
 ar) ar)
 (aq (pF 2 (ko ao))
 (aq (gG (itemsOf (ai cF (aa (aj bq (ae 0) (λ_=>M.ok (.int 12))) (aa (ae 1) ao)))) (cj 3) (aq (iq (cz (aj l7 (aj cw (aj bq (ae 0) (λ_=>M.ok (.int 12))) (λ_=>M.ok (.int 2))) (λ_=>M.ok (.int 0)))) (aq (jG 2 (aj aQ (λ_=>M.ok (.lst (([2,3,4,6,8,9,12,16,24,27,32,36,64,72,81,128,243,256,360]:List Int).map PV.int))) (aj cw (ae 3) (λ_=>M.ok (.int 19)))))
 ar) (aq (jG 2 (aj cv (λ_=>M.ok (.int 12)) (aj eR (λ_=>M.ok (.int 1)) (aj cw (ae 3) (λ_=>M.ok (.int 30))))))
 ar))
 ar))
 (aq (pW [2] (retS (ae 2)))
 ar)))))
def gR:List PV->M PV:=aV 1 (ay 4 gZ)
def fE:af->M Out :=
 (aq (retS (aj jh (aj cw (aj cv (ae 0) (λ_=>M.ok (.int 618033988749894848204586834365))) (aj jh (aj cv (λ_=>M.ok (.int 2)) (aj wI (λ_=>M.ok (.int 10)) (λ_=>M.ok (.int 30)))) (λ_=>M.ok (.int 1)))) (aj jh (aj wI (λ_=>M.ok (.int 10)) (λ_=>M.ok (.int 30))) (λ_=>M.ok (.int 1)))))
 ar)
def e8:List PV->M PV:=aV 1 (ay 1 fE)
def hX:af->M Out :=
 (aq (pF 2 (ko ao))
 (aq (gG (kI zip2 (aa (ai cF (aa (ae 0) (aa (ai dE (aa (ae 1) ao)) ao))) (aa (ae 1) ao))) (bx 3 4) (aq (iq (cz (aj l7 (aj cw (ae 3) (λ_=>M.ok (.int 4))) (λ_=>M.ok (.int 0)))) (aq (jG 2 (ai e8 (aa (aj bq (ae 3) (λ_=>M.ok (.int 4))) ao)))
 ar) (aq (iq (cz (aj l7 (aj cw (ae 3) (λ_=>M.ok (.int 4))) (λ_=>M.ok (.int 1)))) (aq (jG 2 (λ_=>M.ok (.int 0)))
 ar) (aq (aY 5 (aj aQ (λ_=>M.ok (.lst (([1,1,2,3,4,6,12]:List Int).map PV.int))) (aj cw (aj bq (ae 3) (λ_=>M.ok (.int 4))) (λ_=>M.ok (.int 7)))))
 (aq (jG 2 (aj cw (aj cv (aj cw (aj bq (ae 3) (λ_=>M.ok (.int 28))) (ae 4)) (ae 5)) (ae 4)))
 ar)))
 ar))
 ar))
 (aq (pW [2] (retS (ae 2)))
 ar)))
def g8:List PV->M PV:=aV 2 (ay 6 hX)
def fZ:af->M Out :=
 (aq (pF 2 (ko ao))
 (aq (gG (kI qi (aa (aj cw (ai cA (aa (ae 0) (aa (λ_=>M.ok (.int 1)) ao))) (λ_=>M.ok (.int 9))) ao)) (cj 3) (aq (aY 4 (ai cA (aa (ae 0) (aa (aj eR (λ_=>M.ok (.int 2)) (ae 3)) ao))))
 (aq (iq (cz (aj l7 (aj cw (aj bq (ai cA (aa (ae 0) (aa (λ_=>M.ok (.int 1)) ao))) (λ_=>M.ok (.int 9))) (λ_=>M.ok (.int 2))) (λ_=>M.ok (.int 1)))) (aq (jG 2 (ai cI (aa (ae 4) (aa (ae 1) ao))))
 ar) (aq (jG 2 (ai g8 (aa (aj eR (ae 4) (aj cv (λ_=>M.ok (.int 7919)) (ae 3))) (aa (ae 1) ao))))
 ar))
 ar)))
 (aq (pW [2] (retS (ae 2)))
 ar)))
def f_:List PV->M PV:=aV 2 (ay 5 fZ)
def g_:af->M Out :=
 (aq (aY 1 (λ_=>M.ok (.int 1)))
 (aq (gG (itemsOf (ae 0)) (cj 2) (aq (wj 3 4 (aa (ae 1) (aa (ae 2) ao)))
 (aq (mJ (cz (aj nY (ae 4) (λ_=>M.ok (.int 0)))) (aq (wj 3 4 (aa (ae 4) (aa (aj cw (ae 3) (ae 4)) ao)))
 ar))
 (aq (aY 1 (aj cv (aj bq (ae 1) (ae 3)) (ae 2)))
 ar))))
 (aq (retS (ae 1))
 ar)))
def gY:List PV->M PV:=aV 1 (ay 5 g_)
def cy:af->M Out :=
 (aq (retS (ai cG (aa (dy (da (kI yW (aa (ae 1) (aa (ae 2) (aa (ae 0) ao)))) (nK 0 1 2) none (aj cw (aj eR (ae 0) (aj cv (ae 3) (ae 1))) (ae 2)) 3 [3])) ao)))
 ar)
def bo:List PV->M PV:=aV 4 (ay 4 cy)
def dm:af->M Out :=
 (aq (aY 4 (ai cG (aa (ae 2) ao)))
 (aq (gG (kI zip2 (aa (ae 1) (aa (ae 3) ao))) (bx 5 6) (aq (aY 4 (ai bo (aa (ae 0) (aa (ae 4) (aa (ae 5) (aa (ae 6) ao))))))
 ar))
 (aq (retS (ae 4))
 ar)))
def bK:List PV->M PV:=aV 4 (ay 7 dm)
def fy:af->M Out :=
 (aq (aY 3 (ai gY (aa (ae 0) ao)))
 (aq (aY 4 (λ_=>M.ok (.int 0)))
 (aq (gG (kI yW (aa (ae 1) (aa (ae 2) (aa (ae 0) ao)))) (nK 5 6 7) (aq (aY 4 (aj eR (ae 4) (aj cv (aj cv (ae 5) (ae 6)) (aj bq (ae 3) (ae 7)))))
 ar))
 (aq (retS (aj cw (ae 4) (ae 3)))
 ar))))
def dO:List PV->M PV:=aV 3 (ay 8 fy)
def fx:af->M Out :=
 (aq (iq (cz (aj l7 (aj cw (ae 0) (λ_=>M.ok (.int 2))) (λ_=>M.ok (.int 1)))) (aq (retS (ai cG (aa (ai cI (aa (aj bq (ae 0) (λ_=>M.ok (.int 2))) (aa (ae 1) ao))) ao)))
 ar) ar)
 (aq (retS (ai cG (aa (dy (da (kI zip2 (aa (ai cF (aa (aj bq (ae 0) (λ_=>M.ok (.int 2))) (aa (ai dE (aa (ae 1) ao)) ao))) (aa (ae 1) ao))) (bx 0 1) none (aj cw (ae 0) (ae 1)) 2 [])) ao)))
 ar))
def cS:List PV->M PV:=aV 2 (ay 2 fx)
def gX:af->M Out :=
 (aq (iq (cz (aj l7 (aj cw (ae 0) (λ_=>M.ok (.int 2))) (λ_=>M.ok (.int 1)))) (aq (retS (ai cG (aa (dy (da (itemsOf (ai cI (aa (aj bq (ae 0) (λ_=>M.ok (.int 2))) (aa (aj cv (sk (aa (aj jh (aj cv (λ_=>M.ok (.int 2)) (aj wI (λ_=>M.ok (.int 10)) (λ_=>M.ok (.int 30)))) (λ_=>M.ok (.int 1))) ao)) (ae 1)) ao)))) (cj 0) none (aj jh (ae 0) (aj jh (aj wI (λ_=>M.ok (.int 10)) (λ_=>M.ok (.int 30))) (λ_=>M.ok (.int 1)))) 1 [])) ao)))
 ar) ar)
 (aq (pF 2 (ko ao))
 (aq (gG (itemsOf (ai cF (aa (aj bq (ae 0) (λ_=>M.ok (.int 2))) (aa (ae 1) ao)))) (cj 3) (aq (jG 2 (aj aQ (sk (aa (aj jh (aj cw (aj bq (ae 3) (λ_=>M.ok (.int 2))) (λ_=>M.ok (.int 9))) (λ_=>M.ok (.int 4))) (aa (ai e8 (aa (aj bq (ae 3) (λ_=>M.ok (.int 2))) ao)) ao))) (aj cw (ae 3) (λ_=>M.ok (.int 2)))))
 ar))
 (aq (pW [2] (retS (ai cG (aa (ae 2) ao))))
 ar))))
def fw:List PV->M PV:=aV 2 (ay 4 gX)
def h9:af->M Out :=
 (aq (gL (ai dR (aa (ae 1) ao)))
 (aq (gL (ai gg (aa (ae 2) (aa (ai dE (aa (ae 1) ao)) ao))))
 (aq (iM 0 az "dial_sizes" (ai cG (aa (ae 1) ao)))
 (aq (iM 0 az "lever_settings" (ai cG (aa (dy (da (itemsOf (ae 2)) (cj 0) none (ai i5 (aa (ae 0) (aa (ae 1) ao))) 1 [1])) ao)))
 (aq (iM 0 az "lever_prices" (ai gP (aa (ae 2) (aa (ae 3) ao))))
 (aq (iM 0 az "least_round" (ai dj (aa (ae 1) ao)))
 ar))))))
def eO:Addr->List PV->M (List (Str×PV)):=mW 4 (rY 4 h9 az)
def a_:af->M Out :=
 (aq (retS (cT (λc=>c==az) "dial_sizes" (ae 0)))
 ar)
def aT:List PV->M PV:=aV 1 (ay 1 a_)
def bh:af->M Out :=
 (aq (retS (cT (λc=>c==az) "lever_settings" (ae 0)))
 ar)
def aZ:List PV->M PV:=aV 1 (ay 1 bh)
def kQ:af->M Out :=
 (aq (retS (cT (λc=>c==az) "lever_prices" (ae 0)))
 ar)
def qv:List PV->M PV:=aV 1 (ay 1 kQ)
def dP:af->M Out :=
 (aq (retS (cT (λc=>c==az) "least_round" (ae 0)))
 ar)
def cR:List PV->M PV:=aV 1 (ay 1 dP)
def dN:af->M Out :=
 (aq (retS (λ_=>M.ok (.bl false)))
 ar)
def dQ:List PV->M PV:=aV 1 (ay 1 dN)
def mK:af->M Out :=
 (aq (iM 0 bf "pulls" (ae 1))
 ar)
def mq:Addr->List PV->M (List (Str×PV)):=mW 2 (rY 2 mK bf)
def fD:af->M Out :=
 (aq (retS (λ_=>M.ok (.bl true)))
 ar)
def e_:List PV->M PV:=aV 1 (ay 1 fD)
def eT:af->M Out :=
 (aq (retS (jN (aa (λ_=>M.ok (.str "pulls")) (aa (cT (λc=>c==bf) "pulls" (ae 0)) ao))))
 ar)
def cU:List PV->M PV:=aV 1 (ay 1 eT)
def mO:af->M Out :=
 (aq (iM 0 bg "weights" (ae 1))
 ar)
def k8:Addr->List PV->M (List (Str×PV)):=mW 2 (rY 2 mO bg)
def eX:af->M Out :=
 (aq (retS (jN (aa (λ_=>M.ok (.str "weights")) (aa (cT (λc=>c==bg) "weights" (ae 0)) ao))))
 ar)
def cV:List PV->M PV:=aV 1 (ay 1 eX)
def f9:af->M Out :=
 (aq (aY 1 (bD az "sizes" aT (cT (λc=>c==aB) "vault" (ae 0)) ao))
 (aq (retS (ai cG (aa (dy (da (kI qi (aa (ai dE (aa (ae 1) ao)) ao)) (cj 0) none (ai dJ (aa (ae 2) (aa (cT (λc=>c==aB) "made_rows" (ae 1)) (aa (ae 0) ao)))) 1 [0,1])) ao)))
 ar))
def gi:List PV->M PV:=aV 1 (ay 2 f9)
def kW:af->M Out :=
 (aq (retS (aj cv (jN (aa (λ_=>M.ok (.int 0)) ao)) (ai dE (aa (bD az "sizes" aT (ae 0) ao) ao))))
 ar)
def jF:List PV->M PV:=aV 1 (ay 1 kW)
def cX:af->M Out :=
 (aq (aY 2 (bD az "sizes" aT (ae 0) ao))
 (aq (iq (wD (iP (cz (tN (λa=>kZ a "tuple") nR nR (ae 1)))) (iP (cz (ai gz (aa (ae 1) (aa (ai dE (aa (ae 2) ao)) ao)))))) (aq (retS (λ_=>M.ok (.bl false)))
 ar) ar)
 (aq (retS (ai sy (aa (dy (da (kI zip2 (aa (ae 1) (aa (ae 2) ao))) (bx 0 1) none (kc D_ DK (λ_=>M.ok (.int 0)) (ae 0) (ae 1)) 2 [])) ao)))
 ar)))
def aW:List PV->M PV:=aV 2 (ay 3 cX)
def iK:af->M Out :=
 (aq (retS (Av (tN (λa=>kZ a "tuple") nR nR (ae 1)) (ai gz (aa (ae 1) (aa (ai dE (aa (bD az "levers" aZ (ae 0) ao) ao)) ao)))))
 ar)
def iz:List PV->M PV:=aV 2 (ay 2 iK)
def bB:af->M Out :=
 (aq (iq (iP (cz (ai aW (aa (ae 0) (aa (ae 1) ao))))) (aq (kU bu (aa (λ_=>M.ok (.str "this is no setting of the vault")) ao))
 ar) ar)
 ar)
def aR:List PV->M PV:=aV 2 (ay 2 bB)
def ib:af->M Out :=
 (aq (iq (iP (cz (ai iz (aa (ae 0) (aa (ae 1) ao))))) (aq (kU lT (aa (λ_=>M.ok (.str "these are no pulls of the vault")) ao))
 ar) ar)
 ar)
def hU:List PV->M PV:=aV 2 (ay 2 ib)
def nQ:af->M Out :=
 (aq (aY 4 (dy (da (kI zip2 (aa (ae 1) (aa (ae 2) ao))) (bx 0 1) none (aj eR (ae 0) (aj cv (ae 2) (ae 1))) 2 [3])))
 (aq (retS (ai i5 (aa (ae 4) (aa (bD az "sizes" aT (ae 0) ao) ao))))
 ar))
def mT:List PV->M PV:=aV 4 (ay 5 nQ)
def nL:af->M Out :=
 (aq (gL (ai aR (aa (ae 0) (aa (ae 1) ao))))
 (aq (gL (ai hU (aa (ae 0) (aa (ae 2) ao))))
 (aq (aY 3 (ae 1))
 (aq (gG (kI zip2 (aa (bD az "levers" aZ (ae 0) ao) (aa (ae 2) ao))) (bx 4 5) (aq (aY 3 (ai mT (aa (ae 0) (aa (ae 3) (aa (ae 4) (aa (ae 5) ao))))))
 ar))
 (aq (retS (ae 3))
 ar)))))
def kJ:List PV->M PV:=aV 3 (ay 6 nL)
def fX:af->M Out :=
 (aq (gL (ai aR (aa (ae 0) (aa (ae 1) ao))))
 (aq (gL (ai aR (aa (ae 0) (aa (ae 2) ao))))
 (aq (retS (ai mT (aa (ae 0) (aa (ae 2) (aa (ae 1) (aa (jH (λ_=>M.ok (.int 1))) ao))))))
 ar)))
def dS:List PV->M PV:=aV 3 (ay 3 fX)
def lS:af->M Out :=
 (aq (gL (ai aR (aa (ae 0) (aa (ae 1) ao))))
 (aq (gL (ai aR (aa (ae 0) (aa (ae 2) ao))))
 (aq (aY 3 (bD az "around" cR (ae 0) ao))
 (aq (aY 4 (dy (da (kI zip2 (aa (ae 1) (aa (bD az "sizes" aT (ae 0) ao) ao))) (bx 0 1) none (aj cv (ae 0) (aj bq (ae 2) (ae 1))) 2 [3])))
 (aq (retS (ai j4 (aa (ae 4) (aa (ae 2) (aa (ae 3) ao)))))
 ar)))))
def ke:List PV->M PV:=aV 3 (ay 5 lS)
def dD:af->M Out :=
 (aq (retS (ai sy (aa (dy (da (itemsOf (bD az "levers" aZ (ae 0) ao)) (cj 0) none (aj l7 (ai ke (aa (ae 1) (aa (ae 2) (aa (ae 0) ao)))) (λ_=>M.ok (.int 0))) 1 [0,1])) ao)))
 ar)
def dz:List PV->M PV:=aV 2 (ay 2 dD)
def iw:af->M Out :=
 (aq (retS (jN (aa (ae 1) (aa (aj cv (jN (aa (λ_=>M.ok (.int 0)) ao)) (ai dE (aa (bD az "levers" aZ (ae 0) ao) ao))) ao))))
 ar)
def fV:List PV->M PV:=aV 2 (ay 2 iw)
def f6:af->M Out :=
 (aq (aY 2 (bD az "levers" aZ (ae 0) ao))
 (aq (retS (jN (aa (aj aQ (ae 2) (ae 1)) (aa (ai ki (aa (ai dE (aa (ae 2) ao)) (aa (ae 1) ao))) ao))))
 ar))
def gm:List PV->M PV:=aV 2 (ay 3 f6)
def eG:af->M Out :=
 (aq (aY 5 (cT (λc=>c==bf) "pulls" (ae 0)))
 (aq (iq (wD (iP (cz (tN (λa=>kZ a "tuple") nR nR (ae 5)))) (wD (cz (aj nY (ai dE (aa (ae 5) ao)) (ai dE (aa (ae 2) ao)))) (cz (tN (λ_=>false) (mi jr jj) (mi nZ ou) (ae 0))))) (aq (retS (λ_=>M.ok (.bl false)))
 ar) ar)
 (aq (gG (itemsOf (ae 5)) (cj 6) (aq (iq (wD (iP (cz (tN (λa=>kZ a "int") nR nR (ae 6)))) (wD (cz (tN (λa=>kZ a "bool") nR nR (ae 6))) (cz (aj DK (ae 6) (λ_=>M.ok (.int 0)))))) (aq (retS (λ_=>M.ok (.bl false)))
 ar) ar)
 ar))
 (aq (iq (wD (cz (aj dW (fg [(bf,e_),(bg,dQ)] "brings" (ae 0) ao) (λ_=>M.ok (.bl true)))) (cz (aj nY (fg [(bf,cU),(bg,cV)] "words" (ae 0) ao) (jN (aa (λ_=>M.ok (.str "pulls")) (aa (ae 5) ao)))))) (aq (retS (λ_=>M.ok (.bl false)))
 ar) ar)
 (aq (retS (aj l7 (ai bK (aa (ae 1) (aa (ae 2) (aa (ae 3) (aa (ae 5) ao))))) (ae 4)))
 ar)))))
def eE:List PV->M PV:=aV 5 (ay 7 eG)
def eD:af->M Out :=
 (aq (aY 5 (cT (λc=>c==bg) "weights" (ae 0)))
 (aq (iq (wD (iP (cz (tN (λa=>kZ a "tuple") nR nR (ae 5)))) (cz (aj nY (ai dE (aa (ae 5) ao)) (ai dE (aa (ae 1) ao))))) (aq (retS (λ_=>M.ok (.bl false)))
 ar) ar)
 (aq (gG (kI zip2 (aa (ae 5) (aa (ae 1) ao))) (bx 6 7) (aq (iq (wD (iP (cz (tN (λa=>kZ a "int") nR nR (ae 6)))) (wD (cz (tN (λa=>kZ a "bool") nR nR (ae 6))) (iP (cz (kc D_ DK (λ_=>M.ok (.int 0)) (ae 6) (ae 7)))))) (aq (retS (λ_=>M.ok (.bl false)))
 ar) ar)
 ar))
 (aq (gG (itemsOf (ae 2)) (cj 8) (aq (iq (cz (aj nY (ai dO (aa (ae 1) (aa (ae 5) (aa (ae 8) ao)))) (λ_=>M.ok (.int 0)))) (aq (retS (λ_=>M.ok (.bl false)))
 ar) ar)
 ar))
 (aq (iq (wD (cz (aj dW (fg [(bf,e_),(bg,dQ)] "brings" (ae 0) ao) (λ_=>M.ok (.bl false)))) (cz (aj nY (fg [(bf,cU),(bg,cV)] "words" (ae 0) ao) (jN (aa (λ_=>M.ok (.str "weights")) (aa (ae 5) ao)))))) (aq (retS (λ_=>M.ok (.bl false)))
 ar) ar)
 (aq (retS (aj nY (ai dO (aa (ae 1) (aa (ae 5) (aa (ai bo (aa (ae 1) (aa (ae 4) (aa (ae 3) (aa (jH (λ_=>M.ok (.int 1))) ao))))) ao)))) (λ_=>M.ok (.int 0))))
 ar))))))
def eK:List PV->M PV:=aV 5 (ay 9 eD)
def jb:af->M Out :=
 (aq (gL (ai aR (aa (ae 1) (aa (ae 2) ao))))
 (aq (gL (ai aR (aa (ae 1) (aa (ae 3) ao))))
 (aq (retS (Av (ai iz (aa (ae 1) (aa (cT (λc=>c==bf) "pulls" (ae 0)) ao))) (aj l7 (ai kJ (aa (ae 1) (aa (ae 2) (aa (cT (λc=>c==bf) "pulls" (ae 0)) ao)))) (ae 3))))
 ar)))
def i6:List PV->M PV:=aV 4 (ay 4 jb)
def i4:af->M Out :=
 (aq (aY 4 (ai dS (aa (ae 1) (aa (ae 2) (aa (ae 3) ao)))))
 (aq (iq (wD (iP (cz (ai aW (aa (ae 1) (aa (cT (λc=>c==bg) "weights" (ae 0)) ao))))) (iP (cz (ai dz (aa (ae 1) (aa (cT (λc=>c==bg) "weights" (ae 0)) ao)))))) (aq (retS (λ_=>M.ok (.bl false)))
 ar) ar)
 (aq (retS (aj nY (ai ke (aa (ae 1) (aa (cT (λc=>c==bg) "weights" (ae 0)) (aa (ae 4) ao)))) (λ_=>M.ok (.int 0))))
 ar)))
def i9:List PV->M PV:=aV 4 (ay 5 i4)
def j0:af->M Out :=
 (aq (aY 2 (bD az "sizes" aT (ae 1) ao))
 (aq (aY 3 (dy (da (itemsOf (ae 2)) (cj 0) none (ai fV (aa (ae 1) (aa (ai jF (aa (ae 1) ao)) ao))) 1 [1])))
 (aq (pF 4 (ko ao))
 (aq (gG (kI qi (aa (ai dE (aa (bD az "levers" aZ (ae 1) ao) ao)) ao)) (cj 5) (aq (aY 6 (ai kf (aa (ae 2) (aa (ae 3) (aa (ai gm (aa (ae 1) (aa (ae 5) ao))) ao)))))
 (aq (aY 3 (aj aQ (ae 6) (λ_=>M.ok (.int 0))))
 (aq (jG 4 (xv 4 (ai iB (aa (aj aQ (ae 6) (λ_=>M.ok (.int 1))) (aa (ae 4) ao)))))
 ar))))
 (aq (iM 0 aB "vault" (ae 1))
 (aq (iM 0 aB "made_rows" (dy (da (kI Ed (aa (ae 3) ao)) (bx 0 1) none (ai fJ (aa (ae 2) (aa (ae 3) (aa (ae 1) (aa (aj eR (ae 0) (λ_=>M.ok (.int 1))) ao))))) 2 [2,3])))
 (aq (pW [4] (iM 0 aB "idle_rows" (ae 4)))
 ar)))))))
def gb:Addr->List PV->M (List (Str×PV)):=mW 2 (rY 7 j0 aB)
def bM:af->M Out :=
 (aq (gL (ai aR (aa (cT (λc=>c==aB) "vault" (ae 0)) (aa (ae 1) ao))))
 (aq (retS (ai fJ (aa (bD az "sizes" aT (cT (λc=>c==aB) "vault" (ae 0)) ao) (aa (cT (λc=>c==aB) "made_rows" (ae 0)) (aa (ai fV (aa (cT (λc=>c==aB) "vault" (ae 0)) (aa (ae 1) ao))) (aa (λ_=>M.ok (.int 0)) ao))))))
 ar))
def br:List PV->M PV:=aV 2 (ay 2 bM)
def fY:af->M Out :=
 (aq (retS (aj aQ (bD aB "brought_down" br (ae 0) (aa (ae 1) ao)) (λ_=>M.ok (.int 0))))
 ar)
def gk:List PV->M PV:=aV 2 (ay 2 fY)
def bZ:af->M Out :=
 (aq (aY 2 (bD aB "brought_down" br (ae 0) (aa (ae 1) ao)))
 (aq (iq (cz (aj nY (aj aQ (ae 2) (λ_=>M.ok (.int 0))) (ai jF (aa (cT (λc=>c==aB) "vault" (ae 0)) ao)))) (aq (retS (λ_=>M.ok .b_))
 ar) ar)
 (aq (retS (ai iB (aa (ai cG (aa (dy (da (itemsOf (aj aQ (ae 2) (λ_=>M.ok (.int 1)))) (cj 0) none (jH (ae 0)) 1 [])) ao)) (aa (cT (λc=>c==aB) "idle_rows" (ae 0)) ao))))
 ar)))
def bJ:List PV->M PV:=aV 2 (ay 3 bZ)
def cY:af->M Out :=
 (aq (aY 2 (bD az "sizes" aT (cT (λc=>c==aB) "vault" (ae 0)) ao))
 (aq (iq (iP (cz (ai dG (aa (ae 1) (aa (λ_=>M.ok (.int 0)) (aa (aj jh (ai dE (aa (ae 2) ao)) (λ_=>M.ok (.int 1))) ao)))))) (aq (jX fm "dial" (aa (ae 1) ao))
 ar) ar)
 (aq (aY 3 (dy (da (kI zip2 (aa (ae 2) (aa (bD aB "steps" gi (ae 0) ao) ao))) (bx 0 1) none (aj bq (ae 0) (ae 1)) 2 [])))
 (aq (pF 4 (Iu (sk (aa (λ_=>M.ok (.int 0)) ao)) (ai dE (aa (ae 2) ao))))
 (aq (Kl 4 (ae 1) (aj cw (aj aQ (ae 3) (ae 1)) (aj aQ (ae 2) (ae 1))))
 (aq (gG (kI A3 (aa (aj jh (ae 1) (λ_=>M.ok (.int 1))) (aa (jH (λ_=>M.ok (.int 1))) (aa (jH (λ_=>M.ok (.int 1))) ao)))) (cj 5) (aq (aY 6 (xv 4 (ai ke (aa (cT (λc=>c==aB) "vault" (ae 0)) (aa (ai cG (aa (ae 4) ao)) (aa (aj aQ (aj aQ (cT (λc=>c==aB) "made_rows" (ae 0)) (ae 5)) (λ_=>M.ok (.int 0))) ao))))))
 (aq (aY 7 (aj bq (bD az "around" cR (cT (λc=>c==aB) "vault" (ae 0)) ao) (aj aQ (ae 3) (ae 5))))
 (aq (Kl 4 (ae 5) (aj cw (jH (aj bq (ae 6) (ae 7))) (aj aQ (ae 3) (ae 5))))
 ar))))
 (aq (pW [4] (retS (ai cG (aa (ae 4) ao))))
 ar)))))))
def c9:List PV->M PV:=aV 2 (ay 8 cY)
def gU:af->M Out :=
 (aq (aY 3 (ai dS (aa (ae 0) (aa (ae 1) (aa (ae 2) ao)))))
 (aq (aY 4 (ai (eh aB gb []) (aa (ae 0) ao)))
 (aq (aY 5 (bD aB "pulls_to" bJ (ae 4) (aa (ae 3) ao)))
 (aq (iq (cz (aj lA (ae 5) (λ_=>M.ok .b_))) (aq (retS (ai (eh bf mq []) (aa (ae 5) ao)))
 ar) ar)
 (aq (retS (ai (eh bg k8 []) (aa (bD aB "weights_at" c9 (ae 4) (aa (ai ff (aa (bD aB "least" gk (ae 4) (aa (ae 3) ao)) ao)) ao)) ao)))
 ar)))))
def c8:List PV->M PV:=aV 3 (ay 6 gU)
def cO:af->M Out :=
 (aq (wj 4 5 (aa (bD az "sizes" aT (ae 0) ao) (aa (bD az "levers" aZ (ae 0) ao) ao)))
 (aq (aY 6 (ai c8 (aa (ae 0) (aa (ae 2) (aa (ae 3) ao)))))
 (aq (iq (cz (aj dW (fg [(bf,i6),(bg,i9)] "shows" (ae 6) (aa (ae 0) (aa (ae 2) (aa (ae 3) ao)))) (λ_=>M.ok (.bl true)))) (aq (retS (λ_=>M.ok .b_))
 ar) ar)
 (aq (iq (cz (tN (λ_=>false) (mi kb j3) (mi rT qL) (ae 6))) (aq (iq (iP (cz (ai eE (aa (ae 6) (aa (ae 4) (aa (ae 5) (aa (ae 2) (aa (ae 3) ao)))))))) (aq (retS (λ_=>M.ok .b_))
 ar) ar)
 (aq (iq (cz (aj l7 (cT (λc=>c==bf) "pulls" (ae 6)) (bD aB "pulls_to" bJ (ae 1) (aa (ai bo (aa (ae 4) (aa (ae 3) (aa (ae 2) (aa (jH (λ_=>M.ok (.int 1))) ao))))) ao)))) (aq (retS (λ_=>M.ok (.bl true)))
 ar) ar)
 (aq (retS (λ_=>M.ok .b_))
 ar))) ar)
 (aq (iq (EJ (cz (tN (λ_=>false) (mi jr jj) (mi nZ ou) (ae 6))) (cz (ai eK (aa (ae 6) (aa (ae 4) (aa (ae 5) (aa (ae 2) (aa (ae 3) ao)))))))) (aq (retS (λ_=>M.ok (.bl false)))
 ar) ar)
 (aq (retS (λ_=>M.ok .b_))
 ar))))))
def bY:List PV->M PV:=aV 4 (ay 7 cO)
def fj:af->M Out :=
 (aq (Ek (gL (ai c8 (aa (ae 0) (aa (ae 1) (aa (ae 2) ao))))) [(mi hZ gW,none,(aq (retS (λ_=>M.ok (.bl true)))
 ar))])
 (aq (retS (λ_=>M.ok (.bl false)))
 ar))
def dI:List PV->M PV:=aV 3 (ay 3 fj)
def DR:af->M Out :=
 (aq (aY 1 (ai gR (aa (ai cA (aa (ae 0) (aa (λ_=>M.ok (.int 0)) ao))) ao)))
 (aq (aY 2 (ai f_ (aa (ae 0) (aa (ae 1) ao))))
 (aq (aY 3 (ai (eh az eO [.b_]) (aa (ae 1) (aa (ae 2) ao))))
 (aq (aY 4 (ai (eh aB gb []) (aa (ae 3) ao)))
 (aq (gG (kI Ed (aa (aj eR (jv (ae 0) (iE (λ_=>M.ok (.int 10))) (iE (λ_=>M.ok (.int 16)))) (sk (aa (λ_=>M.ok (.int 0)) ao))) ao)) (bx 5 6) (aq (aY 7 (ai cS (aa (aj eR (aj bq (ae 6) (λ_=>M.ok (.int 3))) (aj cv (λ_=>M.ok (.int 48271)) (ae 5))) (aa (ae 1) ao))))
 (aq (aY 8 (ai bK (aa (ae 1) (aa (ae 2) (aa (ae 7) (aa (ai fw (aa (aj eR (aj bq (ae 6) (λ_=>M.ok (.int 5))) (ae 5)) (aa (ai dE (aa (ae 2) ao)) ao))) ao))))))
 (aq (iq (cz (aj l7 (aj cw (ae 6) (λ_=>M.ok (.int 3))) (λ_=>M.ok (.int 1)))) (aq (aY 8 (ai cS (aa (ai cA (aa (ae 0) (aa (aj eR (λ_=>M.ok (.int 40)) (ae 5)) ao))) (aa (ae 1) ao))))
 ar) ar)
 (aq (iq (cz (aj l7 (aj cw (ae 6) (λ_=>M.ok (.int 3))) (λ_=>M.ok (.int 2)))) (aq (aY 8 (ai bo (aa (ae 1) (aa (ae 8) (aa (dy (da (kI qi (aa (ai dE (aa (ae 1) ao)) ao)) (cj 0) none (ai t9 (aa (aj l7 (ae 0) (aj cw (aj bq (ae 2) (λ_=>M.ok (.int 3))) (ai dE (aa (ae 1) ao)))) ao)) 1 [1,6])) (aa (λ_=>M.ok (.int 1)) ao))))))
 ar) ar)
 (aq (aY 9 (ai bY (aa (ae 3) (aa (ae 4) (aa (ae 7) (aa (ae 8) ao))))))
 (aq (iq (wD (cz (aj yc (ae 9) (λ_=>M.ok .b_))) (EJ (cz (aj l7 (aj cw (ae 6) (λ_=>M.ok (.int 3))) (λ_=>M.ok (.int 0)))) (cz (aj dW (ae 9) (λ_=>M.ok (.bl true)))))) (aq (retS (λ_=>M.ok (.bl false)))
 ar) ar)
 (aq (iq (cz (aj nY (ai bY (aa (ae 3) (aa (ae 4) (aa (ae 8) (aa (ae 7) ao))))) (ae 9))) (aq (retS (λ_=>M.ok (.bl false)))
 ar) ar)
 (aq (iq (cz (aj l7 (ae 5) (λ_=>M.ok (.int 0)))) (aq (aY 10 (fg [(bf,cU),(bg,cV)] "words" (ai c8 (aa (ai (eh az eO [.b_]) (aa (ai cG (aa (ae 1) ao)) (aa (ai xy (aa (ae 2) ao)) ao))) (aa (ae 7) (aa (ae 8) ao)))) ao))
 (aq (iq (cz (aj nY (ae 10) (fg [(bf,cU),(bg,cV)] "words" (ai c8 (aa (ae 3) (aa (ae 7) (aa (ae 8) ao)))) ao))) (aq (retS (λ_=>M.ok (.bl false)))
 ar) ar)
 ar)) ar)
 (aq (aY 11 (aj aQ (sk (aa (ai xy (aa (ae 7) ao)) (aa (jv (ae 7) vZ (iE (jH (λ_=>M.ok (.int 1))))) (aa (ai cG (aa (ae 1) ao)) (aa (λ_=>M.ok .b_) (aa (aj eR (ae 7) (jN (aa (λ_=>M.ok (.int 0)) ao))) ao)))))) (aj cw (ae 6) (λ_=>M.ok (.int 5)))))
 (aq (iq (wD (iP (cz (ai dI (aa (ae 3) (aa (ae 7) (aa (ae 11) ao)))))) (iP (cz (ai dI (aa (ae 3) (aa (ae 11) (aa (ae 7) ao))))))) (aq (retS (λ_=>M.ok (.bl false)))
 ar) ar)
 ar)))))))))))
 (aq (retS (λ_=>M.ok (.bl true)))
 ar))))))
def tQ:List PV->M PV:=aV 1 (ay 12 DR)
end xH
namespace xH
open PySem L2 PyProof.Rows
local macro_rules | `(tactic| walk_at "s")=>`(tactic| exact⟨rfl,rfl,rfl,by decide +kernel,rfl,by decide +kernel,by decide +kernel⟩)
local macro_rules | `(tactic| walk_at "l")=>`(tactic| first | exact .inl rfl | exact .inr rfl)
local macro_rules | `(tactic| walk_at "pp")=>`(tactic| all_goals repeat' (first | ((with_reducible show mH _ _ (tS _ (aq _ _)));refine CD ?_ ?_) | ((with_reducible show mH _ _ (tS _ ar));exact Fm) | ((with_reducible show PE _ _ (tE _ (ae _)));exact vr _) | ((with_reducible show PA _ _ (tL _ (aa _ _)));refine zw ?_ ?_ (Gu rfl)) | ((with_reducible show PA _ _ (tL _ ao));exact DW) | ((with_reducible show PE _ _ (tE _ (λ_=>M.ok (.int _))));first | exact Cq | exact nJ (Kh (by rfl) (by assumption)) λ_=>.int _) | ((with_reducible show PE _ _ (tE _ (λ_=>M.ok (.bl _))));exact KD) | ((with_reducible show PE _ _ (tE _ (λ_=>M.ok .b_)));exact IC) | ((with_reducible show PE _ _ (tE _ (λ_=>M.ok (.str _))));exact Il) | ((with_reducible show PE _ _ (tE _ (aj eR _ _)));refine oK Ft Hy ?_ ?_) | ((with_reducible show PE _ _ (tE _ (aj jh _ _)));refine oK Ic HR ?_ ?_) | ((with_reducible show PE _ _ (tE _ (aj cv _ _)));refine oK FC IA ?_ ?_) | ((with_reducible show PE _ _ (tE _ (aj bq _ _)));refine oK BB Dr ?_ ?_) | ((with_reducible show PE _ _ (tE _ (aj cw _ _)));refine oK Fs FN ?_ ?_) | ((with_reducible show PE _ _ (tE _ (aj wI _ _)));refine oK HC FO ?_ ?_) | ((with_reducible show PE _ _ (tE _ (aj aQ _ _)));refine Ia ?_ ?_ ?_) | ((with_reducible show vk _);exact λ_ _=>rfl) | ((with_reducible show PT _ _ (tT _ (cz (aj l7 _ _))));refine gH (DP (bX.units (by assumption))) Gw ?_ ?_ (bV _)) | ((with_reducible show PE _ _ (tE _ (aj l7 _ _)));refine gE (DP (bX.units (by assumption))) Gw ?_ ?_ (bV _)) | ((with_reducible show PT _ _ (tT _ (cz (aj nY _ _))));refine gH (C5 (bX.units (by assumption))) Gr ?_ ?_ (bV _)) | ((with_reducible show PE _ _ (tE _ (aj nY _ _)));refine gE (C5 (bX.units (by assumption))) Gr ?_ ?_ (bV _)) | ((with_reducible show PT _ _ (tT _ (cz (aj DK _ _))));refine gH zQ uA ?_ ?_ (bV _)) | ((with_reducible show PE _ _ (tE _ (aj DK _ _)));refine gE zQ uA ?_ ?_ (bV _)) | ((with_reducible show PT _ _ (tT _ (cz (aj D_ _ _))));refine gH tR oI ?_ ?_ (bV _)) | ((with_reducible show PE _ _ (tE _ (aj D_ _ _)));refine gE tR oI ?_ ?_ (bV _)) | ((with_reducible show PT _ _ (tT _ (cz (aj JW _ _))));refine gH GJ CQ ?_ ?_ (bV _)) | ((with_reducible show PE _ _ (tE _ (aj JW _ _)));refine gE GJ CQ ?_ ?_ (bV _)) | ((with_reducible show PT _ _ (tT _ (cz (aj JS _ _))));refine gH Gy Cm ?_ ?_ (bV _)) | ((with_reducible show PE _ _ (tE _ (aj JS _ _)));refine gE Gy Cm ?_ ?_ (bV _)) | ((with_reducible show PT _ _ (tT _ (cz (aj yc _ _))));refine gH DO Di ?_ ?_ (bV _)) | ((with_reducible show PE _ _ (tE _ (aj yc _ _)));refine gE DO Di ?_ ?_ (bV _)) | ((with_reducible show PT _ _ (tT _ (cz (aj lA _ _))));refine gH zq zd ?_ ?_ (bV _)) | ((with_reducible show PE _ _ (tE _ (aj lA _ _)));refine gE zq zd ?_ ?_ (bV _)) | ((with_reducible show PT _ _ (tT _ (iP _)));refine IU ?_) | ((with_reducible show PT _ _ (tT _ (cz (ai _ _))));refine sd ?_) | ((with_reducible show PT _ _ (tT _ (cz (tN _ _ _ _))));refine sd ?_) | ((with_reducible show PT _ _ (tT _ (cz (bD _ _ _ _ _))));refine sd ?_) | ((with_reducible show PT _ _ (tT _ (cz (ae _))));refine sd ?_) | ((with_reducible show PS _ _ (tS _ (retS _)));refine Ho ?_) | ((with_reducible show PS _ _ (tS _ (aY _ _)));refine IE (by assumption) rfl (by walk_at "l") ?_) | ((with_reducible show PS _ _ (tS _ (iq _ _ _)));refine LB ?_ ?_ ?_) | ((with_reducible show PS _ _ (tS _ (jG _ _)));refine Aq rfl (by first | exact .inl rfl | exact .inr (.inl rfl)) ?_) | ((with_reducible show PS _ _ (tS _ (pF _ _)));refine FH (by assumption) rfl (by walk_at "l") ?_) | ((with_reducible show PE _ _ (tO _ (ko _)));refine Jt ?_) | ((with_reducible show PS _ _ (tS _ (pW _ _)));refine Hg _ ?_) | ((with_reducible show PS _ _ (tS _ (gL _)));refine EC ?_) | ((with_reducible show PS _ _ (tS _ (kU _ _)));refine z0.raise (by assumption) (by assumption) rfl (by rfl) ?_) | ((with_reducible show PS _ _ (tS _ (jX _ _ _)));refine sR.raise (by assumption) (by assumption) (by omega) (by assumption) rfl (by rfl) ?_) | ((with_reducible show PE _ _ (tE _ (jN _)));refine JM ?_) | ((with_reducible show PE _ _ (tE _ (sk _)));refine BE ?_) | ((with_reducible show PE _ _ (tE _ (jH _)));refine Jl ?_) | ((with_reducible show PE _ _ (tE _ (AJ _ _ _)));refine Ip ?_ ?_ ?_) | ((with_reducible show PE _ _ (tE _ (cT _ _ _)));refine HM ?_ (by assumption) rfl) | ((with_reducible show PE _ _ (tE _ (ai dE _)));refine mY A5 IK (by rfl) (by assumption) PySem.boot_len ?_) | ((with_reducible show PE _ _ (tE _ (ai cG _)));refine oR sW CS (by rfl) (by assumption) jx ?_) | ((with_reducible show PE _ _ (tE _ (ai xy _)));refine oR vn Eg (by rfl) (by assumption) zM ?_) | ((with_reducible show PE _ _ (tE _ (ai Bf _)));refine mY (Be rfl) Ja (by rfl) (by assumption) Jp ?_) | ((with_reducible show PE _ _ (tE _ (ai sy _)));refine mY (Bh rfl) Iz (by rfl) (by assumption) IP ?_) | ((with_reducible show PE _ _ (tE _ (ai t9 _)));refine oR A4 Et (by rfl) (by assumption) vm ?_) | ((with_reducible show PE _ _ (tE _ (ai (eh _ _ _) _)));refine Bl.make (by assumption) (by assumption) (by omega) (by rfl) (by first | assumption | exact uk) ?_) | ((with_reducible show PE _ _ (tE _ (ai _ _)));refine cq.call (by assumption) (by assumption) (by omega) (by rfl) (by first | assumption | exact uk) ?_) | ((with_reducible show PE _ _ (tE _ (bD _ _ _ _ ao)));refine iV.By (by assumption) (by assumption) (by omega) (by first | assumption | exact uk) ?_) | ((with_reducible show PE _ _ (tE _ (bD _ _ _ _ _)));refine iV.call (by assumption) (by assumption) (by omega) (by first | assumption | exact uk) ?_ ?_) | ((with_reducible show PT _ _ (tT _ (cz (aj isBP _ _))));refine gH op_isBV ov_isBV ?_ ?_ (bV _)) | ((with_reducible show PE _ _ (tE _ (aj isBP _ _)));refine gE op_isBV ov_isBV ?_ ?_ (bV _)) | ((with_reducible show PT _ _ (tT _ (cz (aj dW _ _))));refine gH rM rJ ?_ ?_ (bV _)) | ((with_reducible show PE _ _ (tE _ (aj dW _ _)));refine gE rM rJ ?_ ?_ (bV _)) | ((with_reducible show PT _ _ (tT _ (cz (aj eqE _ _))));refine gH (op_eqE (bX.units (by assumption))) ov_eqE ?_ ?_ (bV _)) | ((with_reducible show PE _ _ (tE _ (aj eqE _ _)));refine gE (op_eqE (bX.units (by assumption))) ov_eqE ?_ ?_ (bV _)) | ((with_reducible show PT _ _ (tT _ (cz (aj neE _ _))));refine gH (op_neE (bX.units (by assumption))) ov_neE ?_ ?_ (bV _)) | ((with_reducible show PE _ _ (tE _ (aj neE _ _)));refine gE (op_neE (bX.units (by assumption))) ov_neE ?_ ?_ (bV _)) | ((with_reducible show PT _ _ (tT _ (cz (fg _ _ _ _))));refine sd ?_) | ((with_reducible show PE _ _ (tE _ (bareV _)));exact pv_bare (by assumption) (by rfl)) | ((with_reducible show PE _ _ (tE _ (fg _ _ _ ao)));refine yY.By (by assumption) (by repeat' (first | exact yY.nil | refine yY.cons (by assumption) (by omega) ?_)) (by first | assumption | exact uk) ?_) | ((with_reducible show PE _ _ (tE _ (fg _ _ _ _)));refine yY.call (by assumption) (by repeat' (first | exact yY.nil | refine yY.cons (by assumption) (by omega) ?_)) (by first | assumption | exact uk) ?_ ?_)))
def top(i:Nat):Stmt:=PySem.Challenge.pw_dialvault_k27_whole_one_paper.main.body.getD i (.Pass ⟨0,0,0,0⟩)
structure Txt (K:PySem.W.Frag) (mg:Str->Option Value):Prop where
 Lq:mg "all" = none
 vy:mg "bool" = none
 eW:mg "enumerate" = none
 zF:mg "int" = none
 aX:mg "isinstance" = none
 JX:mg "len" = none
 CU:mg "list" = none
 Gv:mg "max" = none
 fG:mg "range" = none
 Lb:mg "sum" = none
 lE:mg "tuple" = none
 iD:mg "zip" = none
 sQ:∃ u,mg "LEAST_PRICE" = some u/\RelV (.int 1) u
 uB:∃ u,mg "LEAST_SIZE" = some u/\RelV (.int 2) u
 vx:∃ u,mg "MOST_DIALS" = some u/\RelV (.int 6) u
 sI:∃ u,mg "MOST_LEVERS" = some u/\RelV (.int 8) u
 vA:∃ u,mg "MOST_PRICE" = some u/\RelV (.int 1000) u
 wF:∃ u,mg "MOST_SIZE" = some u/\RelV (.int 360) u
 GY:lq K bg
 pZ:lq K aB
 ny:lq K az
 GX:lq K bf
 AD:z0 K mg lT "NoPulls"
 vW:z0 K mg bu "NoSetting"
 Au:z0 K mg jy "TooMany"
 kP:M3 K mg "NoSetting" bu hZ gW
 k8:JP K mg "Bar" bg nZ ou jr jj
 mq:JP K mg "Way" bf rT qL kb j3
 l4:bF K bg "weights"
 iZ:bF K aB "idle_rows"
 i_:bF K aB "made_rows"
 l8:bF K aB "vault"
 ip:bF K az "dial_sizes"
 gN:bF K az "least_round"
 gv:bF K az "lever_prices"
 fe:bF K az "lever_settings"
 oZ:bF K bf "pulls"
 u9:∀ C,(C==az)=true->lq K C/\bF K C "dial_sizes"
 v8:∀ C,(C==aB)=true->lq K C/\bF K C "idle_rows"
 sx:∀ C,(C==az)=true->lq K C/\bF K C "least_round"
 qg:∀ C,(C==az)=true->lq K C/\bF K C "lever_prices"
 oQ:∀ C,(C==az)=true->lq K C/\bF K C "lever_settings"
 vN:∀ C,(C==aB)=true->lq K C/\bF K C "made_rows"
 E4:∀ C,(C==bf)=true->lq K C/\bF K C "pulls"
 ET:∀ C,(C==aB)=true->lq K C/\bF K C "vault"
 AU:∀ C,(C==bg)=true->lq K C/\bF K C "weights"
variable{P:Program}{w:World}{K:PySem.W.Frag}{mg:Str->Option Value}{base:Heap}{f:Addr}{fd:FuncData}{dv:Value}
theorem oX:aw ["thing"] ["thing"] (au (top 10)):=.of
theorem vS(F:aS K "is_whole" "is_whole" (top 10) dv f fd)(T:Txt K mg)  : aI P w K mg base (bH P w) 1 f fd ["thing"] (c7 1 fN) :=
 F.eJ oX λ_ _ _ _ _ _ hr O=>by
 unfold jQ;have:=oX.nd;have T2:=T;cases T2
 walk_at "pp"
 refine(u4 ?_ (vc ?_))
 walk_at "pp"
 refine(jt (T := "int") (by rfl) T.aX (eM (v:=.ty "int") (by rfl) T.zF vm rfl) (by decide) jo jo ?_)
 walk_at "pp"
 refine(HV ?_)
 walk_at "pp"
 refine(jt (T := "bool") (by rfl) T.aX (eM (v:=.ty "bool") (by rfl) T.vy vB rfl) (by decide) jo jo ?_)
 walk_at "pp"
theorem tF:aw ["thing", "length"] ["thing", "length"] (au (top 11)):=.of
theorem wt:((["number"]:List Str)++([]:List Str)).Nodup:=by decide +kernel
theorem AN(F:aS K "is_row" "is_row" (top 11) dv f fd)(T:Txt K mg)(OQ:cq P w K mg base 1 "is_whole" 1 (ay 1 jQ)):aI P w K mg base (bH P w) 2 f fd ["thing", "length"] (c7 2 gz) :=
 F.eJ tF λ_ _ _ _ _ _ hr O=>by
 unfold jK;have:=tF.nd;have T2:=T;cases T2
 walk_at "pp"
 refine(iA ?_ (gD ?_)).pt
 walk_at "pp"
 refine(Ei (Ts:=["list", "tuple"]) (by rfl) T.aX (DY (fq (eM (v:=.ty "list") (by rfl) T.CU zM rfl) (fq (eM (v:=.ty "tuple") (by rfl) T.lE jx rfl) mC))) (fun σ H R h=>⟨by show 2<=sizeLine;decide,h⟩) (by decide) jo ?_)
 walk_at "pp"
 refine(dw (bG (g:=(aH 0)) (ts:=["number"]) (fs:=[]) (js:=[]) (cl:=[]) rfl rfl rfl rfl rfl rfl .nil .nil (eQ ?_) cZ (λ_ _ _ _ _=>(aK (i:=0) wt)) (λ_=>bp) cn (λ_ _ _ _ _=>?_)))
 walk_at "pp"
theorem t8:aw ["one", "other", "row", "behind", "times", "rest"] ["one", "other"] (au (top 12)):=.of
theorem Bb(F:aS K "common" "common" (top 12) dv f fd)(T:Txt K mg)  : aI P w K mg base (bH P w) 1 f fd ["one", "other"] (c7 2 gq) :=
 F.eJ t8 λ_ _ _ _ _ _ hr O=>by
 unfold lx;have:=t8.nd;have T2:=T;cases T2
 walk_at "pp"
 refine(wx O ?_ ?_)
 walk_at "pp"
theorem iH:aw ["numbers", "multiple", "number"] ["numbers"] (au (top 13)):=.of
theorem qQ(F:aS K "multiple_of" "multiple_of" (top 13) dv f fd)(T:Txt K mg)(Pq:cq P w K mg base 1 "common" 2 (ay 6 lx)):aI P w K mg base (bH P w) 2 f fd ["numbers"] (c7 1 dj) :=
 F.eJ iH λ_ _ _ _ _ _ hr O=>by
 unfold eo;have:=iH.nd;have T2:=T;cases T2
 walk_at "pp"
 refine(bA (g:=(aH 2)) O rfl (eQ ?_) cZ (aK (i:=2) iH.nd) bp ?_)
 walk_at "pp"
theorem pj:aw ["length", "place"] ["length", "place"] (au (top 14)):=.of
theorem sv:((["other"]:List Str)++(["place"]:List Str)).Nodup:=by decide +kernel
theorem wm(F:aS K "unit_row" "unit_row" (top 14) dv f fd)(T:Txt K mg)  : aI P w K mg base (bH P w) 1 f fd ["length", "place"] (c7 2 ki) :=
 F.eJ pj λ_ _ _ _ _ _ hr O=>by
 unfold jU;have:=pj.nd;have T2:=T;cases T2
 walk_at "pp"
 refine(dw (bG (g:=(aH 0)) (ts:=["other"]) (fs:=["place"]) (js:=[1]) rfl rfl rfl rfl rfl rfl (.cons rfl .nil) (.cons rfl rfl (by walk_at "l") rfl rfl .nil) (fM (by rfl) T.fG ?_) iG (λ_ _ _ _ _=>(aK (i:=0) sv)) (λ_=>bp) cn (λ_ _ _ _ _=>?_)))
 walk_at "pp"
theorem o4:aw ["numbers", "others", "by"] ["numbers", "others", "by"] (au (top 15)):=.of
theorem me:((["number", "other"]:List Str)++([]:List Str)).Nodup:=by decide +kernel
theorem wo(F:aS K "rest_sum" "rest_sum" (top 15) dv f fd)(T:Txt K mg)  : aI P w K mg base (bH P w) 1 f fd ["numbers", "others", "by"] (c7 3 j4) :=
 F.eJ o4 λ_ _ _ _ _ _ hr O=>by
 unfold jR;have:=o4.nd;have T2:=T;cases T2
 walk_at "pp"
 refine(dw (bG (g:=(iU K 2 (bc (aH 0) (bc (aH 1) iT)))) (ts:=["number", "other"]) (fs:=[]) (js:=[]) (cl:=[]) rfl rfl rfl rfl rfl rfl .nil .nil (gI (by rfl) T.iD ?_) eH (λ_ _ _ _ _=>(c_ (n:=2) rfl (aG (aK (i:=0) me) (aG (aK (i:=1) me) bW)))) (λ_=>cx) c6 (λ_ _ _ _ _=>?_)))
 walk_at "pp"
theorem mS:aw ["thing", "least", "most"] ["thing", "least", "most"] (au (top 24)):=.of
theorem vF(F:aS K "is_within" "is_within" (top 24) dv f fd)(T:Txt K mg)(OQ:cq P w K mg base 1 "is_whole" 1 (ay 1 jQ)):aI P w K mg base (bH P w) 2 f fd ["thing", "least", "most"] (c7 3 dG) :=
 F.eJ mS λ_ _ _ _ _ _ hr O=>by
 unfold eY;have:=mS.nd;have T2:=T;cases T2
 walk_at "pp"
 refine(u4 ?_ (vc ?_))
 walk_at "pp"
 refine(xx tR oI tR oI ?_ ?_ ?_)
 walk_at "pp"
theorem gj:aw ["sizes", "dial", "size"] ["sizes"] (au (top 25)):=.of
theorem sM(F:aS K "need_sizes" "need_sizes" (top 25) dv f fd)(T:Txt K mg)(Px:sR P w K mg base fm "NoDial" "dial")(Ov:cq P w K mg base 2 "is_within" 3 (ay 3 eY)):aI P w K mg base (bH P w) 3 f fd ["sizes"] (c7 1 dR) :=
 F.eJ gj λ_ _ _ _ _ _ hr O=>by
 unfold fu;have:=gj.nd;have T2:=T;cases T2
 walk_at "pp"
 refine(bA (g:=(iU K 2 (bc (aH 1) (bc (aH 2) iT)))) O rfl (qx (by rfl) T.eW ?_) mU (c_ (n:=2) rfl (aG (aK (i:=1) gj.nd) (aG (aK (i:=2) gj.nd) bW))) cx ?_)
 walk_at "pp"
theorem fc:aw ["levers", "dials", "place", "lever"] ["levers", "dials"] (au (top 26)):=.of
theorem qr(F:aS K "need_levers" "need_levers" (top 26) dv f fd)(T:Txt K mg)(ON:cq P w K mg base 2 "is_row" 2 (ay 2 jK))(Qc:sR P w K mg base ij "NoLever" "lever"):aI P w K mg base (bH P w) 3 f fd ["levers", "dials"] (c7 2 gg) :=
 F.eJ fc λ_ _ _ _ _ _ hr O=>by
 unfold f7;have:=fc.nd;have T2:=T;cases T2
 walk_at "pp"
 refine(bA (g:=(iU K 2 (bc (aH 2) (bc (aH 3) iT)))) O rfl (qx (by rfl) T.eW ?_) mU (c_ (n:=2) rfl (aG (aK (i:=2) fc.nd) (aG (aK (i:=3) fc.nd) bW))) cx ?_)
 walk_at "pp"
theorem ji:aw ["levers", "prices", "place"] ["levers", "prices"] (au (top 27)):=.of
theorem sD(F:aS K "prices_for" "prices_for" (top 27) dv f fd)(T:Txt K mg)(Qd:sR P w K mg base fK "NoPrice" "lever")(Ov:cq P w K mg base 2 "is_within" 3 (ay 3 eY)):aI P w K mg base (bH P w) 3 f fd ["levers", "prices"] (c7 2 gP) :=
 F.eJ ji λ_ _ _ _ _ _ hr O=>by
 unfold g9;have:=ji.nd;have T2:=T;cases T2
 walk_at "pp"
 refine(bA (g:=(aH 2)) O rfl (fM (by rfl) T.fG ?_) iG (aK (i:=2) ji.nd) bp ?_)
 walk_at "pp"
 refine(mY (AB rfl) Fb (by rfl) T.Gv JK ?_)
 walk_at "pp"
 refine(iA ?_ (gD ?_)).pt
 walk_at "pp"
theorem wB:aw ["numbers", "sizes"] ["numbers", "sizes"] (au (top 28)):=.of
theorem rG:((["number", "size"]:List Str)++([]:List Str)).Nodup:=by decide +kernel
theorem Cb(F:aS K "rests" "rests" (top 28) dv f fd)(T:Txt K mg)  : aI P w K mg base (bH P w) 1 f fd ["numbers", "sizes"] (c7 2 i5) :=
 F.eJ wB λ_ _ _ _ _ _ hr O=>by
 unfold lR;have:=wB.nd;have T2:=T;cases T2
 walk_at "pp"
 refine(dw (bG (g:=(iU K 2 (bc (aH 0) (bc (aH 1) iT)))) (ts:=["number", "size"]) (fs:=[]) (js:=[]) (cl:=[]) rfl rfl rfl rfl rfl rfl .nil .nil (gI (by rfl) T.iD ?_) eH (λ_ _ _ _ _=>(c_ (n:=2) rfl (aG (aK (i:=0) rG) (aG (aK (i:=1) rG) bW)))) (λ_=>cx) c6 (λ_ _ _ _ _=>?_)))
 walk_at "pp"
theorem wb:aw ["row", "times", "other", "others"] ["row", "times", "other", "others"] (au (top 44)):=.of
theorem qk:((["one", "two"]:List Str)++(["times", "others"]:List Str)).Nodup:=by decide +kernel
theorem De(F:aS K "mixed" "mixed" (top 44) dv f fd)(T:Txt K mg)  : aI P w K mg base (bH P w) 1 f fd ["row", "times", "other", "others"] (c7 4 lF) :=
 F.eJ wb λ_ _ _ _ _ _ hr O=>by
 unfold mZ;have:=wb.nd;have T2:=T;cases T2
 walk_at "pp"
 refine(dw (bG (g:=(iU K 2 (bc (aH 0) (bc (aH 1) iT)))) (ts:=["one", "two"]) (fs:=["times", "others"]) (js:=[1,3]) rfl rfl rfl rfl rfl rfl (.cons rfl (.cons rfl .nil)) (.cons rfl rfl (by walk_at "l") rfl rfl (.cons rfl rfl (by walk_at "l") rfl rfl .nil)) (gI (by rfl) T.iD ?_) eH (λ_ _ _ _ _=>(c_ (n:=2) rfl (aG (aK (i:=0) qk) (aG (aK (i:=1) qk) bW)))) (λ_=>cx) c6 (λ_ _ _ _ _=>?_)))
 walk_at "pp"
theorem ml:aw ["sizes", "made", "times", "other", "others", "doing"] ["sizes", "made", "times", "other", "others"] (au (top 45)):=.of
theorem sO(F:aS K "mixed_made" "mixed_made" (top 45) dv f fd)(T:Txt K mg)(PN:cq P w K mg base 1 "mixed" 4 (ay 4 mZ))(O8:cq P w K mg base 1 "rests" 2 (ay 2 lR)):aI P w K mg base (bH P w) 2 f fd ["sizes", "made", "times", "other", "others"] (c7 5 dX) :=
 F.eJ ml λ_ _ _ _ _ _ hr O=>by
 unfold fz;have:=ml.nd;have T2:=T;cases T2
 walk_at "pp"
theorem nP:aw ["sizes", "made_rows", "dial", "notch"] ["sizes", "made_rows", "dial"] (au (top 48)):=.of
theorem uO(F:aS K "step_size" "step_size" (top 48) dv f fd)(T:Txt K mg)  : aI P w K mg base (bH P w) 1 f fd ["sizes", "made_rows", "dial"] (c7 3 dJ) :=
 F.eJ nP λ_ _ _ _ _ _ hr O=>by
 unfold eU;have:=nP.nd;have T2:=T;cases T2
 walk_at "pp"
theorem iW:aw ["sizes", "made_rows", "left", "wider", "dial", "made", "step", "notch", "found"] ["sizes", "made_rows", "left"] (au (top 49)):=.of
theorem xt(F:aS K "taken_in" "taken_in" (top 49) dv f fd)(T:Txt K mg)(Ow:cq P w K mg base 1 "step_size" 3 (ay 4 eU))(Pq:cq P w K mg base 1 "common" 2 (ay 6 lx))(OH:cq P w K mg base 2 "mixed_made" 5 (ay 6 fz)):aI P w K mg base (bH P w) 3 f fd ["sizes", "made_rows", "left"] (c7 3 kf) :=
 F.eJ iW λ_ _ _ _ _ _ hr O=>by
 unfold jT;have:=iW.nd;have T2:=T;cases T2
 walk_at "pp"
 refine(bA (g:=(iU K 2 (bc (aH 4) (bc (aH 5) iT)))) O rfl (qx (by rfl) T.eW ?_) mU (c_ (n:=2) rfl (aG (aK (i:=4) iW.nd) (aG (aK (i:=5) iW.nd) bW))) cx ?_)
 walk_at "pp"
theorem my:aw ["sizes", "made_rows", "made", "first", "dial", "times"] ["sizes", "made_rows", "made", "first"] (au (top 50)):=.of
theorem yE(F:aS K "lowered" "lowered" (top 50) dv f fd)(T:Txt K mg)(Ow:cq P w K mg base 1 "step_size" 3 (ay 4 eU))(OH:cq P w K mg base 2 "mixed_made" 5 (ay 6 fz)):aI P w K mg base (bH P w) 3 f fd ["sizes", "made_rows", "made", "first"] (c7 4 fJ) :=
 F.eJ my λ_ _ _ _ _ _ hr O=>by
 unfold jL;have:=my.nd;have T2:=T;cases T2
 walk_at "pp"
 refine(bA (g:=(aH 4)) O rfl (Bc (by rfl) T.fG ?_) DE (aK (i:=4) my.nd) bp ?_)
 walk_at "pp"
theorem lj:aw ["pulls", "idle_rows", "lever", "row"] ["pulls", "idle_rows"] (au (top 51)):=.of
theorem wL(F:aS K "in_spans" "in_spans" (top 51) dv f fd)(T:Txt K mg)(PN:cq P w K mg base 1 "mixed" 4 (ay 4 mZ)):aI P w K mg base (bH P w) 2 f fd ["pulls", "idle_rows"] (c7 2 iB) :=
 F.eJ lj λ_ _ _ _ _ _ hr O=>by
 unfold iu;have:=lj.nd;have T2:=T;cases T2
 walk_at "pp"
 refine(bA (g:=(aH 2)) O rfl (t7 (by rfl) T.fG ?_) vT (aK (i:=2) lj.nd) bp ?_)
 walk_at "pp"
theorem kA:aw ["setting"] ["setting"] (au (top 53)):=.of
theorem nh:((["notch"]:List Str)++([]:List Str)).Nodup:=by decide +kernel
theorem pJ(F:aS K "first_turned" "first_turned" (top 53) dv f fd)(T:Txt K mg)  : aI P w K mg base (bH P w) 1 f fd ["setting"] (c7 1 ff) :=
 F.eJ kA λ_ _ _ _ _ _ hr O=>by
 unfold fF;have:=kA.nd;have T2:=T;cases T2
 walk_at "pp"
 refine(C_ ?_ ?_)
 walk_at "pp"
 refine(dw (bG (g:=(aH 0)) (ts:=["notch"]) (fs:=[]) (js:=[]) (cl:=[]) rfl rfl rfl rfl rfl rfl .nil .nil (eQ ?_) cZ (λ_ _ _ _ _=>(aK (i:=0) nh)) (λ_=>bp) cn (λ_ _ _ _ _=>?_)))
 walk_at "pp"
theorem m7:aw ["_law_script", "_law_k"] ["_law_script", "_law_k"] (au (top 56)):=.of
theorem vt(F:aS K "_law_cell" "_law_cell" (top 56) dv f fd)(T:Txt K mg)  : aI P w K mg base (bH P w) 1 f fd ["_law_script", "_law_k"] (c7 2 cA) :=
 F.eJ m7 λ_ _ _ _ _ _ hr O=>by
 unfold gA;have:=m7.nd;have T2:=T;cases T2
 walk_at "pp"
theorem ir:aw ["_law_cell_here", "_law_many", "_law_found", "_law_number", "_law_k"] ["_law_cell_here", "_law_many"] (au (top 57)):=.of
theorem rZ(F:aS K "_law_stream" "_law_stream" (top 57) dv f fd)(T:Txt K mg)  : aI P w K mg base (bH P w) 1 f fd ["_law_cell_here", "_law_many"] (c7 2 cF) :=
 F.eJ ir λ_ _ _ _ _ _ hr O=>by
 unfold cH;have:=ir.nd;have T2:=T;cases T2
 walk_at "pp"
 refine(bA (g:=(aH 4)) O rfl (fM (by rfl) T.fG ?_) iG (aK (i:=4) ir.nd) bp ?_)
 walk_at "pp"
theorem iJ:aw ["_law_cell_here", "_law_bases", "_law_found", "_law_left", "_law_base"] ["_law_cell_here", "_law_bases"] (au (top 58)):=.of
theorem qj(F:aS K "_law_digits" "_law_digits" (top 58) dv f fd)(T:Txt K mg)  : aI P w K mg base (bH P w) 1 f fd ["_law_cell_here", "_law_bases"] (c7 2 cI) :=
 F.eJ iJ λ_ _ _ _ _ _ hr O=>by
 unfold cK;have:=iJ.nd;have T2:=T;cases T2
 walk_at "pp"
 refine(bA (g:=(aH 4)) O rfl (eQ ?_) cZ (aK (i:=4) iJ.nd) bp ?_)
 walk_at "pp"
theorem jf:aw ["_law_cell_here", "_law_many", "_law_sizes_here", "_law_number"] ["_law_cell_here"] (au (top 59)):=.of
theorem pz:((["_law_digit"]:List Str)++([]:List Str)).Nodup:=by decide +kernel
theorem sU(F:aS K "_law_sizes" "_law_sizes" (top 59) dv f fd)(T:Txt K mg)(Of:cq P w K mg base 1 "_law_digits" 2 (ay 5 cK))(Og:cq P w K mg base 1 "_law_stream" 2 (ay 5 cH)):aI P w K mg base (bH P w) 2 f fd ["_law_cell_here"] (c7 1 gR) :=
 F.eJ jf λ_ _ _ _ _ _ hr O=>by
 unfold gZ;have:=jf.nd;have T2:=T;cases T2
 walk_at "pp"
 refine(dw (bG (g:=(aH 0)) (ts:=["_law_digit"]) (fs:=[]) (js:=[]) (cl:=[]) rfl rfl rfl rfl rfl rfl .nil .nil (eQ ?_) cZ (λ_ _ _ _ _=>(aK (i:=0) pz)) (λ_=>bp) cn (λ_ _ _ _ _=>?_)))
 walk_at "pp"
 refine(bA (g:=(aH 3)) O rfl (eQ ?_) cZ (aK (i:=3) jf.nd) bp ?_)
 walk_at "pp"
 exact(zL [2,3,4,6,8,9,12,16,24,27,32,36,64,72,81,128,243,256,360])
 walk_at "pp"
theorem mf:aw ["_law_number"] ["_law_number"] (au (top 60)):=.of
theorem sN(F:aS K "_law_great" "_law_great" (top 60) dv f fd)(T:Txt K mg)  : aI P w K mg base (bH P w) 1 f fd ["_law_number"] (c7 1 e8) :=
 F.eJ mf λ_ _ _ _ _ _ hr O=>by
 unfold fE;have:=mf.nd;have T2:=T;cases T2
 walk_at "pp"
theorem gf:aw ["_law_cell_here", "_law_sizes_here", "_law_row", "_law_number", "_law_size", "_law_share"] ["_law_cell_here", "_law_sizes_here"] (au (top 61)):=.of
theorem sL(F:aS K "_law_lever" "_law_lever" (top 61) dv f fd)(T:Txt K mg)(Og:cq P w K mg base 1 "_law_stream" 2 (ay 5 cH))(OF:cq P w K mg base 1 "_law_great" 1 (ay 1 fE)):aI P w K mg base (bH P w) 2 f fd ["_law_cell_here", "_law_sizes_here"] (c7 2 g8) :=
 F.eJ gf λ_ _ _ _ _ _ hr O=>by
 unfold hX;have:=gf.nd;have T2:=T;cases T2
 walk_at "pp"
 refine(bA (g:=(iU K 2 (bc (aH 3) (bc (aH 4) iT)))) O rfl (gI (by rfl) T.iD ?_) eH (c_ (n:=2) rfl (aG (aK (i:=3) gf.nd) (aG (aK (i:=4) gf.nd) bW))) cx ?_)
 walk_at "pp"
 exact(zL [1,1,2,3,4,6,12])
 walk_at "pp"
theorem iC:aw ["_law_script", "_law_sizes_here", "_law_levers_here", "_law_k", "_law_cell_here"] ["_law_script", "_law_sizes_here"] (au (top 62)):=.of
theorem qK(F:aS K "_law_levers" "_law_levers" (top 62) dv f fd)(T:Txt K mg)(OJ:cq P w K mg base 1 "_law_cell" 2 (ay 2 gA))(Of:cq P w K mg base 1 "_law_digits" 2 (ay 5 cK))(Pm:cq P w K mg base 2 "_law_lever" 2 (ay 6 hX)):aI P w K mg base (bH P w) 3 f fd ["_law_script", "_law_sizes_here"] (c7 2 f_) :=
 F.eJ iC λ_ _ _ _ _ _ hr O=>by
 unfold fZ;have:=iC.nd;have T2:=T;cases T2
 walk_at "pp"
 refine(bA (g:=(aH 3)) O rfl (fM (by rfl) T.fG ?_) iG (aK (i:=3) iC.nd) bp ?_)
 walk_at "pp"
theorem d_:aw ["_law_sizes_here", "_law_found", "_law_size", "_law_one", "_law_other"] ["_law_sizes_here"] (au (top 63)):=.of
theorem sP(F:aS K "_law_round" "_law_round" (top 63) dv f fd)(T:Txt K mg)  : aI P w K mg base (bH P w) 1 f fd ["_law_sizes_here"] (c7 1 gY) :=
 F.eJ d_ λ_ _ _ _ _ _ hr O=>by
 unfold g_;have:=d_.nd;have T2:=T;cases T2
 walk_at "pp"
 refine(bA (g:=(aH 2)) O rfl (eQ ?_) cZ (aK (i:=2) d_.nd) bp ?_)
 walk_at "pp"
 refine(yA (i:=3) (j:=4) rfl d_.nd rfl rfl (by decide) rfl rfl ?_ ?_)
 walk_at "pp"
 exact rfl
 walk_at "pp"
 refine(wx O ?_ ?_)
 walk_at "pp"
 refine(yA (i:=3) (j:=4) rfl d_.nd rfl rfl (by decide) rfl rfl ?_ ?_)
 walk_at "pp"
 exact rfl
 walk_at "pp"
theorem mr:aw ["_law_sizes_here", "_law_one", "_law_other", "_law_times"] ["_law_sizes_here", "_law_one", "_law_other", "_law_times"] (au (top 64)):=.of
theorem gJ:((["_law_here", "_law_there", "_law_size"]:List Str)++(["_law_times"]:List Str)).Nodup:=by decide +kernel
theorem sH(F:aS K "_law_added" "_law_added" (top 64) dv f fd)(T:Txt K mg)  : aI P w K mg base (bH P w) 1 f fd ["_law_sizes_here", "_law_one", "_law_other", "_law_times"] (c7 4 bo) :=
 F.eJ mr λ_ _ _ _ _ _ hr O=>by
 unfold cy;have:=mr.nd;have T2:=T;cases T2
 walk_at "pp"
 refine(dw (bG (g:=(iU K 3 (bc (aH 0) (bc (aH 1) (bc (aH 2) iT))))) (ts:=["_law_here", "_law_there", "_law_size"]) (fs:=["_law_times"]) (js:=[3]) rfl rfl rfl rfl rfl rfl (.cons rfl .nil) (.cons rfl rfl (by walk_at "l") rfl rfl .nil) (za (by rfl) T.iD ?_) wU (λ_ _ _ _ _=>(c_ (n:=3) rfl (aG (aK (i:=0) gJ) (aG (aK (i:=1) gJ) (aG (aK (i:=2) gJ) bW))))) (λ_=>zz) yp (λ_ _ _ _ _=>?_)))
 walk_at "pp"
theorem fb:aw ["_law_sizes_here", "_law_levers_here", "_law_setting_here", "_law_pulls_here", "_law_found", "_law_row", "_law_times"] ["_law_sizes_here", "_law_levers_here", "_law_setting_here", "_law_pulls_here"] (au (top 65)):=.of
theorem qy(F:aS K "_law_turned" "_law_turned" (top 65) dv f fd)(T:Txt K mg)(Oi:cq P w K mg base 1 "_law_added" 4 (ay 4 cy)):aI P w K mg base (bH P w) 2 f fd ["_law_sizes_here", "_law_levers_here", "_law_setting_here", "_law_pulls_here"] (c7 4 bK) :=
 F.eJ fb λ_ _ _ _ _ _ hr O=>by
 unfold dm;have:=fb.nd;have T2:=T;cases T2
 walk_at "pp"
 refine(bA (g:=(iU K 2 (bc (aH 5) (bc (aH 6) iT)))) O rfl (gI (by rfl) T.iD ?_) eH (c_ (n:=2) rfl (aG (aK (i:=5) fb.nd) (aG (aK (i:=6) fb.nd) bW))) cx ?_)
 walk_at "pp"
theorem de:aw ["_law_sizes_here", "_law_weights", "_law_setting_here", "_law_around", "_law_total", "_law_weight", "_law_notch", "_law_size"] ["_law_sizes_here", "_law_weights", "_law_setting_here"] (au (top 66)):=.of
theorem pD(F:aS K "_law_weighed" "_law_weighed" (top 66) dv f fd)(T:Txt K mg)(Po:cq P w K mg base 1 "_law_round" 1 (ay 5 g_)):aI P w K mg base (bH P w) 2 f fd ["_law_sizes_here", "_law_weights", "_law_setting_here"] (c7 3 dO) :=
 F.eJ de λ_ _ _ _ _ _ hr O=>by
 unfold fy;have:=de.nd;have T2:=T;cases T2
 walk_at "pp"
 refine(bA (g:=(iU K 3 (bc (aH 5) (bc (aH 6) (bc (aH 7) iT))))) O rfl (za (by rfl) T.iD ?_) wU (c_ (n:=3) rfl (aG (aK (i:=5) de.nd) (aG (aK (i:=6) de.nd) (aG (aK (i:=7) de.nd) bW)))) zz ?_)
 walk_at "pp"
theorem kx:aw ["_law_cell_here", "_law_sizes_here"] ["_law_cell_here", "_law_sizes_here"] (au (top 67)):=.of
theorem ja:((["_law_number", "_law_size"]:List Str)++([]:List Str)).Nodup:=by decide +kernel
theorem pM(F:aS K "_law_setting" "_law_setting" (top 67) dv f fd)(T:Txt K mg)(Of:cq P w K mg base 1 "_law_digits" 2 (ay 5 cK))(Og:cq P w K mg base 1 "_law_stream" 2 (ay 5 cH)):aI P w K mg base (bH P w) 2 f fd ["_law_cell_here", "_law_sizes_here"] (c7 2 cS) :=
 F.eJ kx λ_ _ _ _ _ _ hr O=>by
 unfold fx;have:=kx.nd;have T2:=T;cases T2
 walk_at "pp"
 refine(dw (bG (g:=(iU K 2 (bc (aH 0) (bc (aH 1) iT)))) (ts:=["_law_number", "_law_size"]) (fs:=[]) (js:=[]) (cl:=[]) rfl rfl rfl rfl rfl rfl .nil .nil (gI (by rfl) T.iD ?_) eH (λ_ _ _ _ _=>(c_ (n:=2) rfl (aG (aK (i:=0) ja) (aG (aK (i:=1) ja) bW)))) (λ_=>cx) c6 (λ_ _ _ _ _=>?_)))
 walk_at "pp"
theorem jl:aw ["_law_cell_here", "_law_many", "_law_found", "_law_number"] ["_law_cell_here", "_law_many"] (au (top 68)):=.of
theorem pN:((["_law_digit"]:List Str)++([]:List Str)).Nodup:=by decide +kernel
theorem sG(F:aS K "_law_pulls" "_law_pulls" (top 68) dv f fd)(T:Txt K mg)(Of:cq P w K mg base 1 "_law_digits" 2 (ay 5 cK))(Og:cq P w K mg base 1 "_law_stream" 2 (ay 5 cH))(OF:cq P w K mg base 1 "_law_great" 1 (ay 1 fE)):aI P w K mg base (bH P w) 2 f fd ["_law_cell_here", "_law_many"] (c7 2 fw) :=
 F.eJ jl λ_ _ _ _ _ _ hr O=>by
 unfold gX;have:=jl.nd;have T2:=T;cases T2
 walk_at "pp"
 refine(dw (bG (g:=(aH 0)) (ts:=["_law_digit"]) (fs:=[]) (js:=[]) (cl:=[]) rfl rfl rfl rfl rfl rfl .nil .nil (eQ ?_) cZ (λ_ _ _ _ _=>(aK (i:=0) pN)) (λ_=>bp) cn (λ_ _ _ _ _=>?_)))
 walk_at "pp"
 refine(bA (g:=(aH 3)) O rfl (eQ ?_) cZ (aK (i:=3) jl.nd) bp ?_)
 walk_at "pp"
theorem l_:aw ["self", "sizes", "levers", "prices"] ["self", "sizes", "levers", "prices"] (au (inClass (top 23) 0)):=.of
theorem pH:((["lever"]:List Str)++(["sizes"]:List Str)).Nodup:=by decide +kernel
theorem sJ(F:aS K "__init__" "Vault.__init__" (inClass (top 23) 0) dv f fd)(T:Txt K mg)(Pt:cq P w K mg base 3 "need_sizes" 1 (ay 3 fu))(Pf:cq P w K mg base 3 "need_levers" 2 (ay 4 f7))(O8:cq P w K mg base 1 "rests" 2 (ay 2 lR))(Pw:cq P w K mg base 3 "prices_for" 2 (ay 3 g9))(Pe:cq P w K mg base 2 "multiple_of" 1 (ay 3 eo)):aI P w K mg base (bH P w) 4 f fd ["self", "sizes", "levers", "prices"] (Ea 4 az eO) :=
 F.LI l_ (by decide) λ_ _ _ _ _ _ hr O=>by
 unfold h9;have:=l_.nd;have T2:=T;cases T2
 walk_at "pp"
 refine(jW (i:=0) rfl (by first | exact .inl rfl | exact .inr (.inl rfl)) T.ny T.ip ?_)
 walk_at "pp"
 refine(jW (i:=0) rfl (by first | exact .inl rfl | exact .inr (.inl rfl)) T.ny T.fe ?_)
 walk_at "pp"
 refine(dw (bG (g:=(aH 0)) (ts:=["lever"]) (fs:=["sizes"]) (js:=[1]) rfl rfl rfl rfl rfl rfl (.cons rfl .nil) (.cons rfl rfl (by walk_at "l") rfl rfl .nil) (eQ ?_) cZ (λ_ _ _ _ _=>(aK (i:=0) pH)) (λ_=>bp) cn (λ_ _ _ _ _=>?_)))
 walk_at "pp"
 refine(jW (i:=0) rfl (by first | exact .inl rfl | exact .inr (.inl rfl)) T.ny T.gv ?_)
 walk_at "pp"
 refine(jW (i:=0) rfl (by first | exact .inl rfl | exact .inr (.inl rfl)) T.ny T.gN ?_)
 walk_at "pp"
theorem kT:aw ["self"] ["self"] (au (inClass (top 23) 1)):=.of
theorem qb(F:aS K "sizes" "Vault.sizes" (inClass (top 23) 1) dv f fd)(T:Txt K mg)  : aI P w K mg base (bH P w) 1 f fd ["self"] (c7 1 aT) :=
 F.eJ kT λ_ _ _ _ _ _ hr O=>by
 unfold a_;have:=kT.nd;have T2:=T;cases T2
 walk_at "pp"
theorem kv:aw ["self"] ["self"] (au (inClass (top 23) 2)):=.of
theorem pG(F:aS K "levers" "Vault.levers" (inClass (top 23) 2) dv f fd)(T:Txt K mg)  : aI P w K mg base (bH P w) 1 f fd ["self"] (c7 1 aZ) :=
 F.eJ kv λ_ _ _ _ _ _ hr O=>by
 unfold bh;have:=kv.nd;have T2:=T;cases T2
 walk_at "pp"
theorem ky:aw ["self"] ["self"] (au (inClass (top 23) 3)):=.of
theorem pI(F:aS K "prices" "Vault.prices" (inClass (top 23) 3) dv f fd)(T:Txt K mg)  : aI P w K mg base (bH P w) 1 f fd ["self"] (c7 1 qv) :=
 F.eJ ky λ_ _ _ _ _ _ hr O=>by
 unfold kQ;have:=ky.nd;have T2:=T;cases T2
 walk_at "pp"
theorem kz:aw ["self"] ["self"] (au (inClass (top 23) 4)):=.of
theorem pE(F:aS K "around" "Vault.around" (inClass (top 23) 4) dv f fd)(T:Txt K mg)  : aI P w K mg base (bH P w) 1 f fd ["self"] (c7 1 cR) :=
 F.eJ kz λ_ _ _ _ _ _ hr O=>by
 unfold dP;have:=kz.nd;have T2:=T;cases T2
 walk_at "pp"
theorem kn:aw ["self"] ["self"] (au (inClass (top 40) 0)):=.of
theorem pK(F:aS K "brings" "Paper.brings" (inClass (top 40) 0) dv f fd)(T:Txt K mg)  : aI P w K mg base (bH P w) 1 f fd ["self"] (c7 1 dQ) :=
 F.eJ kn λ_ _ _ _ _ _ hr O=>by
 unfold dN;have:=kn.nd;have T2:=T;cases T2
 walk_at "pp"
theorem o6:aw ["self", "pulls"] ["self", "pulls"] (au (inClass (top 41) 0)):=.of
theorem w4(F:aS K "__init__" "Way.__init__" (inClass (top 41) 0) dv f fd)(T:Txt K mg)  : aI P w K mg base (bH P w) 1 f fd ["self", "pulls"] (Ea 2 bf mq) :=
 F.LI o6 (by decide) λ_ _ _ _ _ _ hr O=>by
 unfold mK;have:=o6.nd;have T2:=T;cases T2
 walk_at "pp"
 refine(jW (i:=0) rfl (by first | exact .inl rfl | exact .inr (.inl rfl)) T.GX T.oZ ?_)
 walk_at "pp"
theorem mn:aw ["self"] ["self"] (au (inClass (top 41) 1)):=.of
theorem sT(F:aS K "brings" "Way.brings" (inClass (top 41) 1) dv f fd)(T:Txt K mg)  : aI P w K mg base (bH P w) 1 f fd ["self"] (c7 1 e_) :=
 F.eJ mn λ_ _ _ _ _ _ hr O=>by
 unfold fD;have:=mn.nd;have T2:=T;cases T2
 walk_at "pp"
theorem mP:aw ["self"] ["self"] (au (inClass (top 41) 3)):=.of
theorem va(F:aS K "words" "Way.words" (inClass (top 41) 3) dv f fd)(T:Txt K mg)  : aI P w K mg base (bH P w) 1 f fd ["self"] (c7 1 cU) :=
 F.eJ mP λ_ _ _ _ _ _ hr O=>by
 unfold eT;have:=mP.nd;have T2:=T;cases T2
 walk_at "pp"
theorem pq:aw ["self", "weights"] ["self", "weights"] (au (inClass (top 42) 0)):=.of
theorem xC(F:aS K "__init__" "Bar.__init__" (inClass (top 42) 0) dv f fd)(T:Txt K mg)  : aI P w K mg base (bH P w) 1 f fd ["self", "weights"] (Ea 2 bg k8) :=
 F.LI pq (by decide) λ_ _ _ _ _ _ hr O=>by
 unfold mO;have:=pq.nd;have T2:=T;cases T2
 walk_at "pp"
 refine(jW (i:=0) rfl (by first | exact .inl rfl | exact .inr (.inl rfl)) T.GY T.l4 ?_)
 walk_at "pp"
theorem m_:aw ["self"] ["self"] (au (inClass (top 42) 2)):=.of
theorem vi(F:aS K "words" "Bar.words" (inClass (top 42) 2) dv f fd)(T:Txt K mg)  : aI P w K mg base (bH P w) 1 f fd ["self"] (c7 1 cV) :=
 F.eJ m_ λ_ _ _ _ _ _ hr O=>by
 unfold eX;have:=m_.nd;have T2:=T;cases T2
 walk_at "pp"
theorem kL:aw ["self", "sizes"] ["self"] (au (inClass (top 52) 1)):=.of
theorem oU:((["dial"]:List Str)++(["self", "sizes"]:List Str)).Nodup:=by decide +kernel
theorem rA(F:aS K "steps" "Rungs.steps" (inClass (top 52) 1) dv f fd)(T:Txt K mg)(N9:iV P w K mg base az 1 "sizes" 1 (ay 1 a_))(Ow:cq P w K mg base 1 "step_size" 3 (ay 4 eU)):aI P w K mg base (bH P w) 2 f fd ["self"] (c7 1 gi) :=
 F.eJ kL λ_ _ _ _ _ _ hr O=>by
 unfold f9;have:=kL.nd;have T2:=T;cases T2
 walk_at "pp"
 refine(dw (bG (g:=(aH 0)) (ts:=["dial"]) (fs:=["self", "sizes"]) (js:=[0,1]) rfl rfl rfl rfl rfl rfl (.cons rfl (.cons rfl .nil)) (.cons rfl rfl (by walk_at "l") rfl rfl (.cons rfl rfl (by walk_at "l") rfl rfl .nil)) (fM (by rfl) T.fG ?_) iG (λ_ _ _ _ _=>(aK (i:=0) oU)) (λ_=>bp) cn (λ_ _ _ _ _=>?_)))
 walk_at "pp"
theorem uh:aw ["vault"] ["vault"] (au (top 29)):=.of
theorem A9(F:aS K "nought" "nought" (top 29) dv f fd)(T:Txt K mg)(N9:iV P w K mg base az 1 "sizes" 1 (ay 1 a_)):aI P w K mg base (bH P w) 2 f fd ["vault"] (c7 1 jF) :=
 F.eJ uh λ_ _ _ _ _ _ hr O=>by
 unfold kW;have:=uh.nd;have T2:=T;cases T2
 walk_at "pp"
theorem l5:aw ["vault", "thing", "sizes"] ["vault", "thing"] (au (top 30)):=.of
theorem kq:((["notch", "size"]:List Str)++([]:List Str)).Nodup:=by decide +kernel
theorem sj(F:aS K "is_setting" "is_setting" (top 30) dv f fd)(T:Txt K mg)(N9:iV P w K mg base az 1 "sizes" 1 (ay 1 a_))(ON:cq P w K mg base 2 "is_row" 2 (ay 2 jK)):aI P w K mg base (bH P w) 3 f fd ["vault", "thing"] (c7 2 aW) :=
 F.eJ l5 λ_ _ _ _ _ _ hr O=>by
 unfold cX;have:=l5.nd;have T2:=T;cases T2
 walk_at "pp"
 refine(iA ?_ (gD ?_)).pt
 walk_at "pp"
 refine(jt (T := "tuple") (by rfl) T.aX (eM (v:=.ty "tuple") (by rfl) T.lE jx rfl) (by decide) jo jo ?_)
 walk_at "pp"
 refine(dw (bG (g:=(iU K 2 (bc (aH 0) (bc (aH 1) iT)))) (ts:=["notch", "size"]) (fs:=[]) (js:=[]) (cl:=[]) rfl rfl rfl rfl rfl rfl .nil .nil (gI (by rfl) T.iD ?_) eH (λ_ _ _ _ _=>(c_ (n:=2) rfl (aG (aK (i:=0) kq) (aG (aK (i:=1) kq) bW)))) (λ_=>cx) c6 (λ_ _ _ _ _=>?_)))
 walk_at "pp"
 refine(xx tR oI zQ uA ?_ ?_ ?_)
 walk_at "pp"
theorem pk:aw ["vault", "thing"] ["vault", "thing"] (au (top 31)):=.of
theorem xg(F:aS K "is_pulls" "is_pulls" (top 31) dv f fd)(T:Txt K mg)(Oa:iV P w K mg base az 1 "levers" 1 (ay 1 bh))(ON:cq P w K mg base 2 "is_row" 2 (ay 2 jK)):aI P w K mg base (bH P w) 3 f fd ["vault", "thing"] (c7 2 iz) :=
 F.eJ pk λ_ _ _ _ _ _ hr O=>by
 unfold iK;have:=pk.nd;have T2:=T;cases T2
 walk_at "pp"
 refine(u4 ?_ (vc ?_))
 walk_at "pp"
 refine(jt (T := "tuple") (by rfl) T.aX (eM (v:=.ty "tuple") (by rfl) T.lE jx rfl) (by decide) jo jo ?_)
 walk_at "pp"
theorem kB:aw ["vault", "thing"] ["vault", "thing"] (au (top 32)):=.of
theorem pS(F:aS K "need_setting" "need_setting" (top 32) dv f fd)(T:Txt K mg)(OG:cq P w K mg base 3 "is_setting" 2 (ay 3 cX)):aI P w K mg base (bH P w) 4 f fd ["vault", "thing"] (c7 2 aR) :=
 F.eJ kB λ_ _ _ _ _ _ hr O=>by
 unfold bB;have:=kB.nd;have T2:=T;cases T2
 walk_at "pp"
theorem mj:aw ["vault", "thing"] ["vault", "thing"] (au (top 33)):=.of
theorem sF(F:aS K "need_pulls" "need_pulls" (top 33) dv f fd)(T:Txt K mg)(OP:cq P w K mg base 3 "is_pulls" 2 (ay 2 iK)):aI P w K mg base (bH P w) 4 f fd ["vault", "thing"] (c7 2 hU) :=
 F.eJ mj λ_ _ _ _ _ _ hr O=>by
 unfold ib;have:=mj.nd;have T2:=T;cases T2
 walk_at "pp"
theorem rK:aw ["vault", "setting", "other", "times", "numbers"] ["vault", "setting", "other", "times"] (au (top 34)):=.of
theorem qa:((["notch", "turn"]:List Str)++(["times"]:List Str)).Nodup:=by decide +kernel
theorem C6(F:aS K "added" "added" (top 34) dv f fd)(T:Txt K mg)(N9:iV P w K mg base az 1 "sizes" 1 (ay 1 a_))(O8:cq P w K mg base 1 "rests" 2 (ay 2 lR)):aI P w K mg base (bH P w) 2 f fd ["vault", "setting", "other", "times"] (c7 4 mT) :=
 F.eJ rK λ_ _ _ _ _ _ hr O=>by
 unfold nQ;have:=rK.nd;have T2:=T;cases T2
 walk_at "pp"
 refine(vd (i:=4) (g:=(iU K 2 (bc (aH 0) (bc (aH 1) iT)))) (ts:=["notch", "turn"]) (fs:=["times"]) (js:=[3]) rfl rfl rfl rfl rfl rfl (.cons rfl .nil) (.cons rfl rfl (by walk_at "l") rfl rfl .nil) (gI (by rfl) T.iD ?_) eH (λ_ _ _ _ _=>(c_ (n:=2) rfl (aG (aK (i:=0) qa) (aG (aK (i:=1) qa) bW)))) (λ_=>cx) c6 (λ_ _ _ _ _=>?_) rK.nd rfl (by walk_at "l"))
 walk_at "pp"
theorem lC:aw ["vault", "setting", "pulls", "reached", "lever", "times"] ["vault", "setting", "pulls"] (au (top 35)):=.of
theorem Ac(F:aS K "turned" "turned" (top 35) dv f fd)(T:Txt K mg)(Od:cq P w K mg base 4 "need_setting" 2 (ay 2 bB))(Pr:cq P w K mg base 4 "need_pulls" 2 (ay 2 ib))(Oa:iV P w K mg base az 1 "levers" 1 (ay 1 bh))(PM:cq P w K mg base 2 "added" 4 (ay 5 nQ)):aI P w K mg base (bH P w) 5 f fd ["vault", "setting", "pulls"] (c7 3 kJ) :=
 F.eJ lC λ_ _ _ _ _ _ hr O=>by
 unfold nL;have:=lC.nd;have T2:=T;cases T2
 walk_at "pp"
 refine(bA (g:=(iU K 2 (bc (aH 4) (bc (aH 5) iT)))) O rfl (gI (by rfl) T.iD ?_) eH (c_ (n:=2) rfl (aG (aK (i:=4) lC.nd) (aG (aK (i:=5) lC.nd) bW))) cx ?_)
 walk_at "pp"
theorem rj:aw ["vault", "one", "other"] ["vault", "one", "other"] (au (top 36)):=.of
theorem yh(F:aS K "between" "between" (top 36) dv f fd)(T:Txt K mg)(Od:cq P w K mg base 4 "need_setting" 2 (ay 2 bB))(PM:cq P w K mg base 2 "added" 4 (ay 5 nQ)):aI P w K mg base (bH P w) 5 f fd ["vault", "one", "other"] (c7 3 dS) :=
 F.eJ rj λ_ _ _ _ _ _ hr O=>by
 unfold fX;have:=rj.nd;have T2:=T;cases T2
 walk_at "pp"
theorem rL:aw ["vault", "weights", "setting", "around", "worths"] ["vault", "weights", "setting"] (au (top 38)):=.of
theorem rg:((["weight", "size"]:List Str)++(["around"]:List Str)).Nodup:=by decide +kernel
theorem Dt(F:aS K "weigh" "weigh" (top 38) dv f fd)(T:Txt K mg)(Od:cq P w K mg base 4 "need_setting" 2 (ay 2 bB))(Ox:iV P w K mg base az 1 "around" 1 (ay 1 dP))(N9:iV P w K mg base az 1 "sizes" 1 (ay 1 a_))(P4:cq P w K mg base 1 "rest_sum" 3 (ay 3 jR)):aI P w K mg base (bH P w) 5 f fd ["vault", "weights", "setting"] (c7 3 ke) :=
 F.eJ rL λ_ _ _ _ _ _ hr O=>by
 unfold lS;have:=rL.nd;have T2:=T;cases T2
 walk_at "pp"
 refine(vd (i:=4) (g:=(iU K 2 (bc (aH 0) (bc (aH 1) iT)))) (ts:=["weight", "size"]) (fs:=["around"]) (js:=[3]) rfl rfl rfl rfl rfl rfl (.cons rfl .nil) (.cons rfl rfl (by walk_at "l") rfl rfl .nil) (gI (by rfl) T.iD ?_) eH (λ_ _ _ _ _=>(c_ (n:=2) rfl (aG (aK (i:=0) rg) (aG (aK (i:=1) rg) bW)))) (λ_=>cx) c6 (λ_ _ _ _ _=>?_) rL.nd rfl (by walk_at "l"))
 walk_at "pp"
theorem ix:aw ["vault", "weights"] ["vault", "weights"] (au (top 39)):=.of
theorem k4:((["lever"]:List Str)++(["vault", "weights"]:List Str)).Nodup:=by decide +kernel
theorem mE(F:aS K "weighs_no_lever" "weighs_no_lever" (top 39) dv f fd)(T:Txt K mg)(Oa:iV P w K mg base az 1 "levers" 1 (ay 1 bh))(O9:cq P w K mg base 5 "weigh" 3 (ay 5 lS)):aI P w K mg base (bH P w) 6 f fd ["vault", "weights"] (c7 2 dz) :=
 F.eJ ix λ_ _ _ _ _ _ hr O=>by
 unfold dD;have:=ix.nd;have T2:=T;cases T2
 walk_at "pp"
 refine(dw (bG (g:=(aH 0)) (ts:=["lever"]) (fs:=["vault", "weights"]) (js:=[0,1]) rfl rfl rfl rfl rfl rfl (.cons rfl (.cons rfl .nil)) (.cons rfl rfl (by walk_at "l") rfl rfl (.cons rfl rfl (by walk_at "l") rfl rfl .nil)) (eQ ?_) cZ (λ_ _ _ _ _=>(aK (i:=0) k4)) (λ_=>bp) cn (λ_ _ _ _ _=>?_)))
 walk_at "pp"
theorem o5:aw ["vault", "setting"] ["vault", "setting"] (au (top 46)):=.of
theorem xa(F:aS K "unpulled" "unpulled" (top 46) dv f fd)(T:Txt K mg)(Oa:iV P w K mg base az 1 "levers" 1 (ay 1 bh)):aI P w K mg base (bH P w) 2 f fd ["vault", "setting"] (c7 2 fV) :=
 F.eJ o5 λ_ _ _ _ _ _ hr O=>by
 unfold iw;have:=o5.nd;have T2:=T;cases T2
 walk_at "pp"
theorem lp:aw ["vault", "lever", "levers"] ["vault", "lever"] (au (top 47)):=.of
theorem r_(F:aS K "pulled_once" "pulled_once" (top 47) dv f fd)(T:Txt K mg)(Oa:iV P w K mg base az 1 "levers" 1 (ay 1 bh))(P6:cq P w K mg base 1 "unit_row" 2 (ay 2 jU)):aI P w K mg base (bH P w) 2 f fd ["vault", "lever"] (c7 2 gm) :=
 F.eJ lp λ_ _ _ _ _ _ hr O=>by
 unfold f6;have:=lp.nd;have T2:=T;cases T2
 walk_at "pp"
theorem fW:aw ["_law_paper", "_law_sizes_here", "_law_levers_here", "_law_one", "_law_other", "_law_pulls_here", "_law_times"] ["_law_paper", "_law_sizes_here", "_law_levers_here", "_law_one", "_law_other"] (au (top 69)):=.of
theorem oN(F:aS K "_law_way_good" "_law_way_good" (top 69) dv f fd)(T:Txt K mg)(OE:iV P w K mg base bf 1 "brings" 1 (ay 1 fD))(OC:iV P w K mg base bg 1 "brings" 1 (ay 1 dN))(Ou:iV P w K mg base bf 1 "words" 1 (ay 1 eT))(Ot:iV P w K mg base bg 1 "words" 1 (ay 1 eX))(Oy:cq P w K mg base 2 "_law_turned" 4 (ay 7 dm)):aI P w K mg base (bH P w) 3 f fd ["_law_paper", "_law_sizes_here", "_law_levers_here", "_law_one", "_law_other"] (c7 5 eE) :=
 F.eJ fW λ_ _ _ _ _ _ hr O=>by
 unfold eG;have:=fW.nd;have T2:=T;cases T2
 walk_at "pp"
 refine(iA ?_ (iA ?_ (gD ?_))).pt
 walk_at "pp"
 refine(jt (T := "tuple") (by rfl) T.aX (eM (v:=.ty "tuple") (by rfl) T.lE jx rfl) (by decide) jo jo ?_)
 walk_at "pp"
 refine(T.k8.is (by rfl) T.aX (by rfl) ?_)
 walk_at "pp"
 refine(bA (g:=(aH 6)) O rfl (eQ ?_) cZ (aK (i:=6) fW.nd) bp ?_)
 walk_at "pp"
 refine(iA ?_ (iA ?_ (gD ?_))).pt
 walk_at "pp"
 refine(jt (T := "int") (by rfl) T.aX (eM (v:=.ty "int") (by rfl) T.zF vm rfl) (by decide) jo jo ?_)
 walk_at "pp"
 refine(jt (T := "bool") (by rfl) T.aX (eM (v:=.ty "bool") (by rfl) T.vy vB rfl) (by decide) jo jo ?_)
 walk_at "pp"
 refine(iA ?_ (gD ?_)).pt
 walk_at "pp"
theorem cQ:aw ["_law_paper", "_law_sizes_here", "_law_levers_here", "_law_one", "_law_other", "_law_weights", "_law_weight", "_law_size", "_law_row"] ["_law_paper", "_law_sizes_here", "_law_levers_here", "_law_one", "_law_other"] (au (top 70)):=.of
theorem oa(F:aS K "_law_bar_good" "_law_bar_good" (top 70) dv f fd)(T:Txt K mg)(O3:cq P w K mg base 2 "_law_weighed" 3 (ay 8 fy))(OE:iV P w K mg base bf 1 "brings" 1 (ay 1 fD))(OC:iV P w K mg base bg 1 "brings" 1 (ay 1 dN))(Ou:iV P w K mg base bf 1 "words" 1 (ay 1 eT))(Ot:iV P w K mg base bg 1 "words" 1 (ay 1 eX))(Oi:cq P w K mg base 1 "_law_added" 4 (ay 4 cy)):aI P w K mg base (bH P w) 3 f fd ["_law_paper", "_law_sizes_here", "_law_levers_here", "_law_one", "_law_other"] (c7 5 eK) :=
 F.eJ cQ λ_ _ _ _ _ _ hr O=>by
 unfold eD;have:=cQ.nd;have T2:=T;cases T2
 walk_at "pp"
 refine(iA ?_ (gD ?_)).pt
 walk_at "pp"
 refine(jt (T := "tuple") (by rfl) T.aX (eM (v:=.ty "tuple") (by rfl) T.lE jx rfl) (by decide) jo jo ?_)
 walk_at "pp"
 refine(bA (g:=(iU K 2 (bc (aH 6) (bc (aH 7) iT)))) O rfl (gI (by rfl) T.iD ?_) eH (c_ (n:=2) rfl (aG (aK (i:=6) cQ.nd) (aG (aK (i:=7) cQ.nd) bW))) cx ?_)
 walk_at "pp"
 refine(iA ?_ (iA ?_ (gD ?_))).pt
 walk_at "pp"
 refine(jt (T := "int") (by rfl) T.aX (eM (v:=.ty "int") (by rfl) T.zF vm rfl) (by decide) jo jo ?_)
 walk_at "pp"
 refine(jt (T := "bool") (by rfl) T.aX (eM (v:=.ty "bool") (by rfl) T.vy vB rfl) (by decide) jo jo ?_)
 walk_at "pp"
 refine(B0 tR oI zQ uA ?_ ?_ ?_)
 walk_at "pp"
 refine(bA (g:=(aH 8)) O rfl (eQ ?_) cZ (aK (i:=8) cQ.nd) bp ?_)
 walk_at "pp"
 refine(iA ?_ (gD ?_)).pt
 walk_at "pp"
theorem nN:aw ["self", "vault", "one", "other"] ["self", "vault", "one", "other"] (au (inClass (top 41) 2)):=.of
theorem vG(F:aS K "shows" "Way.shows" (inClass (top 41) 2) dv f fd)(T:Txt K mg)(Od:cq P w K mg base 4 "need_setting" 2 (ay 2 bB))(OP:cq P w K mg base 3 "is_pulls" 2 (ay 2 iK))(Qh:cq P w K mg base 5 "turned" 3 (ay 6 nL)):aI P w K mg base (bH P w) 6 f fd ["self", "vault", "one", "other"] (c7 4 i6) :=
 F.eJ nN λ_ _ _ _ _ _ hr O=>by
 unfold jb;have:=nN.nd;have T2:=T;cases T2
 walk_at "pp"
 refine(u4 ?_ (vc ?_))
 walk_at "pp"
theorem nr:aw ["self", "vault", "one", "other", "difference"] ["self", "vault", "one", "other"] (au (inClass (top 42) 1)):=.of
theorem vH(F:aS K "shows" "Bar.shows" (inClass (top 42) 1) dv f fd)(T:Txt K mg)(O5:cq P w K mg base 5 "between" 3 (ay 3 fX))(OG:cq P w K mg base 3 "is_setting" 2 (ay 3 cX))(OK:cq P w K mg base 6 "weighs_no_lever" 2 (ay 2 dD))(O9:cq P w K mg base 5 "weigh" 3 (ay 5 lS)):aI P w K mg base (bH P w) 7 f fd ["self", "vault", "one", "other"] (c7 4 i9) :=
 F.eJ nr λ_ _ _ _ _ _ hr O=>by
 unfold i4;have:=nr.nd;have T2:=T;cases T2
 walk_at "pp"
 refine(iA ?_ (gD ?_)).pt
 walk_at "pp"
theorem ju:aw ["self", "vault", "sizes", "made_rows", "idle_rows", "lever", "taken"] ["self", "vault"] (au (inClass (top 52) 0)):=.of
theorem pR:((["size"]:List Str)++(["vault"]:List Str)).Nodup:=by decide +kernel
theorem kr:((["dial", "made"]:List Str)++(["sizes", "made_rows"]:List Str)).Nodup:=by decide +kernel
theorem sV(F:aS K "__init__" "Rungs.__init__" (inClass (top 52) 0) dv f fd)(T:Txt K mg)(N9:iV P w K mg base az 1 "sizes" 1 (ay 1 a_))(Pu:cq P w K mg base 2 "nought" 1 (ay 1 kW))(OR:cq P w K mg base 2 "unpulled" 2 (ay 2 iw))(Oa:iV P w K mg base az 1 "levers" 1 (ay 1 bh))(Pg:cq P w K mg base 2 "pulled_once" 2 (ay 3 f6))(P5:cq P w K mg base 3 "taken_in" 3 (ay 9 jT))(OO:cq P w K mg base 2 "in_spans" 2 (ay 4 iu))(O7:cq P w K mg base 3 "lowered" 4 (ay 6 jL)):aI P w K mg base (bH P w) 4 f fd ["self", "vault"] (Ea 2 aB gb) :=
 F.LI ju (by decide) λ_ _ _ _ _ _ hr O=>by
 unfold j0;have:=ju.nd;have T2:=T;cases T2
 walk_at "pp"
 refine(dw (bG (g:=(aH 0)) (ts:=["size"]) (fs:=["vault"]) (js:=[1]) rfl rfl rfl rfl rfl rfl (.cons rfl .nil) (.cons rfl rfl (by walk_at "l") rfl rfl .nil) (eQ ?_) cZ (λ_ _ _ _ _=>(aK (i:=0) pR)) (λ_=>bp) cn (λ_ _ _ _ _=>?_)))
 walk_at "pp"
 refine(bA (g:=(aH 5)) O rfl (fM (by rfl) T.fG ?_) iG (aK (i:=5) ju.nd) bp ?_)
 walk_at "pp"
 refine(zP 4 ?_)
 walk_at "pp"
 refine(jW (i:=0) rfl (by first | exact .inl rfl | exact .inr (.inl rfl)) T.pZ T.l8 ?_)
 walk_at "pp"
 refine(jW (i:=0) rfl (by first | exact .inl rfl | exact .inr (.inl rfl)) T.pZ T.i_ ?_)
 walk_at "pp"
 refine(dw (bG (g:=(iU K 2 (bc (aH 0) (bc (aH 1) iT)))) (ts:=["dial", "made"]) (fs:=["sizes", "made_rows"]) (js:=[2,3]) rfl rfl rfl rfl rfl rfl (.cons rfl (.cons rfl .nil)) (.cons rfl rfl (by walk_at "l") rfl rfl (.cons rfl rfl (by walk_at "l") rfl rfl .nil)) (qx (by rfl) T.eW ?_) mU (λ_ _ _ _ _=>(c_ (n:=2) rfl (aG (aK (i:=0) kr) (aG (aK (i:=1) kr) bW)))) (λ_=>cx) c6 (λ_ _ _ _ _=>?_)))
 walk_at "pp"
 refine(jW (i:=0) rfl (by first | exact .inl rfl | exact .inr (.inl rfl)) T.pZ T.iZ ?_)
 walk_at "pp"
theorem fH:aw ["self", "setting"] ["self", "setting"] (au (inClass (top 52) 5)):=.of
theorem kF(F:aS K "brought_down" "Rungs.brought_down" (inClass (top 52) 5) dv f fd)(T:Txt K mg)(Od:cq P w K mg base 4 "need_setting" 2 (ay 2 bB))(OR:cq P w K mg base 2 "unpulled" 2 (ay 2 iw))(N9:iV P w K mg base az 1 "sizes" 1 (ay 1 a_))(O7:cq P w K mg base 3 "lowered" 4 (ay 6 jL)):aI P w K mg base (bH P w) 5 f fd ["self", "setting"] (c7 2 br) :=
 F.eJ fH λ_ _ _ _ _ _ hr O=>by
 unfold bM;have:=fH.nd;have T2:=T;cases T2
 walk_at "pp"
theorem lh:aw ["self", "setting"] ["self", "setting"] (au (inClass (top 52) 6)):=.of
theorem rD(F:aS K "least" "Rungs.least" (inClass (top 52) 6) dv f fd)(T:Txt K mg)(Oh:iV P w K mg base aB 5 "brought_down" 2 (ay 2 bM)):aI P w K mg base (bH P w) 6 f fd ["self", "setting"] (c7 2 gk) :=
 F.eJ lh λ_ _ _ _ _ _ hr O=>by
 unfold fY;have:=lh.nd;have T2:=T;cases T2
 walk_at "pp"
theorem iY:aw ["self", "setting", "made"] ["self", "setting"] (au (inClass (top 52) 7)):=.of
theorem lW:((["times"]:List Str)++([]:List Str)).Nodup:=by decide +kernel
theorem mV(F:aS K "pulls_to" "Rungs.pulls_to" (inClass (top 52) 7) dv f fd)(T:Txt K mg)(Oh:iV P w K mg base aB 5 "brought_down" 2 (ay 2 bM))(Pu:cq P w K mg base 2 "nought" 1 (ay 1 kW))(OO:cq P w K mg base 2 "in_spans" 2 (ay 4 iu)):aI P w K mg base (bH P w) 6 f fd ["self", "setting"] (c7 2 bJ) :=
 F.eJ iY λ_ _ _ _ _ _ hr O=>by
 unfold bZ;have:=iY.nd;have T2:=T;cases T2
 walk_at "pp"
 refine(dw (bG (g:=(aH 0)) (ts:=["times"]) (fs:=[]) (js:=[]) (cl:=[]) rfl rfl rfl rfl rfl rfl .nil .nil (eQ ?_) cZ (λ_ _ _ _ _=>(aK (i:=0) lW)) (λ_=>bp) cn (λ_ _ _ _ _=>?_)))
 walk_at "pp"
theorem cM:aw ["self", "dial", "sizes", "fills", "weights", "ahead", "weighed", "share"] ["self", "dial"] (au (inClass (top 52) 8)):=.of
theorem fI:((["size", "step"]:List Str)++([]:List Str)).Nodup:=by decide +kernel
theorem lY(F:aS K "weights_at" "Rungs.weights_at" (inClass (top 52) 8) dv f fd)(T:Txt K mg)(N9:iV P w K mg base az 1 "sizes" 1 (ay 1 a_))(Ov:cq P w K mg base 2 "is_within" 3 (ay 3 eY))(Px:sR P w K mg base fm "NoDial" "dial")(Pc:iV P w K mg base aB 2 "steps" 1 (ay 2 f9))(O9:cq P w K mg base 5 "weigh" 3 (ay 5 lS))(Ox:iV P w K mg base az 1 "around" 1 (ay 1 dP)):aI P w K mg base (bH P w) 6 f fd ["self", "dial"] (c7 2 c9) :=
 F.eJ cM λ_ _ _ _ _ _ hr O=>by
 unfold cY;have:=cM.nd;have T2:=T;cases T2
 walk_at "pp"
 refine(vd (i:=3) (g:=(iU K 2 (bc (aH 0) (bc (aH 1) iT)))) (ts:=["size", "step"]) (fs:=[]) (js:=[]) (cl:=[]) rfl rfl rfl rfl rfl rfl .nil .nil (gI (by rfl) T.iD ?_) eH (λ_ _ _ _ _=>(c_ (n:=2) rfl (aG (aK (i:=0) fI) (aG (aK (i:=1) fI) bW)))) (λ_=>cx) c6 (λ_ _ _ _ _=>?_) cM.nd rfl (by walk_at "l"))
 walk_at "pp"
 refine(Hm ?_ ?_)
 walk_at "pp"
 refine(Gj (i:=4) rfl (by first | exact .inl rfl | exact .inr (.inl rfl)) ?_ ?_)
 walk_at "pp"
 refine(bA (g:=(aH 5)) O rfl (t7 (by rfl) T.fG ?_) vT (aK (i:=5) cM.nd) bp ?_)
 walk_at "pp"
 refine(zP 4 ?_)
 walk_at "pp"
 refine(Gj (i:=4) rfl (by first | exact .inl rfl | exact .inr (.inl rfl)) ?_ ?_)
 walk_at "pp"
theorem wC:aw ["vault", "one", "other", "difference", "rungs", "pulls"] ["vault", "one", "other"] (au (top 54)):=.of
theorem DT(F:aS K "bring" "bring" (top 54) dv f fd)(T:Txt K mg)(O5:cq P w K mg base 5 "between" 3 (ay 3 fX))(OD:Bl P w K mg base aB 4 "Rungs" 2 [] gb)(Oo:iV P w K mg base aB 6 "pulls_to" 2 (ay 3 bZ))(P2:Bl P w K mg base bf 1 "Way" 2 [] mq)(OI:iV P w K mg base aB 6 "weights_at" 2 (ay 8 cY))(Pa:iV P w K mg base aB 6 "least" 2 (ay 2 fY))(O4:cq P w K mg base 1 "first_turned" 1 (ay 1 fF))(P1:Bl P w K mg base bg 1 "Bar" 2 [] k8):aI P w K mg base (bH P w) 7 f fd ["vault", "one", "other"] (c7 3 c8) :=
 F.eJ wC λ_ _ _ _ _ _ hr O=>by
 unfold gU;have:=wC.nd;have T2:=T;cases T2
 walk_at "pp"
theorem fv:aw ["_law_vault", "_law_rungs", "_law_one", "_law_other", "_law_sizes_here", "_law_levers_here", "_law_paper"] ["_law_vault", "_law_rungs", "_law_one", "_law_other"] (au (top 71)):=.of
theorem mX(F:aS K "_law_one_paper" "_law_one_paper" (top 71) dv f fd)(T:Txt K mg)(Oa:iV P w K mg base az 1 "levers" 1 (ay 1 bh))(N9:iV P w K mg base az 1 "sizes" 1 (ay 1 a_))(O6:cq P w K mg base 7 "bring" 3 (ay 6 gU))(PC:iV P w K mg base bf 6 "shows" 4 (ay 4 jb))(PB:iV P w K mg base bg 7 "shows" 4 (ay 5 i4))(OT:cq P w K mg base 3 "_law_way_good" 5 (ay 7 eG))(Oo:iV P w K mg base aB 6 "pulls_to" 2 (ay 3 bZ))(Oi:cq P w K mg base 1 "_law_added" 4 (ay 4 cy))(OS:cq P w K mg base 3 "_law_bar_good" 5 (ay 9 eD)):aI P w K mg base (bH P w) 8 f fd ["_law_vault", "_law_rungs", "_law_one", "_law_other"] (c7 4 bY) :=
 F.eJ fv λ_ _ _ _ _ _ hr O=>by
 unfold cO;have:=fv.nd;have T2:=T;cases T2
 walk_at "pp"
 refine(yA (i:=4) (j:=5) rfl fv.nd rfl rfl (by decide) rfl rfl ?_ ?_)
 walk_at "pp"
 exact rfl
 walk_at "pp"
 refine(T.mq.is (by rfl) T.aX (by rfl) ?_)
 walk_at "pp"
 refine(Bw ?_ (zv ?_)).pt
 walk_at "pp"
 refine(T.k8.is (by rfl) T.aX (by rfl) ?_)
 walk_at "pp"
theorem kl:aw ["_law_vault", "_law_one", "_law_other"] ["_law_vault", "_law_one", "_law_other"] (au (top 72)):=.of
theorem pX(F:aS K "_law_refused" "_law_refused" (top 72) dv f fd)(T:Txt K mg)(O6:cq P w K mg base 7 "bring" 3 (ay 6 gU)):aI P w K mg base (bH P w) 8 f fd ["_law_vault", "_law_one", "_law_other"] (c7 3 dI) :=
 F.eJ kl λ_ _ _ _ _ _ hr O=>by
 unfold fj;have:=kl.nd;have T2:=T;cases T2
 walk_at "pp"
 refine(HS rfl rfl (λpn E2 O2=>(Fc ?_)) (.GC (by rfl) T.kP.mg (by decide) T.kP.ok (λea=>?_) .nil))
 walk_at "pp"
theorem uP:aw ["_law_script", "_law_sizes_here", "_law_levers_here", "_law_vault", "_law_rungs", "_law_k", "_law_cell_here", "_law_one", "_law_other", "_law_found", "_law_told", "_law_bad"] ["_law_script"] (au (top 73)):=.of
theorem Dw:((["_law_dial"]:List Str)++(["_law_sizes_here", "_law_cell_here"]:List Str)).Nodup:=by decide +kernel
theorem Ib(F:aS K "law" "law" (top 73) dv f fd)(T:Txt K mg)(OJ:cq P w K mg base 1 "_law_cell" 2 (ay 2 gA))(Pp:cq P w K mg base 2 "_law_sizes" 1 (ay 4 gZ))(Pd:cq P w K mg base 3 "_law_levers" 2 (ay 5 fZ))(Pk:Bl P w K mg base az 4 "Vault" 4 [.b_] eO)(OD:Bl P w K mg base aB 4 "Rungs" 2 [] gb)(O1:cq P w K mg base 2 "_law_setting" 2 (ay 2 fx))(Pn:cq P w K mg base 2 "_law_pulls" 2 (ay 4 gX))(Oy:cq P w K mg base 2 "_law_turned" 4 (ay 7 dm))(Oi:cq P w K mg base 1 "_law_added" 4 (ay 4 cy))(OM:cq P w K mg base 8 "_law_one_paper" 4 (ay 7 cO))(Ou:iV P w K mg base bf 1 "words" 1 (ay 1 eT))(Ot:iV P w K mg base bg 1 "words" 1 (ay 1 eX))(O6:cq P w K mg base 7 "bring" 3 (ay 6 gU))(O0:cq P w K mg base 8 "_law_refused" 3 (ay 3 fj)):aI P w K mg base (bH P w) 9 f fd ["_law_script"] (c7 1 tQ) :=
 F.eJ uP λ_ _ _ _ _ _ hr O=>by
 unfold DR;have:=uP.nd;have T2:=T;cases T2
 walk_at "pp"
 refine(bA (g:=(iU K 2 (bc (aH 5) (bc (aH 6) iT)))) O rfl (qx (by rfl) T.eW ?_) mU (c_ (n:=2) rfl (aG (aK (i:=5) uP.nd) (aG (aK (i:=6) uP.nd) bW))) cx ?_)
 walk_at "pp"
 refine(tJ ?_ (uM ?_) (uM ?_))
 walk_at "pp"
 refine(dw (bG (g:=(aH 0)) (ts:=["_law_dial"]) (fs:=["_law_sizes_here", "_law_cell_here"]) (js:=[1,6]) rfl rfl rfl rfl rfl rfl (.cons rfl (.cons rfl .nil)) (.cons rfl rfl (by walk_at "l") rfl rfl (.cons rfl rfl (by walk_at "l") rfl rfl .nil)) (fM (by rfl) T.fG ?_) iG (λ_ _ _ _ _=>(aK (i:=0) Dw)) (λ_=>bp) cn (λ_ _ _ _ _=>?_)))
 walk_at "pp"
 refine(iA ?_ (gD ?_)).pt
 walk_at "pp"
 refine(Bw ?_ (zv ?_)).pt
 walk_at "pp"
 refine(tJ ?_ EM (uM ?_))
 walk_at "pp"
 refine(iA ?_ (gD ?_)).pt
 walk_at "pp"
end xH
namespace xH
open PySem L2 PyProof.Rows
open PySem.W (nsIn findIn codeIn keepIn isFn mroIn specialIn takesIn hasDictIn typeIn plainGet plainOver makesIn mg_of mg_none_of fnOf excIn clsIn)
abbrev κ(w:World):PySem.W.Frag:=HD.K w.params
variable(w:World)
abbrev JV:Value:=HD.st "dialvault.wholes" 386
abbrev vI:Value:=HD.st "dialvault.vault" 434
abbrev xG:Value:=HD.st "dialvault.rungs" 763
abbrev vJ:Value:=HD.st "law_dialvault_k27_whole_one_paper" 949
abbrev D8:Value:=HD.st "dialvault.papers" 613
abbrev md5:Value:=HD.st "dialvault.errors" 194
def jg:FuncData:=fnOf "__init__" "Vault.__init__" (i7 (inClass (top 23) 0)) (gc (inClass (top 23) 0)) (au (inClass (top 23) 0)) (.ref 220) .none .none vI none (.ref 224) .none
theorem nB:aS (κ w) "__init__" "Vault.__init__" (inClass (top 23) 0) (.ref 220) 225 jg:=.of (by kernel_rfl) (by kernel_rfl) (by kernel_rfl)
def kK:FuncData:=xP "__init__" "Way.__init__" (inClass (top 41) 0) D8 403
theorem yq:aS (κ w) "__init__" "Way.__init__" (inClass (top 41) 0) .none 404 kK:=.of (by kernel_rfl) (by kernel_rfl) (by kernel_rfl)
theorem xR:Binds (κ w) kK ["self", "pulls"] []:=Binds.all (GL λ_ _=>rfl)
def kM:FuncData:=xP "__init__" "Bar.__init__" (inClass (top 42) 0) D8 443
theorem yn:aS (κ w) "__init__" "Bar.__init__" (inClass (top 42) 0) .none 444 kM:=.of (by kernel_rfl) (by kernel_rfl) (by kernel_rfl)
theorem yz:Binds (κ w) kM ["self", "weights"] []:=Binds.all (GL λ_ _=>rfl)
def jm:FuncData:=xP "__init__" "Rungs.__init__" (inClass (top 52) 0) xG 528
theorem uR:aS (κ w) "__init__" "Rungs.__init__" (inClass (top 52) 0) .none 529 jm:=.of (by kernel_rfl) (by kernel_rfl) (by kernel_rfl)
theorem uD:Binds (κ w) jm ["self", "vault"] []:=Binds.all (GL λ_ _=>rfl)
def xM:FuncData:=xP "law" "law" (top 73) vJ 713
theorem Kb:aS (κ w) "law" "law" (top 73) .none 714 xM:=.of (by kernel_rfl) (by kernel_rfl) (by kernel_rfl)
theorem yy:h_ (κ w) lT:=⟨(by kernel_rfl),(by kernel_rfl),(by kernel_rfl),(by kernel_rfl),(by kernel_rfl),(by kernel_rfl),(by kernel_rfl),(by kernel_rfl),(by kernel_rfl)⟩
theorem uY:h_ (κ w) bu:=⟨(by kernel_rfl),(by kernel_rfl),(by kernel_rfl),(by kernel_rfl),(by kernel_rfl),(by kernel_rfl),(by kernel_rfl),(by kernel_rfl),(by kernel_rfl)⟩
theorem x9:h_ (κ w) jy:=⟨(by kernel_rfl),(by kernel_rfl),(by kernel_rfl),(by kernel_rfl),(by kernel_rfl),(by kernel_rfl),(by kernel_rfl),(by kernel_rfl),(by kernel_rfl)⟩
theorem ui:h_ (κ w) fm:=⟨(by kernel_rfl),(by kernel_rfl),(by kernel_rfl),(by kernel_rfl),(by kernel_rfl),(by kernel_rfl),(by kernel_rfl),(by kernel_rfl),(by kernel_rfl)⟩
def jc:FuncData:=xP "__init__" "NoDial.__init__" (inClass (top 3) 0) md5 54
theorem L5:(κ w).lookup 55=some ⟨.type "function", none,.func jc,⟨[]⟩⟩:=by kernel_rfl
theorem MO:codeIn (κ w) (.ref 54) "NoDial.__init__" = true:=by kernel_rfl
theorem xY:Binds (κ w) jc ["self", "dial"] []:=Binds.all (GL λ_ _=>rfl)
theorem ym:aw ["self", "dial"] ["self", "dial"] (au (inClass (top 3) 0)):=.of
theorem LY:((clsIn (κ w) 65).any λcd=>gT cd.mro)=true:=by kernel_rfl
theorem MU:findIn (κ w) (.ref 65) "dial" = some none:=by kernel_rfl
theorem xZ{P:Program}{w:World}{mg:Str->Option Value}{base:Heap}:aI P w (κ w) mg base (bH P w) 1 55 jc ["self", "dial"] (AI (κ w) fm "dial") :=
 rQ (n0 := "self") (n1 := "dial") (fl := "dial") (L5 w) (MO w) ym (ui w) (LY w) (MU w) (by first | exact .inl rfl | exact .inr (.inl rfl)) (by first | exact .inl rfl | exact .inr (.inl rfl)) (by decide) (by decide) (by decide) (by decide) (λ_=>rfl)
theorem qq:h_ (κ w) ij:=⟨(by kernel_rfl),(by kernel_rfl),(by kernel_rfl),(by kernel_rfl),(by kernel_rfl),(by kernel_rfl),(by kernel_rfl),(by kernel_rfl),(by kernel_rfl)⟩
def gO:FuncData:=xP "__init__" "NoLever.__init__" (inClass (top 4) 0) md5 80
theorem Ng:(κ w).lookup 81=some ⟨.type "function", none,.func gO,⟨[]⟩⟩:=by kernel_rfl
theorem MP:codeIn (κ w) (.ref 80) "NoLever.__init__" = true:=by kernel_rfl
theorem xc:Binds (κ w) gO ["self", "lever"] []:=Binds.all (GL λ_ _=>rfl)
theorem wg:aw ["self", "lever"] ["self", "lever"] (au (inClass (top 4) 0)):=.of
theorem M9:((clsIn (κ w) 91).any λcd=>gT cd.mro)=true:=by kernel_rfl
theorem Ni:findIn (κ w) (.ref 91) "lever" = some none:=by kernel_rfl
theorem wR{P:Program}{w:World}{mg:Str->Option Value}{base:Heap}:aI P w (κ w) mg base (bH P w) 1 81 gO ["self", "lever"] (AI (κ w) ij "lever") :=
 rQ (n0 := "self") (n1 := "lever") (fl := "lever") (Ng w) (MP w) wg (qq w) (M9 w) (Ni w) (by first | exact .inl rfl | exact .inr (.inl rfl)) (by first | exact .inl rfl | exact .inr (.inl rfl)) (by decide) (by decide) (by decide) (by decide) (λ_=>rfl)
theorem qo:h_ (κ w) fK:=⟨(by kernel_rfl),(by kernel_rfl),(by kernel_rfl),(by kernel_rfl),(by kernel_rfl),(by kernel_rfl),(by kernel_rfl),(by kernel_rfl),(by kernel_rfl)⟩
def ig:FuncData:=xP "__init__" "NoPrice.__init__" (inClass (top 5) 0) md5 106
theorem MV:(κ w).lookup 107=some ⟨.type "function", none,.func ig,⟨[]⟩⟩:=by kernel_rfl
theorem M1:codeIn (κ w) (.ref 106) "NoPrice.__init__" = true:=by kernel_rfl
theorem vV:Binds (κ w) ig ["self", "lever"] []:=Binds.all (GL λ_ _=>rfl)
theorem xk:aw ["self", "lever"] ["self", "lever"] (au (inClass (top 5) 0)):=.of
theorem Nj:((clsIn (κ w) 117).any λcd=>gT cd.mro)=true:=by kernel_rfl
theorem M8:findIn (κ w) (.ref 117) "lever" = some none:=by kernel_rfl
theorem xA{P:Program}{w:World}{mg:Str->Option Value}{base:Heap}:aI P w (κ w) mg base (bH P w) 1 107 ig ["self", "lever"] (AI (κ w) fK "lever") :=
 rQ (n0 := "self") (n1 := "lever") (fl := "lever") (MV w) (M1 w) xk (qo w) (Nj w) (M8 w) (by first | exact .inl rfl | exact .inr (.inl rfl)) (by first | exact .inl rfl | exact .inr (.inl rfl)) (by decide) (by decide) (by decide) (by decide) (λ_=>rfl)
theorem oq:lq (κ w) bg:=⟨(by kernel_rfl),(by kernel_rfl),(by kernel_rfl),(by kernel_rfl)⟩
theorem er:lq (κ w) aB:=⟨(by kernel_rfl),(by kernel_rfl),(by kernel_rfl),(by kernel_rfl)⟩
theorem eB:lq (κ w) az:=⟨(by kernel_rfl),(by kernel_rfl),(by kernel_rfl),(by kernel_rfl)⟩
theorem oO:lq (κ w) bf:=⟨(by kernel_rfl),(by kernel_rfl),(by kernel_rfl),(by kernel_rfl)⟩
theorem JZ:findIn (κ w) (.ref 461) "weights" = some none:=by kernel_rfl
theorem J4:findIn (κ w) (.ref 582) "idle_rows" = some none:=by kernel_rfl
theorem J8:findIn (κ w) (.ref 582) "made_rows" = some none:=by kernel_rfl
theorem K5:findIn (κ w) (.ref 582) "vault" = some none:=by kernel_rfl
theorem Kv:findIn (κ w) (.ref 256) "dial_sizes" = some none:=by kernel_rfl
theorem K_:findIn (κ w) (.ref 256) "least_round" = some none:=by kernel_rfl
theorem Kx:findIn (κ w) (.ref 256) "lever_prices" = some none:=by kernel_rfl
theorem Lh:findIn (κ w) (.ref 256) "lever_settings" = some none:=by kernel_rfl
theorem KY:findIn (κ w) (.ref 428) "pulls" = some none:=by kernel_rfl
theorem Nl:nsIn (κ w) mainGlobals "LEAST_PRICE" = some (some (.int 1 444)):=by kernel_rfl
theorem Mp:nsIn (κ w) mainGlobals "LEAST_SIZE" = some (some (.int 2 438)):=by kernel_rfl
theorem Mw:nsIn (κ w) mainGlobals "MOST_DIALS" = some (some (.int 6 436)):=by kernel_rfl
theorem Nq:nsIn (κ w) mainGlobals "MOST_LEVERS" = some (some (.int 8 442)):=by kernel_rfl
theorem MZ:nsIn (κ w) mainGlobals "MOST_PRICE" = some (some (.int 1000 446)):=by kernel_rfl
theorem Md:nsIn (κ w) mainGlobals "MOST_SIZE" = some (some (.int 360 440)):=by kernel_rfl
theorem Mo:nsIn (κ w) mainGlobals "NoSetting" = some (some (.ref 136)):=by kernel_rfl
theorem Mc:D9 (λC=>PySem.W.exmOne (κ w) (.ref C) (.ref bu)) hZ gW=true:=by kernel_rfl
theorem Cr:qW (κ w) bg:=⟨oq w,(by kernel_rfl),(by kernel_rfl),(by kernel_rfl),(by kernel_rfl)⟩
theorem wZ:qW (κ w) aB:=⟨er w,(by kernel_rfl),(by kernel_rfl),(by kernel_rfl),(by kernel_rfl)⟩
theorem v7:qW (κ w) az:=⟨eB w,(by kernel_rfl),(by kernel_rfl),(by kernel_rfl),(by kernel_rfl)⟩
theorem Cn:qW (κ w) bf:=⟨oO w,(by kernel_rfl),(by kernel_rfl),(by kernel_rfl),(by kernel_rfl)⟩
theorem Mf:nsIn (κ w) mainGlobals "Bar" = some (some (.ref 461)):=by kernel_rfl
theorem MY:(FR.all λa=>PySem.W.kitOne (κ w) (.type a) (.ref bg)==some false)=true:=by kernel_rfl
theorem Mr:D9 (λC=>PySem.W.kitOne (κ w) (.ref C) (.ref bg)) jr jj=true:=by kernel_rfl
theorem Mg:D9 (λC=>PySem.W.kitOne (κ w) (.ref C) (.ref bg)) nZ ou=true:=by kernel_rfl
theorem Nb:nsIn (κ w) mainGlobals "Way" = some (some (.ref 428)):=by kernel_rfl
theorem MW:(FR.all λa=>PySem.W.kitOne (κ w) (.type a) (.ref bf)==some false)=true:=by kernel_rfl
theorem MK:D9 (λC=>PySem.W.kitOne (κ w) (.ref C) (.ref bf)) kb j3=true:=by kernel_rfl
theorem Ma:D9 (λC=>PySem.W.kitOne (κ w) (.ref C) (.ref bf)) rT qL=true:=by kernel_rfl
theorem Mv:(κ w).lookup 220=some (HD.tu [.none]):=by kernel_rfl
theorem uq:Binds (κ w) jg ["self", "sizes", "levers", "prices"] [.none]:=(nB w).binds (Mv w) rfl λ_ _ _ _ _ _ us hl=>by obtain⟨a,b,c,rfl⟩:=Nd (show _=3 from (by simpa using hl));exact⟨_,rfl,rfl⟩
theorem txt{w:World}{h:Heap}{mg:Str->Option Value}(X:PySem.W.Frag.In (κ w) h)(G:h.Ns mainGlobals mg):Txt (κ w) mg where
 Lq:=mg_none_of X G (by kernel_rfl)
 vy:=mg_none_of X G (by kernel_rfl)
 eW:=mg_none_of X G (by kernel_rfl)
 zF:=mg_none_of X G (by kernel_rfl)
 aX:=mg_none_of X G (by kernel_rfl)
 JX:=mg_none_of X G (by kernel_rfl)
 CU:=mg_none_of X G (by kernel_rfl)
 Gv:=mg_none_of X G (by kernel_rfl)
 fG:=mg_none_of X G (by kernel_rfl)
 Lb:=mg_none_of X G (by kernel_rfl)
 lE:=mg_none_of X G (by kernel_rfl)
 iD:=mg_none_of X G (by kernel_rfl)
 sQ:=⟨_,mg_of X G (Nl w),⟨_,rfl⟩⟩
 uB:=⟨_,mg_of X G (Mp w),⟨_,rfl⟩⟩
 vx:=⟨_,mg_of X G (Mw w),⟨_,rfl⟩⟩
 sI:=⟨_,mg_of X G (Nq w),⟨_,rfl⟩⟩
 vA:=⟨_,mg_of X G (MZ w),⟨_,rfl⟩⟩
 wF:=⟨_,mg_of X G (Md w),⟨_,rfl⟩⟩
 GY:=oq w
 pZ:=er w
 ny:=eB w
 GX:=oO w
 AD:=⟨(by kernel_rfl),yy w,(by kernel_rfl),(by kernel_rfl),mg_of X G (by kernel_rfl)⟩
 vW:=⟨(by kernel_rfl),uY w,(by kernel_rfl),(by kernel_rfl),mg_of X G (by kernel_rfl)⟩
 Au:=⟨(by kernel_rfl),x9 w,(by kernel_rfl),(by kernel_rfl),mg_of X G (by kernel_rfl)⟩
 kP:=.of (mg_of X G (Mo w)) (Mc w)
 k8:=.of (mg_of X G (Mf w)) (MY w) (Mr w) (Mg w) (Gg (Cr w) xr) (Gg (wZ w) (Gg (v7 w) (Gg (Cn w) xr))) xr xr
 mq:=.of (mg_of X G (Nb w)) (MW w) (MK w) (Ma w) (Gg (Cn w) xr) (Gg (Cr w) (Gg (wZ w) (Gg (v7 w) xr))) xr xr
 l4:=(JZ w)
 iZ:=(J4 w)
 i_:=(J8 w)
 l8:=(K5 w)
 ip:=(Kv w)
 gN:=(K_ w)
 gv:=(Kx w)
 fe:=(Lh w)
 oZ:=(KY w)
 u9:=λC h=>by obtain rfl:=eq_of_beq h;exact⟨eB w,(Kv w)⟩
 v8:=λC h=>by obtain rfl:=eq_of_beq h;exact⟨er w,(J4 w)⟩
 sx:=λC h=>by obtain rfl:=eq_of_beq h;exact⟨eB w,(K_ w)⟩
 qg:=λC h=>by obtain rfl:=eq_of_beq h;exact⟨eB w,(Kx w)⟩
 oQ:=λC h=>by obtain rfl:=eq_of_beq h;exact⟨eB w,(Lh w)⟩
 vN:=λC h=>by obtain rfl:=eq_of_beq h;exact⟨er w,(J8 w)⟩
 E4:=λC h=>by obtain rfl:=eq_of_beq h;exact⟨oO w,(KY w)⟩
 ET:=λC h=>by obtain rfl:=eq_of_beq h;exact⟨er w,(K5 w)⟩
 AU:=λC h=>by obtain rfl:=eq_of_beq h;exact⟨oq w,(JZ w)⟩
theorem Hw{P:Program}{w:World}{h:Heap}{mg:Str->Option Value}(X:PySem.W.Frag.In (κ w) h)(G:h.Ns mainGlobals mg)(base:Heap):aI P w (κ w) mg base (bH P w) 9 714 xM ["_law_script"] (c7 1 tQ):=by
 have T:=txt X G
 have Px:sR P w (κ w) mg base fm "NoDial" "dial" := ⟨⟨55,jc,["self", "dial"],(by kernel_rfl),(by kernel_rfl),xZ,xY w⟩,ui w,(by kernel_rfl),(by kernel_rfl),mg_of X G (by kernel_rfl)⟩
 have Qc:sR P w (κ w) mg base ij "NoLever" "lever" := ⟨⟨81,gO,["self", "lever"],(by kernel_rfl),(by kernel_rfl),wR,xc w⟩,qq w,(by kernel_rfl),(by kernel_rfl),mg_of X G (by kernel_rfl)⟩
 have Qd:sR P w (κ w) mg base fK "NoPrice" "lever" := ⟨⟨107,ig,["self", "lever"],(by kernel_rfl),(by kernel_rfl),xA,vV w⟩,qo w,(by kernel_rfl),(by kernel_rfl),mg_of X G (by kernel_rfl)⟩
 have OQ:=ik P w base X G 183 182 JV λD=>vS D T
 have ON:=ik P w base X G 188 187 JV λD=>AN D T OQ
 have Pq:=ik P w base X G 195 194 JV λD=>Bb D T
 have Pe:=ik P w base X G 202 201 JV λD=>qQ D T Pq
 have P6:=ik P w base X G 207 206 JV λD=>wm D T
 have P4:=ik P w base X G 212 211 JV λD=>wo D T
 have Ov:=ik P w base X G 267 266 vI λD=>vF D T OQ
 have Pt:=ik P w base X G 274 273 vI λD=>sM D T Px Ov
 have Pf:=ik P w base X G 281 280 vI λD=>qr D T ON Qc
 have Pw:=ik P w base X G 288 287 vI λD=>sD D T Qd Ov
 have O8:=ik P w base X G 293 292 vI λD=>Cb D T
 have PN:=ik P w base X G 468 467 xG λD=>De D T
 have OH:=ik P w base X G 475 474 xG λD=>sO D T PN O8
 have Ow:=ik P w base X G 496 495 xG λD=>uO D T
 have P5:=ik P w base X G 503 502 xG λD=>xt D T Ow Pq OH
 have O7:=ik P w base X G 510 509 xG λD=>yE D T Ow OH
 have OO:=ik P w base X G 517 516 xG λD=>wL D T PN
 have O4:=ik P w base X G 591 590 xG λD=>pJ D T
 have OJ:=ik P w base X G 605 604 vJ λD=>vt D T
 have Og:=ik P w base X G 612 611 vJ λD=>rZ D T
 have Of:=ik P w base X G 619 618 vJ λD=>qj D T
 have Pp:=ik P w base X G 624 623 vJ λD=>sU D T Of Og
 have OF:=ik P w base X G 631 630 vJ λD=>sN D T
 have Pm:=ik P w base X G 638 637 vJ λD=>sL D T Og OF
 have Pd:=ik P w base X G 645 644 vJ λD=>qK D T OJ Of Pm
 have Po:=ik P w base X G 652 651 vJ λD=>sP D T
 have Oi:=ik P w base X G 657 656 vJ λD=>sH D T
 have Oy:=ik P w base X G 664 663 vJ λD=>qy D T Oi
 have O3:=ik P w base X G 671 670 vJ λD=>pD D T Po
 have O1:=ik P w base X G 676 675 vJ λD=>pM D T Of Og
 have Pn:=ik P w base X G 681 680 vJ λD=>sG D T Of Og OF
 have Pk:Bl P w (κ w) mg base az 4 "Vault" 4 [.b_] eO:=⟨⟨225,jg,["self", "sizes", "levers", "prices"],[.none],[.b_],mg_of X G (by kernel_rfl),⟨(by kernel_rfl),(by kernel_rfl),(by kernel_rfl),(by kernel_rfl)⟩,uq w,(.cons rfl .nil),λ_=>(.cons .b_ .nil),sJ (nB w) T Pt Pf O8 Pw Pe⟩⟩
 have N9:=yr P w base (eB w) 232 231 vI λD=>qb D T
 have Oa:=yr P w base (eB w) 239 238 vI λD=>pG D T
 have QW:=yr P w base (eB w) 246 245 vI λD=>pI D T
 have Ox:=yr P w base (eB w) 253 252 vI λD=>pE D T
 have OC:=yr P w base (oq w) 369 368 D8 λD=>pK D T
 have P2:Bl P w (κ w) mg base bf 1 "Way" 2 [] mq:=⟨⟨404,kK,["self", "pulls"],[],[],mg_of X G (by kernel_rfl),⟨(by kernel_rfl),(by kernel_rfl),(by kernel_rfl),(by kernel_rfl)⟩,xR w,.nil,λ_=>.nil,w4 (yq w) T ⟩⟩
 have OE:=yr P w base (oO w) 411 410 D8 λD=>sT D T
 have Ou:=yr P w base (oO w) 425 424 D8 λD=>va D T
 have P1:Bl P w (κ w) mg base bg 1 "Bar" 2 [] k8:=⟨⟨444,kM,["self", "weights"],[],[],mg_of X G (by kernel_rfl),⟨(by kernel_rfl),(by kernel_rfl),(by kernel_rfl),(by kernel_rfl)⟩,yz w,.nil,λ_=>.nil,xC (yn w) T ⟩⟩
 have Ot:=yr P w base (oq w) 458 457 D8 λD=>vi D T
 have Pc:=yr P w base (er w) 534 533 xG λD=>rA D T N9 Ow
 have Pu:=ik P w base X G 300 299 vI λD=>A9 D T N9
 have OG:=ik P w base X G 305 304 vI λD=>sj D T N9 ON
 have OP:=ik P w base X G 312 311 vI λD=>xg D T Oa ON
 have Od:=ik P w base X G 319 318 vI λD=>pS D T OG
 have Pr:=ik P w base X G 326 325 vI λD=>sF D T OP
 have PM:=ik P w base X G 331 330 vI λD=>C6 D T N9 O8
 have Qh:=ik P w base X G 338 337 vI λD=>Ac D T Od Pr Oa PM
 have O5:=ik P w base X G 345 344 vI λD=>yh D T Od PM
 have O9:=ik P w base X G 350 349 D8 λD=>Dt D T Od Ox N9 P4
 have OK:=ik P w base X G 355 354 D8 λD=>mE D T Oa O9
 have OR:=ik P w base X G 482 481 xG λD=>xa D T Oa
 have Pg:=ik P w base X G 489 488 xG λD=>r_ D T Oa P6
 have OT:=ik P w base X G 688 687 vJ λD=>oN D T OE OC Ou Ot Oy
 have OS:=ik P w base X G 695 694 vJ λD=>oa D T O3 OE OC Ou Ot Oi
 have PC:=yr P w base (oO w) 418 417 D8 λD=>vG D T Od OP Qh
 have PB:=yr P w base (oq w) 451 450 D8 λD=>vH D T O5 OG OK O9
 have OD:Bl P w (κ w) mg base aB 4 "Rungs" 2 [] gb:=⟨⟨529,jm,["self", "vault"],[],[],mg_of X G (by kernel_rfl),⟨(by kernel_rfl),(by kernel_rfl),(by kernel_rfl),(by kernel_rfl)⟩,uD w,.nil,λ_=>.nil,sV (uR w) T N9 Pu OR Oa Pg P5 OO O7⟩⟩
 have Oh:=yr P w base (er w) 562 561 xG λD=>kF D T Od OR N9 O7
 have Pa:=yr P w base (er w) 569 568 xG λD=>rD D T Oh
 have Oo:=yr P w base (er w) 574 573 xG λD=>mV D T Oh Pu OO
 have OI:=yr P w base (er w) 579 578 xG λD=>lY D T N9 Ov Px Pc O9 Ox
 have O6:=ik P w base X G 598 597 xG λD=>DT D T O5 OD Oo P2 OI Pa O4 P1
 have OM:=ik P w base X G 702 701 vJ λD=>mX D T Oa N9 O6 PC PB OT Oo Oi OS
 have O0:=ik P w base X G 709 708 vJ λD=>pX D T O6
 exact Ib (Kb w) T OJ Pp Pd Pk OD O1 Pn Oy Oi OM Ou Ot O6 O0
theorem L7:zk (κ w)=true:=by kernel_rfl
theorem L9:nsIn (κ w) mainGlobals "law" = some (some (.ref 714)):=by kernel_rfl
end xH
open PySem PySem.W
theorem xH.hold(said:PySem.Challenge.rw_dialvault_k27_whole_one_paper.wellSaid=true)(Rm:∀ ns:List Int,ns.length<=63->(∀ i∈ns,Builtin.Int.intBits i<=1048576)->xH.tQ [.kH (ns.map L2.PV.int)]=L2.M.ok (.bl true)):PySem.Challenge.rw_dialvault_k27_whole_one_paper.Holds:=by
 refine holds_law said λsaid=>?_
 refine holds_open (q:=HD.vw) (loose:=HD.loose) (Xt:=HD.Xt) (XP:=XL HD.vw []) (Yf:=Hook.obs HD.hook) (Ya:=Hook.val HD.hook) (YP:=Hook.says HD.hook) HD.Km (Hook.of HD.hook) (Hook.keeps HD.hook) (λs e=>xl_of s (Bool.and_eq_true_iff.mp e).1) XL.keeps (by rfl) (by rfl) (by rfl) (λs e=>recFacts_of (Bool.and_eq_true_iff.mp e).2) (by rfl) said (by decide +kernel) ⟨rfl,rfl,rfl,rfl,rfl,by decide +kernel⟩ ?hw ?hc
 case hw=>w_witness2
 refine L2.yN (l:=PySem.Challenge.rw_dialvault_k27_whole_one_paper) (n:=63) (k:=9) (x := "_law_script") (K:=HD.K) (sem:=xH.tQ) rfl (by decide) rfl ⟨rfl,by decide,by decide⟩ (λw h Y=>PySem.W.kIn_of Y) (λw=>xH.L7 w) (λw mg fa h X G hmg=>?_) Rm
 have e:=hmg.symm.trans (PySem.W.mg_of X G (xH.L9 w))
 cases e
 exact⟨xH.xM,λs v=>.of_eq rfl,λbase X' G'=>xH.Hw X' G' base⟩
namespace Eu
theorem tU(a b:Int)(hb:b≠0):(a-a.fdiv b*b).natAbs<b.natAbs/\0<=(a-a.fdiv b*b)*b/\(0<=a*b->a.natAbs=(a.fdiv b).natAbs*b.natAbs+(a-a.fdiv b*b).natAbs):=by
 have pos:∀ (a b:Int),0<b->(a-a/b*b).natAbs<b.natAbs/\0<=(a-a/b*b)*b/\(0<=a*b->a.natAbs=(a/b).natAbs*b.natAbs+(a-a/b*b).natAbs):=by
  intro a b hb
  have e:a-a/b*b=a%b:=by
   have h:=Int.mul_ediv_add_emod a b
   rw[Int.mul_comm] at h
   omega
  have h0:=Int.emod_nonneg a (by omega:b≠0)
  have h1:=Int.emod_lt_of_pos a hb
  rw[e]
  refine⟨by omega,Int.mul_nonneg h0 (by omega),λhab=>?_⟩
  have ha:0<=a:=by
   rcases Int.lt_or_le a 0 with h | h
   ·have:=Int.mul_neg_of_neg_of_pos h hb
    omega
   ·exact h
  have hq:0<=a/b:=Int.ediv_nonneg ha (by omega)
  have h2:=Int.mul_ediv_add_emod a b
  have h3:((a/b).natAbs*b.natAbs:Nat)=(b*(a/b)).natAbs:=by
   rw[Int.natAbs_mul,Nat.mul_comm]
  rw[h3]
  have h4:0<=b*(a/b):=Int.mul_nonneg (by omega) hq
  omega
 rcases Int.lt_or_le 0 b with h | h
 ·rw[Int.fdiv_eq_ediv_of_nonneg a (by omega)]
  exact pos a b h
 ·have h':0 < -b:=by omega
  have e:a.fdiv b=(-a)/(-b):=by
   rw[← Int.fdiv_eq_ediv_of_nonneg (-a) (by omega:0<=-b),Int.neg_fdiv_neg]
  obtain⟨p1,p2,p3⟩:=pos (-a) (-b) h'
  have e2:-a-(-a)/(-b)*(-b)=-(a-a.fdiv b*b):=by
   rw[← e,Int.mul_neg]
   omega
  rw[e2] at p1 p2 p3
  rw[← e] at p3
  simp only[Int.natAbs_neg,Int.neg_mul_neg] at p1 p2 p3
  exact⟨p1,p2,p3⟩
structure St (a b:Int) (r s t r' s' t':Int):Prop where
 c0:r=s*a+t*b
 c1:r'=s'*a+t'*b
 dv:∀ d:Int,d∣r->d∣r'->d∣a/\d∣b
 bd:s'.natAbs*r.natAbs+s.natAbs*r'.natAbs<=b.natAbs
 sg:s'=0\/0<=r*r'
 b0:s.natAbs<=b.natAbs+1
 b1:s'.natAbs<=b.natAbs+1
 d0:t.natAbs<=a.natAbs+(b.natAbs+1)*a.natAbs+b.natAbs+1
 d1:t'.natAbs<=a.natAbs+(b.natAbs+1)*a.natAbs+b.natAbs+1
 m0:r.natAbs<=a.natAbs+b.natAbs
 m1:r'.natAbs<=b.natAbs
theorem start(a b:Int):St a b a 1 0 b 0 1 where
 c0:=by omega
 c1:=by omega
 dv:=λd h1 h2=>⟨h1,h2⟩
 bd:=by simp
 sg:=.inl rfl
 b0:=by omega
 b1:=by omega
 d0:=by simp
 d1:=by omega
 m0:=by omega
 m1:=by omega
theorem turn{a b r s t r' s' t':Int}(h:St a b r s t r' s' t')(h0:r'≠0) :
  St a b r' s' t' (r-r.fdiv r'*r') (s-r.fdiv r'*s') (t-r.fdiv r'*t')/\(r-r.fdiv r'*r').natAbs<r'.natAbs:=by
 obtain⟨f1,f2,f3⟩:=tU r r' h0
 generalize hq:r.fdiv r'=q at *
 have hb:b≠0:=by
  intro z
  have:=h.m1
  omega
 have hr':1<=r'.natAbs:=by omega
 have RA:r-q*r'=(s-q*s')*a+(t-q*t')*b:=by
  rw[h.c0,h.c1,Int.sub_mul,Int.sub_mul,Int.mul_add,Int.mul_assoc,Int.mul_assoc]
  omega
 have bd':(s-q*s').natAbs*r'.natAbs+s'.natAbs*(r-q*r').natAbs<=b.natAbs:=by
  have xJ:(s-q*s').natAbs<=s.natAbs+q.natAbs*s'.natAbs:=by
   rw[← Int.natAbs_mul]
   omega
  have hbd:=h.bd
  rcases h.sg with z | z
  ·subst z
   simp only[Int.mul_zero,Int.sub_zero,Int.natAbs_zero,Nat.zero_mul,Nat.zero_add,Nat.add_zero] at hbd ⊢
   exact hbd
  ·have e:=f3 z
   have k1:(s-q*s').natAbs*r'.natAbs<=(s.natAbs+q.natAbs*s'.natAbs)*r'.natAbs:=Nat.mul_le_mul_right _ xJ
   have k2:(s.natAbs+q.natAbs*s'.natAbs)*r'.natAbs+s'.natAbs*(r-q*r').natAbs=s'.natAbs*r.natAbs+s.natAbs*r'.natAbs:=by
    rw[e,Nat.add_mul,Nat.mul_add,Nat.mul_comm q.natAbs s'.natAbs,Nat.mul_assoc]
    omega
   omega
 have b1':(s-q*s').natAbs<=b.natAbs:=by
  have:(s-q*s').natAbs*1<=(s-q*s').natAbs*r'.natAbs:=Nat.mul_le_mul_left _ hr'
  omega
 have mm:(r-q*r').natAbs<=b.natAbs:=by
  have:=h.m1
  omega
 have d1':(t-q*t').natAbs<=a.natAbs+(b.natAbs+1)*a.natAbs+b.natAbs+1:=by
  have e:(t-q*t')*b=(r-q*r')-(s-q*s')*a:=by omega
  have e1:((t-q*t')*b).natAbs<=(r-q*r').natAbs+((s-q*s')*a).natAbs:=by omega
  rw[Int.natAbs_mul,Int.natAbs_mul] at e1
  have k1:(t-q*t').natAbs*1<=(t-q*t').natAbs*b.natAbs:=Nat.mul_le_mul_left _ (by omega)
  have k2:(s-q*s').natAbs*a.natAbs<=(b.natAbs+1)*a.natAbs:=Nat.mul_le_mul_right _ (by omega)
  omega
 refine⟨⟨h.c1,RA,λd e1 e2=>?_,bd',?_,h.b1,by omega,h.d1,d1',?_,mm⟩,f1⟩
 ·refine h.dv d ?_ e1
  have e3:d∣q*r':=Int.dvd_trans e1 (Int.dvd_mul_left _ _)
  have e4:=Int.dvd_add e2 e3
  rwa [Int.sub_add_cancel] at e4
 ·exact .inr (by rw[Int.mul_comm];exact f2)
 ·have:=h.m1
  omega
theorem done{a b r s t s' t':Int}(h:St a b r s t 0 s' t'):r∣a/\r∣b:=h.dv r (Int.dvd_refl r) (Int.dvd_zero r)
end Eu
namespace Lc
def DG(ns:List Nat):Nat:=ns.foldl Nat.lcm 1
theorem zm:∀ (ns:List Nat) (m:Nat),m∣ns.foldl Nat.lcm m/\(∀ n∈ns,n∣ns.foldl Nat.lcm m)/\(∀ k,m∣k->(∀ n∈ns,n∣k)->ns.foldl Nat.lcm m∣k)
 | [],m=>⟨Nat.dvd_refl m,(λ_ h=>nomatch h),λk h _=>h⟩
 | n::ns,m=>by
  obtain⟨h1,h2,h3⟩:=zm ns (Nat.lcm m n)
  refine⟨Nat.dvd_trans (Nat.dvd_lcm_left m n) h1,λx hx=>?_,λk hm hk=>?_⟩
  ·rcases List.mem_cons.mp hx with e | hx
   ·rw[e];exact Nat.dvd_trans (Nat.dvd_lcm_right m n) h1
   ·exact h2 x hx
  ·exact h3 k (Nat.lcm_dvd hm (hk n List.mem_cons_self)) λx hx=>hk x (List.mem_cons_of_mem _ hx)
theorem lcm_dvd{ns:List Nat}{n:Nat}(h:n∈ns):n∣DG ns:=(zm ns 1).2.1 n h
theorem pd:∀ (ns:List Nat) (m:Nat),0<m->(∀ n∈ns,0<n)->0<ns.foldl Nat.lcm m
 | [],m,h,_=>h
 | n::ns,m,h,hp=>pd ns (Nat.lcm m n) (Nat.lcm_pos h (hp n List.mem_cons_self)) λx hx=>hp x (List.mem_cons_of_mem _ hx)
theorem lcm_pos{ns:List Nat}(h:∀ n∈ns,0<n):0<DG ns:=pd ns 1 (by decide) h
theorem qw(B:Nat):∀ (ns:List Nat) (m k:Nat),0<m->m<=2^k->(∀ n∈ns,0<n/\n<=2^B)->ns.foldl Nat.lcm m<=2^(k+B*ns.length)
 | [],m,k,_,h,_=>by simpa using h
 | n::ns,m,k,h0,h,hp=>by
  have hn:=hp n List.mem_cons_self
  have h1:Nat.lcm m n<=2^(k+B):=by
   have:Nat.lcm m n<=m*n:=Nat.le_of_dvd (Nat.mul_pos h0 hn.1) (Nat.lcm_dvd (Nat.dvd_mul_right m n) (Nat.dvd_mul_left n m))
   rw[Nat.pow_add]
   exact Nat.le_trans this (Nat.mul_le_mul h hn.2)
  have h2:=qw B ns (Nat.lcm m n) (k+B) (Nat.lcm_pos h0 hn.1) h1 λx hx=>hp x (List.mem_cons_of_mem _ hx)
  have e:k+B*(n::ns).length=k+B+B*ns.length:=by
   rw[List.length_cons,Nat.mul_succ];omega
  rw[e]
  exact h2
theorem Cp(m n:Nat):m/Nat.gcd m n*n=Nat.lcm m n:=by
 unfold Nat.lcm
 rw[Nat.div_mul_right_comm (Nat.gcd_dvd_left m n)]
end Lc
namespace Rg
abbrev cu:=Nat->Int
def aU(s:cu)(D:Nat->cu)(d:Nat):Int:=if D d d=0 then s d else D d d
def G(n:Nat)(s:cu)(D:Nat->cu):Nat->Nat->cu->Prop
 | 0,_,v=>∀ i,i<n->s i∣v i
 | k+1,d,v=>aU s D d∣v d/\G n s D k (d+1) λi=>v i-v d/aU s D d*D d i
def U(i:Nat)(c:Int):cu:=λj=>if j=i then c else 0
section
variable{n:Nat}{s:cu}{D:Nat->cu}
theorem G.ext:∀ {k d:Nat} {v w:cu},d+k=n->(∀ i,i<n->v i=w i)->G n s D k d v->G n s D k d w
 | 0,d,v,w,_,e,h=>λi hi=>by rw[← e i hi];exact h i hi
 | k+1,d,v,w,hn,e,h=>by
  have ed:=e d (by omega)
  refine⟨by rw[← ed];exact h.1,G.ext (by omega) (λi hi=>?_) h.2⟩
  rw[e i hi,ed]
theorem G.add:∀ {k d:Nat} {v w:cu},d+k=n->G n s D k d v->G n s D k d w->G n s D k d λi=>v i+w i
 | 0,d,v,w,_,h,h'=>λi hi=>Int.dvd_add (h i hi) (h' i hi)
 | k+1,d,v,w,hn,h,h'=>by
  refine⟨Int.dvd_add h.1 h'.1,G.ext (by omega) (λi hi=>?_) (G.add (by omega) h.2 h'.2)⟩
  show _=v i+w i-(v d+w d)/aU s D d*D d i
  rw[Int.add_ediv_of_dvd_left h.1,Int.add_mul]
  omega
theorem G.mul(c:Int):∀ {k d:Nat} {v:cu},d+k=n->G n s D k d v->G n s D k d λi=>c*v i
 | 0,d,v,_,h=>λi hi=>Int.dvd_trans (h i hi) (Int.dvd_mul_left _ _)
 | k+1,d,v,hn,h=>by
  refine⟨Int.dvd_trans h.1 (Int.dvd_mul_left _ _),G.ext (by omega) (λi hi=>?_) (G.mul c (by omega) h.2)⟩
  show _=c*v i-c*v d/aU s D d*D d i
  rw[Int.mul_ediv_assoc c h.1,Int.mul_sub,Int.mul_assoc]
theorem G.zero:∀ {k d:Nat},d+k=n->G n s D k d λ_=>0
 | 0,d,_=>λi _=>Int.dvd_zero _
 | k+1,d,hn=>⟨Int.dvd_zero _,G.ext (by omega) (λi hi=>by simp) (G.zero (k:=k) (d:=d+1) (by omega))⟩
theorem G.skip{v:cu}:∀ {j k d:Nat},d+(j+k)=n->(∀ i,d<=i->i<d+j->v i=0)->G n s D k (d+j) v->G n s D (j+k) d v
 | 0,k,d,_,_,h=>by rw[Nat.zero_add];exact h
 | j+1,k,d,hn,hz,h=>by
  rw[show j+1+k=(j+k)+1 by omega]
  have z:=hz d (Nat.le_refl _) (by omega)
  refine⟨by rw[z];exact Int.dvd_zero _,G.ext (v:=v) (by omega) (λi hi=>by rw[z];simp) (G.skip (by omega) (λi h1 h2=>hz i (by omega) (by omega)) (by rw[show d+1+j=d+(j+1) by omega];exact h))⟩
end
structure Good (n:Nat) (s:cu) (D:Nat->cu):Prop where
 sp:∀ i,i<n->0<s i
 iO:∀ d,d<n->∀ i,i<n->0<=D d i/\D d i<s i
 xJ:∀ d,d<n->∀ i,i<d->D d i=0
 dv:∀ d,d<n->aU s D d∣s d
 Ln:∀ d k,d+(k+1)=n->G n s D k (d+1) λi=>s d/aU s D d*D d i
section
variable{n:Nat}{s:cu}{D:Nat->cu}
theorem Good.pos(g:Good n s D){d:Nat}(h:d<n):0<aU s D d/\aU s D d<=s d:=by
 have h1:=g.iO d h d h
 have h2:=g.sp d h
 unfold aU
 split <;> omega
theorem Good.diag(g:Good n s D){d:Nat}(h:d<n):s d∣D d d-aU s D d:=by
 unfold aU
 split
 ·rename_i z;rw[z];exact⟨-1,by omega⟩
 ·rw[Int.sub_self];exact Int.dvd_zero _
theorem Good.turn(g:Good n s D):∀ {k d i:Nat} (c:Int),d+k=n->i<n->G n s D k d (U i (c*s i))
 | 0,d,i,c,_,hi=>λj hj=>by
  unfold U
  split
  ·rename_i z;rw[z];exact Int.dvd_mul_left _ _
  ·exact Int.dvd_zero _
 | k+1,d,i,c,hn,hi=>by
  have hd:d<n:=by omega
  by_cases z:i=d
  ·subst z
   have dv:=g.dv i hi
   refine⟨by show _∣U i _ i;rw[U,if_pos rfl];exact Int.dvd_trans dv (Int.dvd_mul_left _ _),?_⟩
   refine G.ext (by omega) (λj hj=>?_) (G.add (by omega) (g.turn (k:=k) (d:=i+1) (i:=i) c (by omega) hi) (G.mul (-c) (by omega) (g.Ln i k hn)))
   show U i (c*s i) j+-c*(s i/aU s D i*D i j)=U i (c*s i) j-U i (c*s i) i/aU s D i*D i j
   rw[show U i (c*s i) i=c*s i by rw[U,if_pos rfl],Int.mul_ediv_assoc c dv,Int.neg_mul,Int.mul_assoc]
   omega
  ·have u0:U i (c*s i) d=0:=by rw[U,if_neg (Ne.symm z)]
   refine⟨by rw[u0];exact Int.dvd_zero _,G.ext (by omega) (λj hj=>?_) (g.turn (k:=k) (d:=d+1) (i:=i) c (by omega) hi)⟩
   rw[u0];simp
theorem G.qP{k d:Nat}{v w:cu}(ht:∀ i c,i<n->G n s D k d (U i (c*s i)))(hn:d+k=n)(h:∀ i,i<n->s i∣w i-v i)(hv:G n s D k d v):G n s D k d w:=by
 have key:∀ m,m<=n->G n s D k d λi=>if i<m then w i else v i:=by
  intro m
  induction m with
  | zero=>intro _;exact G.ext hn (λi _=>by simp) hv
  | succ m ih =>
   intro hm
   obtain⟨c,hc⟩:=h m (by omega)
   refine G.ext hn (λi hi=>?_) (G.add hn (ih (by omega)) (ht m c (by omega)))
   show (if i<m then w i else v i)+U m (c*s m) i=if i<m+1 then w i else v i
   unfold U
   by_cases z:i=m
   ·subst z
    rw[if_neg (by omega),if_pos rfl,if_pos (by omega),Int.mul_comm c]
    omega
   ·rw[if_neg z]
    by_cases q:i<m
    ·rw[if_pos q,if_pos (by omega)];omega
    ·rw[if_neg q,if_neg (by omega)];omega
 exact G.ext hn (λi hi=>by simp[hi]) (key n (Nat.le_refl _))
theorem Good.qP(g:Good n s D){k d:Nat}{v w:cu}(hn:d+k=n)(h:∀ i,i<n->s i∣w i-v i)(hv:G n s D k d v):G n s D k d w :=
 G.qP (λi c hi=>g.turn c hn hi) hn h hv
theorem Good.sub(g:Good n s D){k d:Nat}{v w:cu}(hn:d+k=n)(hv:G n s D k d v)(hw:G n s D k d w):G n s D k d λi=>v i-w i :=
 G.ext hn (λi _=>by omega) (G.add hn hv (G.mul (-1) hn hw))
theorem Good.own(g:Good n s D){d k:Nat}(hn:d+(k+1)=n):G n s D (k+1) d (D d):=by
 have hd:d<n:=by omega
 by_cases z:D d d=0
 ·have e:aU s D d=s d:=by unfold aU;rw[if_pos z]
  have c:=g.Ln d k hn
  rw[e] at c
  refine⟨by rw[z];exact Int.dvd_zero _,G.ext (by omega) (λi hi=>?_) c⟩
  rw[z,Int.ediv_self (by have:=g.sp d hd;omega)]
  simp
 ·have e:aU s D d=D d d:=by unfold aU;rw[if_neg z]
  refine⟨by rw[e];exact Int.dvd_refl _,G.ext (by omega) (λi hi=>?_) (G.zero (k:=k) (d:=d+1) (by omega))⟩
  rw[e,Int.ediv_self z];omega
theorem Good.row(g:Good n s D){d:Nat}(hd:d<n):∀ {k e:Nat},e+k=n->e<=d->G n s D k e (D d):=by
 intro k e hn he
 have h:=g.own (d:=d) (k:=n-d-1) (by omega)
 have:=G.skip (n:=n) (s:=s) (D:=D) (v:=D d) (j:=d-e) (k:=n-d-1+1) (d:=e) (by omega) (λi h1 h2=>g.xJ d hd i (by omega)) (by rw[show e+(d-e)=d by omega];exact h)
 rw[show d-e+(n-d-1+1)=k by omega] at this
 exact this
end
structure Tk (n:Nat) (s:cu) (D D' L:Nat->cu) (u v g:Nat->Int):Prop where
 gp:∀ d,d<n->0<g d
 bz:∀ d,d<n->u d*aU s D d+v d*L d d=g d
 g1:∀ d,d<n->g d∣aU s D d
 g2:∀ d,d<n->g d∣L d d
 KN:∀ d,d<n->∀ i,i<n->D' d i=(u d*D d i+v d*L d i)%s i
 Lu:∀ d,d<n->∀ i,i<n->L (d+1) i=(aU s D d/g d*L d i+-(L d d/g d)*D d i)%s i
 l0:∀ i,i<n->0<=L 0 i/\L 0 i<s i
section
variable{n:Nat}{s:cu}{D D' L:Nat->cu}{u v g:Nat->Int}
theorem dc(a b:Int):b∣a%b-a:=⟨-(a/b),by have:=Int.emod_def a b;rw[Int.mul_neg];omega⟩
theorem tY(a b:Int):b∣a-a%b:=⟨a/b,by have:=Int.emod_def a b;omega⟩
theorem Tk.kept(t:Tk n s D D' L u v g)(G:Good n s D):∀ d,d<=n->∀ i,i<n->0<=L d i/\L d i<s i:=by
 intro d hd i hi
 cases d with
 | zero=>exact t.l0 i hi
 | succ d =>
  rw[t.Lu d (by omega) i hi]
  have:=G.sp i hi
  exact⟨Int.emod_nonneg _ (by omega),Int.emod_lt_of_pos _ this⟩
theorem jJ{a b:Int}(h0:0<=a)(h1:a<b)(h:b∣a):a=0:=by
 obtain⟨c,rfl⟩:=h
 rcases Int.lt_or_le 0 c with hc | hc
 ·have:b*1<=b*c:=Int.mul_le_mul_of_nonneg_left hc (by omega)
  omega
 ·have:b*c<=0:=Int.mul_nonpos_of_nonneg_of_nonpos (by omega) hc
  omega
theorem Tk.zero(t:Tk n s D D' L u v g)(G:Good n s D):∀ d,d<=n->∀ i,i<d->L d i=0:=by
 intro d
 induction d with
 | zero=>intro _ i hi;omega
 | succ d ih =>
  intro hd i hi
  have Q_:d<n:=by omega
  have k:=t.kept G (d+1) hd i (by omega)
  refine jJ k.1 k.2 ?_
  rw[t.Lu d Q_ i (by omega)]
  rcases Nat.lt_or_ge i d with h | h
  ·rw[ih (by omega) i h,G.xJ d Q_ i h]
   simp
  ·obtain rfl:i=d:=by omega
   refine Int.dvd_trans ?_ (Int.dvd_refl _)
   obtain⟨c,hc⟩:=G.diag Q_
   obtain⟨a,ha⟩:=t.g1 i Q_
   obtain⟨b,hb⟩:=t.g2 i Q_
   have gp:=t.gp i Q_
   have e1:aU s D i/g i=a:=by rw[ha];exact Int.mul_ediv_cancel_left a (by omega)
   have e2:L i i/g i=b:=by rw[hb];exact Int.mul_ediv_cancel_left b (by omega)
   rw[e1,e2]
   have e3:a*L i i+-b*D i i=s i*(-b*c):=by
    have:D i i=aU s D i+s i*c:=by omega
    rw[this,ha,hb];grind
   rw[e3,Int.mul_emod_right]
   exact Int.dvd_zero _
theorem Tk.step(t:Tk n s D D' L u v g)(G:Good n s D){d:Nat}(hd:d<n):aU s D' d=g d:=by
 obtain⟨c,hc⟩:=G.diag hd
 have gp:=t.gp d hd
 have sp:=G.sp d hd
 have st:=G.pos hd
 have le:g d<=aU s D d:=Int.le_of_dvd st.1 (t.g1 d hd)
 have e:D' d d=g d%s d:=by
  rw[t.KN d hd d hd,← t.bz d hd]
  have:D d d=aU s D d+s d*c:=by omega
  rw[this,show u d*(aU s D d+s d*c)+v d*L d d=(u d*aU s D d+v d*L d d)+s d*(u d*c) by grind,Int.add_mul_emod_self_left]
 unfold aU
 rw[e]
 by_cases z:g d=s d
 ·rw[z,Int.emod_self,if_pos rfl]
 ·rw[Int.emod_eq_of_lt (by omega) (by omega),if_neg (by omega)]
theorem Tk.main(t:Tk n s D D' L u v g)(Gd:Good n s D):∀ k d,d+k=n->(∀ w,G n s D k d w->G n s D' k d w)/\G n s D' k d (L d)
 | 0,d,hn=>by
  refine⟨λw h=>h,λi hi=>?_⟩
  rw[t.zero Gd d (by omega) i (by omega)];exact Int.dvd_zero _
 | k+1,d,hn=>by
  obtain⟨i1,i2⟩:=t.main Gd k (d+1) (by omega)
  have hd:d<n:=by omega
  have turn:∀ i c,i<n->G n s D' k (d+1) (U i (c*s i)):=λi c hi=>i1 _ (Gd.turn c (by omega) hi)
  have st:=t.step Gd hd
  have gp:=t.gp d hd
  obtain⟨a,ha⟩:=t.g1 d hd
  obtain⟨b,hb⟩:=t.g2 d hd
  have e1:aU s D d/g d=a:=by rw[ha];exact Int.mul_ediv_cancel_left a (by omega)
  have e2:L d d/g d=b:=by rw[hb];exact Int.mul_ediv_cancel_left b (by omega)
  have bz:u d*a+v d*b=1:=by
   have:=t.bz d hd
   rw[ha,hb,show u d*(g d*a)+v d*(g d*b)=g d*(u d*a+v d*b) by grind] at this
   have h2:g d*(u d*a+v d*b)=g d*1:=by omega
   exact Int.eq_of_mul_eq_mul_left (by omega) h2
  have w1:∀ i,i<n->∃ c,D' d i=u d*D d i+v d*L d i+s i*c:=λi hi=>by
   obtain⟨c,hc⟩:=dc (u d*D d i+v d*L d i) (s i)
   exact⟨c,by rw[t.KN d hd i hi];omega⟩
  have w2:∀ i,i<n->∃ c,L (d+1) i=a*L d i+-b*D d i+s i*c:=λi hi=>by
   obtain⟨c,hc⟩:=dc (a*L d i+-b*D d i) (s i)
   exact⟨c,by rw[t.Lu d hd i hi,e1,e2];omega⟩
  constructor
  ·intro w h
   obtain⟨h1,h2⟩:=h
   refine⟨by rw[st];exact Int.dvd_trans (t.g1 d hd) h1,?_⟩
   obtain⟨q,hq⟩:=h1
   have sp:=(Gd.pos hd).1
   have q1:w d/aU s D d=q:=by rw[hq];exact Int.mul_ediv_cancel_left q (by omega)
   have q2:w d/aU s D' d=q*a:=by
    rw[st,hq,ha,show g d*a*q=g d*(q*a) by grind];exact Int.mul_ediv_cancel_left _ (by omega)
   rw[q2]
   rw[q1] at h2
   refine G.qP turn (by omega) (λi hi=>?_) (G.add (by omega) (i1 _ h2) (G.mul (q*-(v d)) (by omega) i2))
   obtain⟨c1,hc1⟩:=w1 i hi
   obtain⟨c2,Q2⟩:=w2 i hi
   refine⟨q*(v d*c2-a*c1),?_⟩
   rw[hc1,Q2];grind
  ·refine⟨by rw[st];exact t.g2 d hd,?_⟩
   rw[st,e2]
   refine G.qP turn (by omega) (λi hi=>?_) (G.mul (u d) (by omega) i2)
   obtain⟨c1,hc1⟩:=w1 i hi
   obtain⟨c2,Q2⟩:=w2 i hi
   refine⟨-(b*c1)-u d*c2,?_⟩
   rw[hc1,Q2];grind
theorem Tk.good(t:Tk n s D D' L u v g)(Gd:Good n s D):Good n s D' where
 sp:=Gd.sp
 iO:=λd hd i hi=>by
  rw[t.KN d hd i hi]
  have:=Gd.sp i hi
  exact⟨Int.emod_nonneg _ (by omega),Int.emod_lt_of_pos _ this⟩
 xJ:=λd hd i hi=>by
  rw[t.KN d hd i (by omega),Gd.xJ d hd i hi,t.zero Gd d (by omega) i hi];simp
 dv:=λd hd=>by
  rw[t.step Gd hd];exact Int.dvd_trans (t.g1 d hd) (Gd.dv d hd)
 Ln:=λd k hn=>by
  have hd:d<n:=by omega
  have h1:=(t.main Gd (k+1) d hn).1 _ (Gd.turn (i:=d) 1 hn hd)
  have h2:=(t.main Gd k (d+1) (by omega)).1 _ (Gd.turn (i:=d) 1 (by omega) hd)
  have h3:=h1.2
  have ud:U d (1*s d) d=s d:=by rw[U,if_pos rfl,Int.one_mul]
  rw[ud] at h3
  refine G.ext (by omega) (λi hi=>?_) (G.add (by omega) h2 (G.mul (-1) (by omega) h3))
  show U d (1*s d) i+-1*(U d (1*s d) i-s d/aU s D' d*D' d i)=_
  omega
end
end Rg
namespace Rg
section
variable{n:Nat}{s:cu}{D D':Nat->cu}
theorem Good.EK(Gd:Good n s D)(iO:∀ d,d<n->∀ i,i<n->0<=D' d i/\D' d i<s i)(xJ:∀ d,d<n->∀ i,i<d->D' d i=0)(dv:∀ d,d<n->aU s D' d∣s d)
  (h:∀ k d,d+k=n->∀ w,G n s D k d w->G n s D' k d w):Good n s D' where
 sp:=Gd.sp
 iO:=iO
 xJ:=xJ
 dv:=dv
 Ln:=λd k hn=>by
  have hd:d<n:=by omega
  have h1:=h (k+1) d hn _ (Gd.turn (i:=d) 1 hn hd)
  have h2:=h k (d+1) (by omega) _ (Gd.turn (i:=d) 1 (by omega) hd)
  have h3:=h1.2
  have ud:U d (1*s d) d=s d:=by rw[U,if_pos rfl,Int.one_mul]
  rw[ud] at h3
  refine G.ext (by omega) (λi hi=>?_) (G.add (by omega) h2 (G.mul (-1) (by omega) h3))
  show U d (1*s d) i+-1*(U d (1*s d) i-s d/aU s D' d*D' d i)=_
  omega
structure Dn (n:Nat) (s:cu) (D:Nat->cu) (f:Nat) (W:Nat->cu):Prop where
 w0:∀ i,i<n->0<=W f i/\W f i<s i
 ws:∀ d,f<=d->d<n->∀ i,i<n->W (d+1) i=(1*W d i+-(W d d/aU s D d)*D d i)%s i
variable{f:Nat}{W:Nat->cu}
theorem Dn.kept(h:Dn n s D f W)(Gd:Good n s D):∀ d,f<=d->d<=n->∀ i,i<n->0<=W d i/\W d i<s i:=by
 intro d hf hd i hi
 rcases Nat.lt_or_ge f d with q | q
 ·obtain⟨e,rfl⟩:∃ e,d=e+1:=⟨d-1,by omega⟩
  rw[h.ws e (by omega) (by omega) i hi]
  have:=Gd.sp i hi
  exact⟨Int.emod_nonneg _ (by omega),Int.emod_lt_of_pos _ this⟩
 ·obtain rfl:d=f:=by omega
  exact h.w0 i hi
theorem Dn.ahead(h:Dn n s D f W)(Gd:Good n s D){d i:Nat}(hf:f<=d)(hd:d<n)(hi:i<d):W (d+1) i=W d i:=by
 have k:=h.kept Gd d hf (by omega) i (by omega)
 rw[h.ws d hf hd i (by omega),Gd.xJ d hd i hi,Int.mul_zero,Int.add_zero,Int.one_mul,Int.emod_eq_of_lt k.1 k.2]
theorem Dn.at_(h:Dn n s D f W)(Gd:Good n s D){d:Nat}(hf:f<=d)(hd:d<n):W (d+1) d=W d d%aU s D d:=by
 have k:=h.kept Gd d hf (by omega) d hd
 have p:=Gd.pos hd
 rw[h.ws d hf hd d hd]
 have e:=Int.emod_def (W d d) (aU s D d)
 have q0:=Int.emod_nonneg (W d d) (show aU s D d≠0 by omega)
 have q1:=Int.emod_lt_of_pos (W d d) p.1
 by_cases z:D d d=0
 ·have st:aU s D d=s d:=by unfold aU;rw[if_pos z]
  rw[z,st,Int.emod_eq_of_lt k.1 k.2,Int.mul_zero,Int.add_zero,Int.one_mul,Int.emod_eq_of_lt k.1 k.2]
 ·have st:aU s D d=D d d:=by unfold aU;rw[if_neg z]
  rw[← st,show 1*W d d+-(W d d/aU s D d)*aU s D d=W d d%aU s D d by rw[e];grind]
  exact Int.emod_eq_of_lt q0 (by omega)
theorem Dn.low(h:Dn n s D f W)(Gd:Good n s D):∀ d,f<=d->d<=n->∀ e,f<=e->e<d->0<=W d e/\W d e<aU s D e:=by
 intro d
 induction d with
 | zero=>intro _ _ e _ he;omega
 | succ d ih =>
  intro hf hd e he hed
  rcases Nat.lt_or_ge e d with q | q
  ·rw[h.ahead Gd (by omega) (by omega) q];exact ih (by omega) (by omega) e he q
  ·obtain rfl:e=d:=by omega
   have p:=Gd.pos (show e<n by omega)
   rw[h.at_ Gd he (by omega)]
   exact⟨Int.emod_nonneg _ (by omega),Int.emod_lt_of_pos _ p.1⟩
theorem Dn.front(h:Dn n s D f W)(Gd:Good n s D):∀ d,f<=d->d<=n->∀ i,i<f->W d i=W f i:=by
 intro d
 induction d with
 | zero=>intro h1 _ i hi;omega
 | succ d ih =>
  intro hf hd i hi
  rcases Nat.lt_or_ge d f with q | q
  ·rw[show d+1=f by omega]
  ·rw[h.ahead Gd q (by omega) (by omega)];exact ih q (by omega) i hi
theorem Dn.run(h:Dn n s D f W)(Gd:Good n s D):∀ k d,f<=d->d+k=n->G n s D k d (W d)->∀ i,i<n->W n i=0
 | 0,d,hf,hn,g,i,hi=>by
  rw[Nat.add_zero] at hn
  subst hn
  have k:=h.kept Gd d hf (Nat.le_refl _) i hi
  exact jJ k.1 k.2 (g i hi)
 | k+1,d,hf,hn,g,i,hi=>by
  refine h.run Gd k (d+1) (by omega) (by omega) (Gd.qP (by omega) (λj hj=>?_) g.2) i hi
  rw[h.ws d hf (by omega) j hj]
  have:=dc (1*W d j+-(W d d/aU s D d)*D d j) (s j)
  rw[show 1*W d j+-(W d d/aU s D d)*D d j=W d j-W d d/aU s D d*D d j by grind] at this
  rw[show 1*W d j+-(W d d/aU s D d)*D d j=W d j-W d d/aU s D d*D d j by grind]
  exact this
theorem Dn.away(h:Dn n s D f W)(Gd:Good n s D):∀ d,f<=d->d<=n->∀ k,f+k=n->G n s D k f λi=>W f i-W d i:=by
 intro d
 induction d with
 | zero =>
  intro hf _ k hn
  obtain rfl:f=0:=by omega
  exact G.ext hn (λi _=>by omega) (G.zero hn)
 | succ d ih =>
  intro hf hd k hn
  rcases Nat.lt_or_ge d f with q | q
  ·rw[show d+1=f by omega]
   exact G.ext hn (λi _=>by omega) (G.zero hn)
  ·refine Gd.qP hn (λi hi=>?_) (G.add hn (ih q (by omega) k hn) (G.mul (W d d/aU s D d) hn (Gd.row (show d<n by omega) hn q)))
   rw[h.ws d q (by omega) i hi]
   have:=tY (1*W d i+-(W d d/aU s D d)*D d i) (s i)
   obtain⟨c,hc⟩:=this
   exact⟨c,by rw[← hc];grind⟩
theorem G.small(Gd:Good n s D):∀ k d (v:cu),d+k=n->(∀ i,i<n->0<=v i/\v i<s i)->(∀ i,d<=i->i<n->v i<aU s D i)->G n s D k d v->∀ i,i<n->v i=0
 | 0,d,v,hn,h0,_,g,i,hi=>jJ (h0 i hi).1 (h0 i hi).2 (g i hi)
 | k+1,d,v,hn,h0,h1,g,i,hi=>by
  have z:v d=0:=jJ (h0 d (by omega)).1 (h1 d (Nat.le_refl _) (by omega)) g.1
  refine G.small Gd k (d+1) v (by omega) h0 (λj hj=>h1 j (by omega)) (G.ext (by omega) (λj hj=>?_) g.2) i hi
  rw[z];simp
theorem wc(Gd:Good n s D)(W:Nat->Nat->cu)(hW:∀ d,d<n->Dn n s D (d+1) (W d))(h0:∀ d,d<n->∀ i,i<n->W d (d+1) i=D d i)(hD:∀ d,d<n->∀ i,i<n->D' d i=W d n i) :
  Good n s D'/\(∀ d,d<n->aU s D' d=aU s D d)/\(∀ d,d<n->∀ e,d<e->e<n->D' d e<aU s D e)/\(∀ d,d<n->D' d d=0->∀ i,i<n->D' d i=0)/\(∀ k d,d+k=n->∀ w,G n s D k d w->G n s D' k d w):=by
 have dg:∀ d,d<n->∀ i,i<=d->D' d i=D d i:=λd hd i hi=>by
  rw[hD d hd i (by omega),(hW d hd).front Gd n (by omega) (Nat.le_refl _) i (by omega),h0 d hd i (by omega)]
 have st:∀ d,d<n->aU s D' d=aU s D d:=λd hd=>by
  unfold aU;rw[dg d hd d (Nat.le_refl _)]
 have RZ:∀ k d,d+k=n->∀ w,G n s D k d w->G n s D' k d w:=by
  intro k
  induction k with
  | zero=>intro d _ w h;exact h
  | succ k ih =>
   intro d hn w h
   have hd:d<n:=by omega
   refine⟨by rw[st d hd];exact h.1,ih (d+1) (by omega) _ ?_⟩
   rw[st d hd]
   refine G.ext (by omega) (λi hi=>?_) (G.add (by omega) h.2 (G.mul (w d/aU s D d) (by omega) ((hW d hd).away Gd n (by omega) (Nat.le_refl _) k (by omega))))
   show w i-w d/aU s D d*D d i+w d/aU s D d*(W d (d+1) i-W d n i)=_
   rw[h0 d hd i hi,hD d hd i hi];grind
 have good:Good n s D':=Gd.EK (λd hd i hi=>by rw[hD d hd i hi];exact(hW d hd).kept Gd n (by omega) (Nat.le_refl _) i hi) (λd hd i hi=>by rw[dg d hd i (by omega)];exact Gd.xJ d hd i hi) (λd hd=>by rw[st d hd];exact Gd.dv d hd) RZ
 have lt:∀ d,d<n->∀ e,d<e->e<n->D' d e<aU s D e:=λd hd e he hen=>by
  rw[hD d hd e hen];exact((hW d hd).low Gd n (by omega) (Nat.le_refl _) e (by omega) hen).2
 refine⟨good,st,lt,λd hd z=>?_,RZ⟩
 have h1:=good.own (d:=d) (k:=n-d-1) (by omega)
 have h2:=h1.2
 refine G.small good (n-d-1) (d+1) (D' d) (by omega) (good.iO d hd) (λi h1 h2=>by rw[st i h2];exact lt d hd i (by omega) h2) (G.ext (by omega) (λi hi=>?_) h2)
 rw[z];simp
end
def bN:Nat->(Nat->Int)->Int
 | 0,_=>0
 | m+1,f=>bN m f+f m
theorem la(a b:Int)(f g h:Nat->Int):∀ m,(∀ l,l<m->h l=a*f l+b*g l)->bN m h=a*bN m f+b*bN m g
 | 0,_=>by simp[bN]
 | m+1,e=>by
  rw[bN,bN,bN,la a b f g h m λl hl=>e l (by omega),e m (by omega)];grind
theorem gu{f g:Nat->Int}:∀ {m:Nat},(∀ l,l<m->f l=g l)->bN m f=bN m g
 | 0,_=>rfl
 | m+1,e=>by rw[bN,bN,gu λl hl=>e l (by omega),e m (by omega)]
theorem jO:∀ m,bN m (λ_=>0)=0
 | 0=>rfl
 | m+1=>by rw[bN,jO m];rfl
theorem jI(k:Nat)(a:Int):∀ m,k<m->∀ f:Nat->Int,(∀ l,l<m->f l=if l=k then a else 0)->bN m f=a
 | 0,h,_,_=>by omega
 | m+1,h,f,e=>by
  rw[bN]
  by_cases z:k=m
  ·subst z
   rw[gu (g:=λ_=>0) λl hl=>by rw[e l (by omega),if_neg (by omega)],jO,e k (by omega),if_pos rfl];omega
  ·rw[jI k a m (by omega) f λl hl=>e l (by omega),e m (by omega),if_neg (by omega)];omega
def Led(n:Nat)(s:cu)(m:Nat)(A:Nat->cu)(v P:cu):Prop:=∀ i,i<n->s i∣v i-bN m λl=>P l*A l i
theorem Led.mix{n m:Nat}{s:cu}{A:Nat->cu}{v w x P Q R:cu}{a b:Int}(h1:Led n s m A v P)(h2:Led n s m A w Q)(hx:∀ i,i<n->s i∣x i-(a*v i+b*w i))(hR:∀ l,l<m->R l=a*P l+b*Q l):Led n s m A x R:=λi hi=>by
 obtain⟨c1,e1⟩:=h1 i hi
 obtain⟨c2,e2⟩:=h2 i hi
 obtain⟨c3,e3⟩:=hx i hi
 rw[la a b (λl=>P l*A l i) (λl=>Q l*A l i) (λl=>R l*A l i) m λl hl=>by rw[hR l hl];grind]
 exact⟨a*c1+b*c2+c3,by grind⟩
def bw:Nat->(Nat->Int)->Int
 | 0,_=>1
 | m+1,f=>bw m f*f m
theorem um{f g h:Nat->Int}:∀ {m:Nat},(∀ l,l<m->f l=g l*h l)->bw m f=bw m g*bw m h
 | 0,_=>rfl
 | m+1,e=>by rw[bw,bw,bw,um λl hl=>e l (by omega),e m (by omega)];grind
theorem jE{f g:Nat->Int}:∀ {m:Nat},(∀ l,l<m->f l=g l)->bw m f=bw m g
 | 0,_=>rfl
 | m+1,e=>by rw[bw,bw,jE λl hl=>e l (by omega),e m (by omega)]
theorem lH{f:Nat->Int}:∀ {m:Nat},(∀ l,l<m->0<f l)->0<bw m f
 | 0,_=>(by decide:(0:Int)<1)
 | m+1,e=>Int.mul_pos (lH λl hl=>e l (by omega)) (e m (by omega))
end Rg
namespace Rg
def vf(xs:List Int):cu:=λi=>xs.getD i 0
theorem aL{xs:List Int}{i:Nat}(h:i<xs.length):vf xs i=xs[i]:=by
 unfold vf;rw[List.getD_eq_getElem?_getD,List.getElem?_eq_getElem h];rfl
theorem q_{xs:List Int}{i:Nat}(h:xs.length<=i):vf xs i=0:=by
 unfold vf;rw[List.getD_eq_getElem?_getD,List.getElem?_eq_none h];rfl
def pQ(xs:List Int)(a:Int)(ys:List Int)(b:Int):List Int:=(xs.zip ys).map λz=>a*z.1+b*z.2
def z8(xs sizes:List Int):List Int:=(xs.zip sizes).map λz=>z.1%z.2
theorem bS{xs ys:List Int}{a b:Int}:(pQ xs a ys b).length=min xs.length ys.length:=by simp[pQ]
theorem jM{xs ys:List Int}:(z8 xs ys).length=min xs.length ys.length:=by simp[z8]
theorem fU{xs ys:List Int}{a b:Int}{i:Nat}(h1:i<xs.length)(h2:i<ys.length):vf (pQ xs a ys b) i=a*vf xs i+b*vf ys i:=by
 rw[aL (by rw[bS];omega),aL h1,aL h2]
 simp[pQ]
theorem ka{xs ys:List Int}{i:Nat}(h1:i<xs.length)(h2:i<ys.length):vf (z8 xs ys) i=vf xs i%vf ys i:=by
 rw[aL (by rw[jM];omega),aL h1,aL h2]
 simp[z8]
theorem rH{xs ys:List Int}(hl:xs.length=ys.length)(h:∀ i,i<xs.length->vf xs i=vf ys i):xs=ys:=by
 refine List.ext_getElem hl λi h1 h2=>?_
 have:=h i h1
 rwa [aL h1,aL h2] at this
theorem jS(n:Nat)(i:Nat):vf (List.replicate n 0) i=0:=by
 rcases Nat.lt_or_ge i n with h | h
 ·rw[aL (by simpa using h)];simp
 ·rw[q_ (by simpa using h)]
def Bd(B:Nat)(xs:List Int):Prop:=∀ x∈xs,x.natAbs<2^B
theorem Bd.mono{B C:Nat}{xs:List Int}(h:Bd B xs)(hc:B<=C):Bd C xs:=λx hx=>Nat.lt_of_lt_of_le (h x hx) (Nat.pow_le_pow_right (by decide) hc)
theorem Bd.vf{B:Nat}{xs:List Int}(h:Bd B xs)(i:Nat):(vf xs i).natAbs<2^B:=by
 rcases Nat.lt_or_ge i xs.length with q | q
 ·rw[aL q];exact h _ (List.getElem_mem q)
 ·rw[q_ q];exact Nat.two_pow_pos B
theorem yI{a b:Int}{A B:Nat}(ha:a.natAbs<2^A)(hb:b.natAbs<2^B):(a*b).natAbs<2^(A+B):=by
 rw[Int.natAbs_mul,Nat.pow_add]
 have h0:0<2^A:=Nat.two_pow_pos A
 have h1:0<2^B:=Nat.two_pow_pos B
 exact Nat.mul_lt_mul_of_lt_of_le ha (Nat.le_of_lt hb) h1
theorem Ie{a b:Int}{A:Nat}(ha:a.natAbs<2^A)(hb:b.natAbs<2^A):(a+b).natAbs<2^(A+1):=by
 rw[Nat.pow_succ];omega
theorem Bd.mix{A B:Nat}{xs ys:List Int}{a b:Int}(hx:Bd B xs)(hy:Bd B ys)(ha:a.natAbs<2^A)(hb:b.natAbs<2^A):Bd (A+B+1) (pQ xs a ys b):=by
 intro z hz
 obtain⟨w,hw,rfl⟩:=List.mem_map.mp hz
 have:=List.of_mem_zip (a:=w.1) (b:=w.2) hw
 exact Ie (yI ha (hx _ this.1)) (yI hb (hy _ this.2))
abbrev Row:=List Int×List Int
def row(rows:List Row)(d:Nat):Row:=rows.getD d ([],[])
def DD(rows:List Row):Nat->cu:=λd=>vf (row rows d).1
def PP(rows:List Row):Nat->cu:=λd=>vf (row rows d).2
structure Wf (n m:Nat) (rows:List Row):Prop where
 len:rows.length=n
 l1:∀ r∈rows,r.1.length=n
 l2:∀ r∈rows,r.2.length=m
theorem j_{rows:List Row}{d:Nat}(h:d<rows.length):row rows d=rows[d]:=by
 unfold row;rw[List.getD_eq_getElem?_getD,List.getElem?_eq_getElem h];rfl
theorem Wf.si{n m:Nat}{rows:List Row}(w:Wf n m rows){d:Nat}(h:d<n):(row rows d).1.length=n:=by
 rw[j_ (by rw[w.len];exact h)];exact w.l1 _ (List.getElem_mem _)
theorem Wf.at2{n m:Nat}{rows:List Row}(w:Wf n m rows){d:Nat}(h:d<n):(row rows d).2.length=m:=by
 rw[j_ (by rw[w.len];exact h)];exact w.l2 _ (List.getElem_mem _)
def se(sizes:List Int)(r:Row)(a:Int)(q:Row)(b:Int):Row:=(z8 (pQ r.1 a q.1 b) sizes,pQ r.2 a q.2 b)
def aC(c:Int->Int->Int×Int)(sizes:List Int)(rows:List Row)(left:Row):Nat->Row
 | 0=>left
 | d+1 =>
  let l:=aC c sizes rows left d
  let st:=aU (vf sizes) (DD rows) d
  let nt:=vf l.1 d
  se sizes l (st/(Int.gcd st nt:Nat)) (row rows d) (-(nt/(Int.gcd st nt:Nat)))
def eN(c:Int->Int->Int×Int)(sizes:List Int)(rows:List Row)(left:Row)(d:Nat):Row :=
 let l:=aC c sizes rows left d
 let st:=aU (vf sizes) (DD rows) d
 let nt:=vf l.1 d
 se sizes (row rows d) (c st nt).1 l (c st nt).2
def cJ(c:Int->Int->Int×Int)(sizes:List Int)(rows:List Row)(left:Row)(n:Nat):List Row:=(List.range n).map (eN c sizes rows left)
section
variable{c:Int->Int->Int×Int}{sizes:List Int}{rows:List Row}{left:Row}{n m:Nat}
theorem dh(w:Wf n m rows)(hs:sizes.length=n)(h1:left.1.length=n)(h2:left.2.length=m):∀ d,d<=n->(aC c sizes rows left d).1.length=n/\(aC c sizes rows left d).2.length=m
 | 0,_=>⟨h1,h2⟩
 | d+1,hd=>by
  obtain⟨i1,i2⟩:=dh w hs h1 h2 d (by omega)
  have e1:=w.si (d:=d) (by omega);have e2:=w.at2 (d:=d) (by omega)
  simp only[aC,se]
  rw[jM,bS,bS]
  exact⟨by omega,by omega⟩
theorem lG{d:Nat}(h:d<n):row (cJ c sizes rows left n) d=eN c sizes rows left d:=by
 rw[j_ (by simp[cJ,h])];simp[cJ]
theorem CK(w:Wf n m rows)(hs:sizes.length=n)(h1:left.1.length=n)(h2:left.2.length=m):Wf n m (cJ c sizes rows left n):=by
 have key:∀ d,d<n->(eN c sizes rows left d).1.length=n/\(eN c sizes rows left d).2.length=m:=λd hd=>by
  obtain⟨i1,i2⟩:=dh (c:=c) w hs h1 h2 d (by omega)
  have e1:=w.si (d:=d) hd;have e2:=w.at2 (d:=d) hd
  simp only[eN,se]
  rw[jM,bS,bS]
  exact⟨by omega,by omega⟩
 refine⟨by simp[cJ],λr hr=>?_,λr hr=>?_⟩
 ·obtain⟨d,hd,rfl⟩:=List.mem_map.mp hr
  exact(key d (List.mem_range.mp hd)).1
 ·obtain⟨d,hd,rfl⟩:=List.mem_map.mp hr
  exact(key d (List.mem_range.mp hd)).2
theorem ia{a b:Int}(h:0<a):0<(Int.gcd a b:Int):=by
 have:=Int.gcd_pos_of_ne_zero_left b (show a≠0 by omega);omega
theorem J0(w:Wf n m rows)(hs:sizes.length=n)(h1:left.1.length=n)(h2:left.2.length=m)(Gd:Good n (vf sizes) (DD rows))(h0:∀ i,i<n->0<=vf left.1 i/\vf left.1 i<vf sizes i)
  (hc:∀ d,d<n->(c (aU (vf sizes) (DD rows) d) (vf (aC c sizes rows left d).1 d)).1*aU (vf sizes) (DD rows) d+(c (aU (vf sizes) (DD rows) d) (vf (aC c sizes rows left d).1 d)).2*vf (aC c sizes rows left d).1 d=(Int.gcd (aU (vf sizes) (DD rows) d) (vf (aC c sizes rows left d).1 d):Nat)) :
  Tk n (vf sizes) (DD rows) (DD (cJ c sizes rows left n)) (λd=>vf (aC c sizes rows left d).1) (λd=>(c (aU (vf sizes) (DD rows) d) (vf (aC c sizes rows left d).1 d)).1) (λd=>(c (aU (vf sizes) (DD rows) d) (vf (aC c sizes rows left d).1 d)).2) (λd=>(Int.gcd (aU (vf sizes) (DD rows) d) (vf (aC c sizes rows left d).1 d):Nat)) where
 gp:=λd hd=>ia (Gd.pos hd).1
 bz:=hc
 g1:=λd hd=>Int.gcd_dvd_left ..
 g2:=λd hd=>Int.gcd_dvd_right ..
 KN:=λd hd i hi=>by
  obtain⟨i1,i2⟩:=dh (c:=c) w hs h1 h2 d (by omega)
  have e1:=w.si (d:=d) hd
  show vf (row (cJ c sizes rows left n) d).1 i=_
  rw[lG hd]
  simp only[eN,se]
  rw[ka (by rw[bS];omega) (by omega),fU (by omega) (by omega)]
  rfl
 Lu:=λd hd i hi=>by
  obtain⟨i1,i2⟩:=dh (c:=c) w hs h1 h2 d (by omega)
  have e1:=w.si (d:=d) hd
  simp only[aC,se]
  rw[ka (by rw[bS];omega) (by omega),fU (by omega) (by omega)]
  rfl
 l0:=h0
end
end Rg
namespace Rg
section
variable{c:Int->Int->Int×Int}{sizes:List Int}{rows:List Row}{left:Row}{n m k:Nat}{A:Nat->cu}
def CB(c:Int->Int->Int×Int):Prop:=∀ a b:Int,0<a->a<=360->0<=b->b<=360->(c a b).1*a+(c a b).2*b=(Int.gcd a b:Nat)/\(c a b).1.natAbs<2^20/\(c a b).2.natAbs<2^20
theorem kX{a b:Int}(h:0<a)(h2:a<=360):0<a/(Int.gcd a b:Nat)/\a/(Int.gcd a b:Nat)<=360:=by
 have g:=ia (b:=b) h
 obtain⟨q,hq⟩:((Int.gcd a b:Nat):Int)∣a:=Int.gcd_dvd_left ..
 have e:a/(Int.gcd a b:Nat)=q:=by
  have:((Int.gcd a b:Nat):Int)≠0:=by omega
  exact Int.ediv_eq_of_eq_mul_right this hq
 rw[e]
 have q0:0<q:=by
  rcases Int.lt_or_le 0 q with z | z
  ·exact z
  ·have:=Int.mul_nonpos_of_nonneg_of_nonpos (Int.le_of_lt g) z;omega
 refine⟨q0,?_⟩
 have:1*q<=(Int.gcd a b:Nat)*q:=Int.mul_le_mul_of_nonneg_right (by omega) (by omega)
 omega
theorem nA{a b:Int}(h:0<a)(h1:0<=b)(h2:b<=360):0<=b/(Int.gcd a b:Nat)/\b/(Int.gcd a b:Nat)<=360:=by
 have g:=ia (b:=b) h
 exact⟨Int.ediv_nonneg h1 (by omega),Int.le_trans (Int.ediv_le_self _ h1) h2⟩
def Zf(k m:Nat)(P:cu):Prop:=∀ l,k<=l->l<m->P l=0
structure St (n m:Nat) (sizes:List Int) (A:Nat->cu) (k:Nat) (rows:List Row):Prop where
 wf:Wf n m rows
 hs:sizes.length=n
 sm:∀ i,i<n->vf sizes i<=360
 gd:Good n (vf sizes) (DD rows)
 led:∀ d,d<n->Led n (vf sizes) m A (DD rows d) (PP rows d)
 zf:∀ d,d<n->Zf k m (PP rows d)
 bd:∀ d,d<n->Bd (150*k+1) (row rows d).2
 cl:∀ l,l<k->G n (vf sizes) (DD rows) n 0 (A l)
structure Lv (n m:Nat) (sizes:List Int) (A:Nat->cu) (k:Nat) (left:Row):Prop where
 l1:left.1.length=n
 l2:left.2.length=m
 km:k<m
 at_:∀ i,i<n->vf left.1 i=A k i
 iO:∀ i,i<n->0<=A k i/\A k i<vf sizes i
 un:∀ l,l<m->vf left.2 l=if l=k then 1 else 0
theorem lB(h:St n m sizes A k rows)(L:Lv n m sizes A k left):∀ d,d<=n->∀ i,i<n->0<=vf (aC c sizes rows left d).1 i/\vf (aC c sizes rows left d).1 i<vf sizes i
 | 0,_,i,hi=>by show 0<=vf left.1 i/\vf left.1 i<vf sizes i;rw[L.at_ i hi];exact L.iO i hi
 | d+1,hd,i,hi=>by
  obtain⟨i1,i2⟩:=dh (c:=c) h.wf h.hs L.l1 L.l2 d (by omega)
  have e1:=h.wf.si (d:=d) (by omega)
  have hs:=h.hs
  simp only[aC,se]
  rw[ka (by rw[bS];omega) (by omega)]
  have:=h.gd.sp i hi
  exact⟨Int.emod_nonneg _ (by omega),Int.emod_lt_of_pos _ this⟩
theorem St.tk(h:St n m sizes A k rows)(L:Lv n m sizes A k left)(cb:CB c):Tk n (vf sizes) (DD rows) (DD (cJ c sizes rows left n)) (λd=>vf (aC c sizes rows left d).1) (λd=>(c (aU (vf sizes) (DD rows) d) (vf (aC c sizes rows left d).1 d)).1) (λd=>(c (aU (vf sizes) (DD rows) d) (vf (aC c sizes rows left d).1 d)).2) (λd=>(Int.gcd (aU (vf sizes) (DD rows) d) (vf (aC c sizes rows left d).1 d):Nat)) :=
 J0 h.wf h.hs L.l1 L.l2 h.gd (λi hi=>by rw[L.at_ i hi];exact L.iO i hi) λd hd=>by
  have p:=h.gd.pos hd
  have q:=lB (c:=c) h L d (by omega) d hd
  have s:=h.sm d hd
  exact(cb _ _ p.1 (by omega) q.1 (by omega)).1
theorem rf(h:St n m sizes A k rows)(L:Lv n m sizes A k left):∀ d,d<=n->Led n (vf sizes) m A (vf (aC c sizes rows left d).1) (vf (aC c sizes rows left d).2)
 | 0,_=>λi hi=>by
  show vf sizes i∣vf left.1 i-bN m λl=>vf left.2 l*A l i
  rw[L.at_ i hi,jI k (A k i) m L.km (λl=>vf left.2 l*A l i) λl hl=>by
   rw[L.un l hl]
   by_cases z:l=k
   ·subst z;rw[if_pos rfl,if_pos rfl,Int.one_mul]
   ·rw[if_neg z,if_neg z,Int.zero_mul]]
  rw[Int.sub_self];exact Int.dvd_zero _
 | d+1,hd=>by
  obtain⟨i1,i2⟩:=dh (c:=c) h.wf h.hs L.l1 L.l2 d (by omega)
  have e1:=h.wf.si (d:=d) (by omega);have e2:=h.wf.at2 (d:=d) (by omega)
  have hs:=h.hs
  refine Led.mix (a:=aU (vf sizes) (DD rows) d/(Int.gcd (aU (vf sizes) (DD rows) d) (vf (aC c sizes rows left d).1 d):Nat)) (b:=-(vf (aC c sizes rows left d).1 d/(Int.gcd (aU (vf sizes) (DD rows) d) (vf (aC c sizes rows left d).1 d):Nat))) (rf h L d (by omega)) (h.led d (by omega)) (λi hi=>?_) λl hl=>?_
  ·simp only[aC,se]
   rw[ka (by rw[bS];omega) (by omega),fU (by omega) (by omega)]
   exact dc _ _
  ·simp only[aC,se]
   rw[fU (by omega) (by omega)];rfl
theorem uz(h:St n m sizes A k rows)(L:Lv n m sizes A k left):∀ d,d<=n->Zf (k+1) m (vf (aC c sizes rows left d).2)/\vf (aC c sizes rows left d).2 k=bw d λe=>aU (vf sizes) (DD rows) e/(Int.gcd (aU (vf sizes) (DD rows) e) (vf (aC c sizes rows left e).1 e):Nat)
 | 0,_=>⟨λl h1 h2=>by show vf left.2 l=0;rw[L.un l h2,if_neg (by omega)],by show vf left.2 k=1;rw[L.un k L.km,if_pos rfl]⟩
 | d+1,hd=>by
  obtain⟨i1,i2⟩:=dh (c:=c) h.wf h.hs L.l1 L.l2 d (by omega)
  have e2:=h.wf.at2 (d:=d) (by omega)
  obtain⟨j1,j2⟩:=uz h L d (by omega)
  have z:=h.zf d (by omega)
  have km:=L.km
  constructor
  ·intro l h1 h2
   simp only[aC,se]
   rw[fU (by omega) (by omega),j1 l h1 h2,show vf (row rows d).2 l=0 from z l (by omega) h2];simp
  ·rw[bw,← j2]
   simp only[aC,se]
   rw[fU (by omega) (by omega),show vf (row rows d).2 k=0 from z k (Nat.le_refl _) km]
   grind
theorem p8(h:St n m sizes A k rows)(L:Lv n m sizes A k left)(hn:n<=6):∀ d,d<=n->Bd (150*k+1+11*d) (aC c sizes rows left d).2
 | 0,_=>λx hx=>by
  have hx:x∈left.2:=hx
  obtain⟨i,hi,rfl⟩:=List.mem_iff_getElem.mp hx
  have hm:i<m:=by rw[← L.l2];exact hi
  have e:=L.un i hm
  rw[aL hi] at e
  show (left.2[i]).natAbs<_
  rw[e]
  have:2^1<=2^(150*k+1+11*0):=Nat.pow_le_pow_right (by decide) (by omega)
  refine Nat.lt_of_lt_of_le ?_ this
  split
  ·decide
  ·decide
 | d+1,hd=>by
  have p:=h.gd.pos (show d<n by omega)
  have s:=h.sm d (by omega)
  have q:=lB (c:=c) h L d (by omega) d (by omega)
  have a1:=kX (b:=vf (aC c sizes rows left d).1 d) p.1 (by omega)
  have a2:=nA (b:=vf (aC c sizes rows left d).1 d) p.1 q.1 (by omega)
  have:=Bd.mix (A:=9+1) (p8 h L hn d (by omega)) ((h.bd d (by omega)).mono (show 150*k+1<=150*k+1+11*d by omega)) (a:=aU (vf sizes) (DD rows) d/(Int.gcd (aU (vf sizes) (DD rows) d) (vf (aC c sizes rows left d).1 d):Nat)) (b:=-(vf (aC c sizes rows left d).1 d/(Int.gcd (aU (vf sizes) (DD rows) d) (vf (aC c sizes rows left d).1 d):Nat))) (by omega) (by omega)
  exact this.mono (by omega)
theorem St.next(h:St n m sizes A k rows)(L:Lv n m sizes A k left)(cb:CB c)(hn:n<=6):St n m sizes A (k+1) (cJ c sizes rows left n):=by
 have T:=h.tk L cb
 have hs:=h.hs
 refine⟨CK h.wf h.hs L.l1 L.l2,h.hs,h.sm,T.good h.gd,λd hd=>?_,λd hd=>?_,λd hd=>?_,λl hl=>?_⟩
 ·obtain⟨i1,i2⟩:=dh (c:=c) h.wf h.hs L.l1 L.l2 d (by omega)
  have e1:=h.wf.si (d:=d) hd;have e2:=h.wf.at2 (d:=d) hd
  unfold DD PP
  rw[lG hd]
  refine Led.mix (a:=(c (aU (vf sizes) (DD rows) d) (vf (aC c sizes rows left d).1 d)).1) (b:=(c (aU (vf sizes) (DD rows) d) (vf (aC c sizes rows left d).1 d)).2) (h.led d hd) (rf (c:=c) h L d (by omega)) (λi hi=>?_) λl hl=>?_
  ·simp only[eN,se]
   rw[ka (by rw[bS];omega) (by omega),fU (by omega) (by omega)]
   exact dc _ _
  ·simp only[eN,se]
   rw[fU (by omega) (by omega)];rfl
 ·obtain⟨i1,i2⟩:=dh (c:=c) h.wf h.hs L.l1 L.l2 d (by omega)
  have e2:=h.wf.at2 (d:=d) hd
  intro l h1 h2
  unfold PP
  rw[lG hd]
  simp only[eN,se]
  rw[fU (by omega) (by omega),(uz (c:=c) h L d (by omega)).1 l h1 h2,show vf (row rows d).2 l=0 from h.zf d hd l (by omega) h2];simp
 ·rw[lG hd]
  have p:=h.gd.pos hd
  have s:=h.sm d hd
  have q:=lB (c:=c) h L d (by omega) d hd
  have b:=cb (aU (vf sizes) (DD rows) d) (vf (aC c sizes rows left d).1 d) p.1 (by omega) q.1 (by omega)
  have:=Bd.mix (A:=20) ((h.bd d hd).mono (show 150*k+1<=150*k+1+11*d by omega)) (p8 (c:=c) h L hn d (by omega)) b.2.1 b.2.2
  exact this.mono (by omega)
 ·rcases Nat.lt_or_ge l k with q | q
  ·exact(T.main h.gd n 0 (by omega)).1 _ (h.cl l q)
  ·obtain rfl:l=k:=by omega
   exact G.ext (by omega) (λi hi=>L.at_ i hi) (T.main h.gd n 0 (by omega)).2
end
end Rg
namespace Rg
def aO(idle:List (List Int))(k:Nat)(P:List Int):Nat->List Int
 | 0=>P
 | c+1 =>
  let z:=aO idle k P c
  let r:=idle.getD (k-1-c) []
  pQ z 1 r (-(vf z (k-1-c)/vf r (k-1-c)))
def II(idle:List (List Int)):Nat->cu:=λj=>vf (idle.getD j [])
structure Am (n m:Nat) (s:cu) (A:Nat->cu) (k:Nat) (idle:List (List Int)):Prop where
 len:idle.length=k
 l2:∀ j,j<k->(idle.getD j []).length=m
 pos:∀ j,j<k->0<II idle j j
 le:∀ j,j<k->II idle j j<2^60
 zero:∀ j,j<k->∀ l,j<l->l<m->II idle j l=0
 nf:∀ j,j<k->∀ l,l<j->0<=II idle j l/\II idle j l<II idle l l
 vL:∀ j,j<k->Led n s m A (λ_=>0) (II idle j)
section
variable{n m k:Nat}{s:cu}{A:Nat->cu}{idle:List (List Int)}{P:List Int}
theorem Am.bd(h:Am n m s A k idle){j:Nat}(hj:j<k)(hm:k<=m):Bd 60 (idle.getD j []):=λx hx=>by
 obtain⟨l,hl,rfl⟩:=List.mem_iff_getElem.mp hx
 rw[h.l2 j hj] at hl
 have e:II idle j l=(idle.getD j [])[l]'(by rw[h.l2 j hj];exact hl):=aL _
 rw[← e]
 rcases Nat.lt_or_ge l j with q | q
 ·have h1:=h.nf j hj l q
  have h2:=h.le l (by omega)
  omega
 ·rcases Nat.lt_or_ge j l with q2 | q2
  ·rw[h.zero j hj l q2 hl];exact Nat.two_pow_pos _
  ·obtain rfl:l=j:=by omega
   have h1:=h.pos l hj;have h2:=h.le l hj
   omega
theorem span_len(h:Am n m s A k idle)(hP:P.length=m):∀ c,c<=k->(aO idle k P c).length=m
 | 0,_=>hP
 | c+1,hc=>by
  simp only[aO]
  rw[bS,span_len h hP c (by omega),h.l2 _ (by omega)];omega
theorem p5(h:Am n m s A k idle)(hP:P.length=m){c l:Nat}(hc:c<k)(hl:l<m):vf (aO idle k P (c+1)) l=vf (aO idle k P c) l-vf (aO idle k P c) (k-1-c)/II idle (k-1-c) (k-1-c)*II idle (k-1-c) l:=by
 simp only[aO]
 rw[fU (by rw[span_len h hP c (by omega)];exact hl) (by rw[h.l2 _ (by omega)];exact hl)]
 unfold II
 grind
theorem xw(h:Am n m s A k idle)(hP:P.length=m):∀ c,c<=k->∀ l,k<=l->l<m->vf (aO idle k P c) l=vf P l
 | 0,_,_,_,_=>rfl
 | c+1,hc,l,h1,h2=>by
  rw[p5 h hP (by omega) h2,h.zero _ (by omega) l (by omega) h2,xw h hP c (by omega) l h1 h2];simp
theorem uS(h:Am n m s A k idle)(hP:P.length=m)(hm:k<=m):∀ c,c<=k->∀ l,k-c<=l->l<k->0<=vf (aO idle k P c) l/\vf (aO idle k P c) l<II idle l l
 | 0,_,l,h1,h2=>by omega
 | c+1,hc,l,h1,h2=>by
  rw[p5 h hP (by omega) (by omega)]
  rcases Nat.lt_or_ge (k-1-c) l with q | q
  ·rw[h.zero _ (by omega) l q (by omega),Int.mul_zero,Int.sub_zero]
   exact uS h hP hm c (by omega) l (by omega) h2
  ·obtain rfl:l=k-1-c:=by omega
   have p:=h.pos (k-1-c) (by omega)
   have e:=Int.emod_def (vf (aO idle k P c) (k-1-c)) (II idle (k-1-c) (k-1-c))
   rw[Int.mul_comm (vf (aO idle k P c) (k-1-c)/_),← e]
   exact⟨Int.emod_nonneg _ (by omega),Int.emod_lt_of_pos _ p⟩
theorem r9(h:Am n m s A k idle)(hP:P.length=m){v:cu}(hv:Led n s m A v (vf P)):∀ c,c<=k->Led n s m A v (vf (aO idle k P c))
 | 0,_=>hv
 | c+1,hc=>by
  refine Led.mix (a:=1) (b:=-(vf (aO idle k P c) (k-1-c)/II idle (k-1-c) (k-1-c))) (r9 h hP hv c (by omega)) (h.vL (k-1-c) (by omega)) (λi hi=>?_) λl hl=>?_
  ·rw[Int.mul_zero,Int.add_zero,Int.one_mul,Int.sub_self];exact Int.dvd_zero _
  ·rw[p5 h hP (by omega) hl];grind
theorem zJ(h:Am n m s A k idle)(hP:P.length=m)(hm:k<=m){B:Nat}(hB:60<=B)(hb:Bd B P):∀ c,c<=k->Bd (B+62*c) (aO idle k P c)
 | 0,_=>hb
 | c+1,hc=>by
  have ih:=zJ h hP hm hB hb c (by omega)
  intro x hx
  obtain⟨l,hl,rfl⟩:=List.mem_iff_getElem.mp hx
  rw[span_len h hP (c+1) hc] at hl
  rw[← aL,p5 h hP (by omega) hl]
  have p:=h.pos (k-1-c) (by omega)
  have q1:(vf (aO idle k P c) (k-1-c)/II idle (k-1-c) (k-1-c)).natAbs<2^(B+62*c+1):=by
   have h1:=ih.vf (k-1-c)
   have h2:=Int.natAbs_ediv_le_natAbs (vf (aO idle k P c) (k-1-c)) (II idle (k-1-c) (k-1-c))
   rw[Nat.pow_succ];omega
  have q2:(II idle (k-1-c) l).natAbs<2^60:=(h.bd (j:=k-1-c) (by omega) hm).vf l
  have q3:=yI q1 q2
  have q4:=ih.vf l
  have q5:2^(B+62*c)<=2^(B+62*c+1+60):=Nat.pow_le_pow_right (by decide) (by omega)
  have q6:(2:Nat)^(B+62*(c+1))=2^(B+62*c+1+60)*2:=by rw[← Nat.pow_succ];congr 1
  rw[q6];omega
end
section
variable{c:Int->Int->Int×Int}{sizes:List Int}{rows:List Row}{left:Row}{n m k:Nat}{A:Nat->cu}
theorem Tk.order{s:cu}{D D' L:Nat->cu}{u v g:Nat->Int}(t:Tk n s D D' L u v g)(Gd:Good n s D):∀ (k d:Nat) (x:Int),d+k=n->G n s D k d (λi=>x*L d i)->bw n (λe=>aU s D e/g e)∣x*bw d (λe=>aU s D e/g e)
 | 0,d,x,hn,h=>by
  obtain rfl:d=n:=by omega
  exact Int.dvd_mul_left _ _
 | k+1,d,x,hn,h=>by
  have hd:d<n:=by omega
  obtain⟨a,ha⟩:=t.g1 d hd
  obtain⟨b,hb⟩:=t.g2 d hd
  have gp:=t.gp d hd
  have sp:=(Gd.pos hd).1
  have e1:aU s D d/g d=a:=by rw[ha];exact Int.mul_ediv_cancel_left a (by omega)
  have e2:L d d/g d=b:=by rw[hb];exact Int.mul_ediv_cancel_left b (by omega)
  have bz:u d*a+v d*b=1:=by
   have:=t.bz d hd
   rw[ha,hb,show u d*(g d*a)+v d*(g d*b)=g d*(u d*a+v d*b) by grind] at this
   have h2:g d*(u d*a+v d*b)=g d*1:=by omega
   exact Int.eq_of_mul_eq_mul_left (by omega) h2
  obtain⟨q,hq⟩:=h.1
  have hax:a∣x:=by
   have h3:g d*(x*b)=g d*(a*q):=by
    have:x*L d d=aU s D d*q:=hq
    rw[hb,ha] at this;grind
   have h4:x*b=a*q:=Int.eq_of_mul_eq_mul_left (by omega) h3
   exact⟨u d*x+v d*q,by
    have:x=x*(u d*a+v d*b):=by rw[bz,Int.mul_one]
    rw[this]
    have:x*(u d*a+v d*b)=a*(u d*x)+v d*(x*b):=by grind
    rw[this,h4];grind⟩
  obtain⟨y,hy⟩:=hax
  have OL:q=b*y:=by
   have h3:g d*(a*q)=g d*(a*(b*y)):=by
    have:x*L d d=aU s D d*q:=hq
    rw[hb,ha,hy] at this;grind
   have ap:a≠0:=by intro z;rw[z,Int.mul_zero] at ha;omega
   exact Int.eq_of_mul_eq_mul_left ap (Int.eq_of_mul_eq_mul_left (by omega) h3)
  have h2:=h.2
  have q1:x*L d d/aU s D d=q:=by
   show x*L d d/aU s D d=q
   rw[show x*L d d=aU s D d*q from hq];exact Int.mul_ediv_cancel_left q (by omega)
  have:=t.order Gd k (d+1) y (by omega) (Gd.qP (by omega) (λi hi=>?_) h2)
  ·rw[bw,e1] at this
   rw[hy,show a*y*bw d (λe=>aU s D e/g e)=y*(bw d (λe=>aU s D e/g e)*a) by grind]
   exact this
  ·show s i∣y*L (d+1) i-(x*L d i-x*L d d/aU s D d*D d i)
   rw[q1,t.Lu d hd i hi,e1,e2]
   obtain⟨z,hz⟩:=dc (a*L d i+-b*D d i) (s i)
   refine⟨y*z,?_⟩
   have:(a*L d i+-b*D d i)%s i=a*L d i+-b*D d i+s i*z:=by omega
   rw[this,hy,OL];grind
theorem G.sum(Gd:Good n (vf sizes) (DD rows)){P:cu}:∀ k',(∀ l,l<k'->G n (vf sizes) (DD rows) n 0 (A l))->G n (vf sizes) (DD rows) n 0 (λi=>bN k' λl=>P l*A l i)
 | 0,_=>G.zero (by omega)
 | k'+1,h=>G.ext (by omega) (λi _=>rfl) (G.add (by omega) (G.sum Gd k' λl hl=>h l (by omega)) (G.mul (P k') (by omega) (h k' (by omega))))
end
end Rg
namespace Rg
def o7(m k:Nat):List Int:=(List.range m).map λl=>if l=k then 1 else 0
theorem vM{m k l:Nat}(h:l<m):vf (o7 m k) l=if l=k then 1 else 0:=by
 rw[aL (by simp[o7,h])];simp[o7]
def AA(Ls:List (List Int)):Nat->cu:=λl=>vf (Ls.getD l [])
def bO(Ls:List (List Int))(m k:Nat):Row:=(Ls.getD k [],o7 m k)
def RK(c:Int->Int->Int×Int)(sizes:List Int)(Ls:List (List Int))(n m:Nat):Nat->List Row×List (List Int)
 | 0=>(List.replicate n (List.replicate n 0,List.replicate m 0),[])
 | k+1 =>
  (cJ c sizes (RK c sizes Ls n m k).1 (bO Ls m k) n,(RK c sizes Ls n m k).2++[aO (RK c sizes Ls n m k).2 k (aC c sizes (RK c sizes Ls n m k).1 (bO Ls m k) n).2 k])
structure Kz (n m:Nat) (sizes:List Int) (Ls:List (List Int)):Prop where
 len:Ls.length=m
 at_:∀ l,l<m->(Ls.getD l []).length=n
 iO:∀ l,l<m->∀ i,i<n->0<=AA Ls l i/\AA Ls l i<vf sizes i
structure DN (n m:Nat) (sizes:List Int) (Ls:List (List Int)) (k:Nat) (r:List Row×List (List Int)):Prop where
 st:St n m sizes (AA Ls) k r.1
 vL:Am n m (vf sizes) (AA Ls) k r.2
 pr:bw k (λj=>II r.2 j j)*bw n (aU (vf sizes) (DD r.1))=bw n (vf sizes)
 ord:∀ j,j<k->∀ P:cu,Zf (j+1) m P->Led n (vf sizes) m (AA Ls) (λ_=>0) P->II r.2 j j∣P j
section
variable{c:Int->Int->Int×Int}{sizes:List Int}{Ls:List (List Int)}{n m k:Nat}
theorem jn{idle:List (List Int)}{x:List Int}{j:Nat}(h:j<idle.length):II (idle++[x]) j=II idle j:=by
 unfold II
 rw[List.getD_eq_getElem?_getD,List.getElem?_append_left h,← List.getD_eq_getElem?_getD]
theorem kY{idle:List (List Int)}{x:List Int}:II (idle++[x]) idle.length=vf x:=by
 unfold II
 rw[List.getD_eq_getElem?_getD,List.getElem?_append_right (Nat.le_refl _)];simp
theorem Ct{idle:List (List Int)}{x:List Int}{j:Nat}(h:j<idle.length):(idle++[x]).getD j []=idle.getD j []:=by
 rw[List.getD_eq_getElem?_getD,List.getElem?_append_left h,← List.getD_eq_getElem?_getD]
theorem Cy{idle:List (List Int)}{x:List Int}:(idle++[x]).getD idle.length []=x:=by
 rw[List.getD_eq_getElem?_getD,List.getElem?_append_right (Nat.le_refl _)];simp
theorem qz{f:Nat->Int}{k:Nat}:∀ {m:Nat},k<m->(∀ l,k<l->l<m->f l=0)->bN m f=bN k f+f k
 | 0,h,_=>by omega
 | m+1,h,e=>by
  rw[bN]
  by_cases z:k=m
  ·subst z;rfl
  ·rw[qz (m:=m) (by omega) λl h1 h2=>e l h1 (by omega),e m (by omega) (by omega)];omega
theorem wV:∀ {n:Nat} {f:Nat->Int},(∀ i,i<n->0<f i/\f i<=360)->bw n f<=360^n
 | 0,f,_=>by simp[bw]
 | n+1,f,h=>by
  rw[bw,Int.pow_succ]
  exact Int.mul_le_mul (wV λi hi=>h i (by omega)) (h n (by omega)).2 (by have:=(h n (by omega)).1;omega) (Int.pow_nonneg (by decide))
theorem Na{n:Nat}(h:n<=6):(360:Int)^n<=360^6:=by
 have:n=0\/n=1\/n=2\/n=3\/n=4\/n=5\/n=6:=by omega
 rcases this with rfl | rfl | rfl | rfl | rfl | rfl | rfl <;> decide
theorem DN.next{r:List Row×List (List Int)}(h:DN n m sizes Ls k r)(LL:Kz n m sizes Ls)(cb:CB c)(hn:n<=6)(hk:k<m) :
  DN n m sizes Ls (k+1) (cJ c sizes r.1 (bO Ls m k) n,r.2++[aO r.2 k (aC c sizes r.1 (bO Ls m k) n).2 k]):=by
 have L:Lv n m sizes (AA Ls) k (bO Ls m k):=⟨LL.at_ k hk,by simp[bO,o7],hk,λi hi=>rfl,LL.iO k hk,λl hl=>vM hl⟩
 have T:=h.st.tk L cb
 have ll:=dh (c:=c) h.st.wf h.st.hs L.l1 L.l2 n (Nat.le_refl _)
 have zf:=uz (c:=c) h.st L n (Nat.le_refl _)
 have led:=rf (c:=c) h.st L n (Nat.le_refl _)
 have l0:=T.zero h.st.gd n (Nat.le_refl _)
 have il:r.2.length=k:=h.vL.len
 have out:=xw h.vL ll.2 k (Nat.le_refl _)
 have jk:vf (aO r.2 k (aC c sizes r.1 (bO Ls m k) n).2 k) k=bw n λe=>aU (vf sizes) (DD r.1) e/(Int.gcd (aU (vf sizes) (DD r.1) e) (vf (aC c sizes r.1 (bO Ls m k) e).1 e):Nat):=by
  rw[out k (Nat.le_refl _) hk];exact zf.2
 have pos:∀ e,e<n->0<aU (vf sizes) (DD r.1) e/(Int.gcd (aU (vf sizes) (DD r.1) e) (vf (aC c sizes r.1 (bO Ls m k) e).1 e):Nat):=λe he=>by
  have p:=h.st.gd.pos he
  have s:=h.st.sm e he
  exact(kX p.1 (by omega)).1
 have pr:bw (k+1) (λj=>II (r.2++[aO r.2 k (aC c sizes r.1 (bO Ls m k) n).2 k]) j j)*bw n (aU (vf sizes) (DD (cJ c sizes r.1 (bO Ls m k) n)))=bw n (vf sizes):=by
  rw[bw,show II (r.2++[aO r.2 k (aC c sizes r.1 (bO Ls m k) n).2 k]) k=vf (aO r.2 k (aC c sizes r.1 (bO Ls m k) n).2 k) by rw[← il];exact kY]
  rw[jE (g:=λj=>II r.2 j j) λj hj=>by rw[jn (by omega)],← h.pr,jk]
  rw[jE (g:=λd=>((Int.gcd (aU (vf sizes) (DD r.1) d) (vf (aC c sizes r.1 (bO Ls m k) d).1 d):Nat):Int)) λd hd=>T.step h.st.gd hd]
  rw[um (f:=aU (vf sizes) (DD r.1)) (g:=λd=>((Int.gcd (aU (vf sizes) (DD r.1) d) (vf (aC c sizes r.1 (bO Ls m k) d).1 d):Nat):Int)) (h:=λe=>aU (vf sizes) (DD r.1) e/(Int.gcd (aU (vf sizes) (DD r.1) e) (vf (aC c sizes r.1 (bO Ls m k) e).1 e):Nat)) λd hd=>(Int.mul_ediv_cancel' (Int.gcd_dvd_left ..)).symm]
  grind
 have jpos:0<vf (aO r.2 k (aC c sizes r.1 (bO Ls m k) n).2 k) k:=by rw[jk];exact lH pos
 have St':=h.st.next L cb hn
 have jle:vf (aO r.2 k (aC c sizes r.1 (bO Ls m k) n).2 k) k<2^60:=by
  have b:bw n (vf sizes)<=360^n:=wV λi hi=>⟨h.st.gd.sp i hi,h.st.sm i hi⟩
  have b2:(360:Int)^n<=360^6:=Na hn
  have b3:(360:Int)^6<2^60:=by decide
  rw[bw,show II (r.2++[aO r.2 k (aC c sizes r.1 (bO Ls m k) n).2 k]) k=vf (aO r.2 k (aC c sizes r.1 (bO Ls m k) n).2 k) by rw[← il];exact kY] at pr
  have p1:0<bw k (λj=>II (r.2++[aO r.2 k (aC c sizes r.1 (bO Ls m k) n).2 k]) j j):=lH λj hj=>by rw[jn (by omega)];exact h.vL.pos j hj
  have p2:0<bw n (aU (vf sizes) (DD (cJ c sizes r.1 (bO Ls m k) n))):=lH λd hd=>(St'.gd.pos hd).1
  generalize bw k (λj=>II (r.2++[aO r.2 k (aC c sizes r.1 (bO Ls m k) n).2 k]) j j)=a at *
  generalize bw n (aU (vf sizes) (DD (cJ c sizes r.1 (bO Ls m k) n)))=b' at *
  generalize vf (aO r.2 k (aC c sizes r.1 (bO Ls m k) n).2 k) k=x at *
  have e1:1*x<=a*x:=Int.mul_le_mul_of_nonneg_right (by omega) (by omega)
  have e2:a*x*1<=a*x*b':=Int.mul_le_mul_of_nonneg_left (by omega) (by omega)
  omega
 refine⟨St',⟨by simp[il],λj hj=>?_,λj hj=>?_,λj hj=>?_,λj hj l h1 h2=>?_,λj hj l hl=>?_,λj hj=>?_⟩,pr,λj hj P hz hP=>?_⟩
 all_goals
  rcases Nat.lt_or_ge j k with q | q
 ·rw[Ct (by omega)];exact h.vL.l2 j q
 ·obtain rfl:j=r.2.length:=by omega
  rw[Cy];exact span_len h.vL ll.2 k (Nat.le_refl _)
 ·rw[jn (by omega)];exact h.vL.pos j q
 ·obtain rfl:j=r.2.length:=by omega
  rw[kY,il];exact jpos
 ·rw[jn (by omega)];exact h.vL.le j q
 ·obtain rfl:j=r.2.length:=by omega
  rw[kY,il];exact jle
 ·rw[jn (by omega)];exact h.vL.zero j q l h1 h2
 ·obtain rfl:j=r.2.length:=by omega
  rw[kY,out l (by omega) h2];exact zf.1 l (by omega) h2
 ·rw[jn (by omega),jn (by omega)];exact h.vL.nf j q l hl
 ·obtain rfl:j=r.2.length:=by omega
  rw[kY,jn (by omega)];exact uS h.vL ll.2 (by omega) k (Nat.le_refl _) l (by omega) (by omega)
 ·rw[jn (by omega)];exact h.vL.vL j q
 ·obtain rfl:j=r.2.length:=by omega
  rw[kY]
  refine r9 h.vL ll.2 (λi hi=>?_) k (Nat.le_refl _)
  have:=led i hi
  rw[show vf (aC c sizes r.1 (bO Ls m k) n).1 i=0 from l0 i hi] at this
  exact this
 ·rw[jn (by omega)];exact h.ord j q P hz hP
 ·obtain rfl:j=k:=by omega
  rw[show II (r.2++[aO r.2 j (aC c sizes r.1 (bO Ls m j) n).2 j]) j=vf (aO r.2 j (aC c sizes r.1 (bO Ls m j) n).2 j) by rw[← il];exact kY,jk]
  have:=T.order h.st.gd n 0 (P j) (by omega) ?_
  ·rwa [bw,Int.mul_one] at this
  ·refine h.st.gd.qP (by omega) (λi hi=>?_) (G.mul (-1) (by omega) (G.sum (A:=AA Ls) (P:=P) h.st.gd j h.st.cl))
   have e:=hP i hi
   rw[qz hk λl h1 h2=>by rw[hz l (by omega) h2,Int.zero_mul]] at e
   obtain⟨x,hx⟩:=e
   have hx:(0:Int)-(bN j (λl=>P l*AA Ls l i)+P j*AA Ls j i)=vf sizes i*x:=hx
   show vf sizes i∣P j*AA Ls j i - -1*bN j λl=>P l*AA Ls l i
   exact⟨-x,by rw[Int.mul_neg];omega⟩
theorem DN.start(hs:sizes.length=n)(hp:∀ i,i<n->0<vf sizes i/\vf sizes i<=360):DN n m sizes Ls 0 (List.replicate n (List.replicate n 0,List.replicate m 0),[]):=by
 have rw0:∀ d,d<n->row (List.replicate n (List.replicate n 0,List.replicate m 0)) d=(List.replicate n 0,List.replicate m 0):=λd hd=>by
  rw[j_ (by simpa using hd)];simp
 have D0:∀ d,d<n->∀ i,DD (List.replicate n (List.replicate n 0,List.replicate m 0)) d i=0:=λd hd i=>by
  unfold DD;rw[rw0 d hd];exact jS n i
 have P0:∀ d,d<n->∀ i,PP (List.replicate n (List.replicate n 0,List.replicate m 0)) d i=0:=λd hd i=>by
  unfold PP;rw[rw0 d hd];exact jS m i
 have st:∀ d,d<n->aU (vf sizes) (DD (List.replicate n (List.replicate n 0,List.replicate m 0))) d=vf sizes d:=λd hd=>by
  unfold aU;rw[if_pos (D0 d hd d)]
 refine⟨⟨⟨by simp,λr hr=>by rw[List.eq_of_mem_replicate hr];simp,λr hr=>by rw[List.eq_of_mem_replicate hr];simp⟩,hs,λi hi=>(hp i hi).2,⟨λi hi=>(hp i hi).1,λd hd i hi=>?_,λd hd i hi=>D0 d hd i,λd hd=>by rw[st d hd];exact Int.dvd_refl _,λd k hn=>?_⟩,λd hd i hi=>?_,λd hd l _ _=>P0 d hd l,λd hd=>?_,λl hl=>by omega⟩,⟨rfl,λj hj=>by omega,λj hj=>by omega,λj hj=>by omega,λj hj=>by omega,λj hj=>by omega,λj hj=>by omega⟩,?_,λj hj=>by omega⟩
 ·rw[D0 d hd i];have:=(hp i hi).1;omega
 ·exact G.ext (by omega) (λi hi=>by rw[D0 d (by omega) i,Int.mul_zero]) (G.zero (by omega))
 ·rw[D0 d hd i,gu (g:=λ_=>0) λl hl=>by rw[P0 d hd l,Int.zero_mul],jO];exact Int.dvd_zero _
 ·rw[rw0 d hd]
  intro x hx
  rw[List.eq_of_mem_replicate hx];exact Nat.two_pow_pos _
 ·rw[bw,Int.one_mul];exact jE λd hd=>st d hd
theorem DN.all(hs:sizes.length=n)(hp:∀ i,i<n->0<vf sizes i/\vf sizes i<=360)(LL:Kz n m sizes Ls)(cb:CB c)(hn:n<=6):∀ k,k<=m->DN n m sizes Ls k (RK c sizes Ls n m k)
 | 0,_=>DN.start hs hp
 | k+1,hk=>(DN.all hs hp LL cb hn k (by omega)).next LL cb hn (by omega)
end
end Rg
namespace Rg
section
variable{n:Nat}{s:cu}{D:Nat->cu}
theorem oM{a b:Int}(h:b∣a)(h1:-b<a)(h2:a<b):a=0:=by
 obtain⟨c,rfl⟩:=h
 rcases Int.lt_trichotomy c 0 with q | q | q
 ·have:b*c<=b*(-1):=Int.mul_le_mul_of_nonneg_left (by omega) (by omega)
  omega
 ·rw[q,Int.mul_zero]
 ·have:b*1<=b*c:=Int.mul_le_mul_of_nonneg_left (by omega) (by omega)
  omega
theorem G.diff(Gd:Good n s D):∀ k d (v:cu),d+k=n->(∀ i,i<n->-(s i)<v i/\v i<s i)->(∀ i,d<=i->i<n->-(aU s D i)<v i/\v i<aU s D i)->G n s D k d v->∀ i,i<n->v i=0
 | 0,d,v,hn,h0,_,g,i,hi=>oM (g i hi) (h0 i hi).1 (h0 i hi).2
 | k+1,d,v,hn,h0,h1,g,i,hi=>by
  have z:=oM g.1 (h1 d (Nat.le_refl _) (by omega)).1 (h1 d (Nat.le_refl _) (by omega)).2
  refine G.diff Gd k (d+1) v (by omega) h0 (λi hi=>h1 i (by omega)) (G.ext (by omega) (λi _=>?_) g.2) i hi
  show v i-v d/aU s D d*D d i=v i
  rw[z];simp
end
end Rg
namespace Rg
def iQ(n:Nat)(s:cu)(Q:Int)(w v:cu):Int:=bN n λi=>w i*v i*(Q/s i)
section
variable{n:Nat}{s:cu}{D:Nat->cu}{Q:Int}{w v u:cu}
theorem uL(a b:Int){x:cu}(h:∀ i,i<n->x i=a*v i+b*u i):iQ n s Q w x=a*iQ n s Q w v+b*iQ n s Q w u :=
 la a b _ _ _ n λi hi=>by rw[h i hi];grind
theorem wq{f:Nat->Int}{q:Int}:∀ {m:Nat},(∀ l,l<m->q∣f l)->q∣bN m f
 | 0,_=>Int.dvd_zero _
 | m+1,h=>Int.dvd_add (wq λl hl=>h l (by omega)) (h m (by omega))
theorem Fx(hq:∀ i,i<n->s i∣Q)(h:∀ i,i<n->s i∣v i):Q∣iQ n s Q w v:=wq λi hi=>by
 obtain⟨c,hc⟩:=h i hi
 obtain⟨e,he⟩:=hq i hi
 by_cases z:s i=0
 ·rw[hc,z];simp
 ·rw[hc,he,Int.mul_ediv_cancel_left _ z]
  exact⟨w i*c,by grind⟩
theorem Ck(hq:∀ i,i<n->s i∣Q):∀ (k d:Nat) (v:cu),d+k=n->(∀ b,d<=b->b<n->Q∣iQ n s Q w (D b))->G n s D k d v->Q∣iQ n s Q w v
 | 0,d,v,_,_,g=>Fx hq g
 | k+1,d,v,hn,hD,g=>by
  have h1:=Ck hq k (d+1) _ (by omega) (λb h1 h2=>hD b (by omega) h2) g.2
  have h2:=hD d (Nat.le_refl _) (by omega)
  have e:=uL (s:=s) (Q:=Q) (w:=w) (n:=n) 1 (v d/aU s D d) (v:=λi=>v i-v d/aU s D d*D d i) (u:=D d) (x:=v) λi _=>by omega
  rw[e]
  exact Int.dvd_add (Int.dvd_trans h1 (Int.dvd_mul_left _ _)) (Int.dvd_trans h2 (Int.dvd_mul_left _ _))
theorem Eo{c:Nat}(hc:c<n){x:Int}{w':cu}(h0:w c=0)(h1:w' c=x)(h2:∀ i,i<n->i≠c->w' i=w i):iQ n s Q w' v=iQ n s Q w v+x*v c*(Q/s c):=by
 have e1:iQ n s Q w' v=1*iQ n s Q w v+1*bN n λi=>if i=c then x*v c*(Q/s c) else 0:=la 1 1 _ _ _ n λi hi=>by
  by_cases z:i=c
  ·rw[z,h1,h0];simp
  ·rw[h2 i hi z];simp[z]
 have e2:=jI c (x*v c*(Q/s c)) n hc (λi=>if i=c then x*v c*(Q/s c) else 0) λ_ _=>rfl
 rw[e1,e2];omega
theorem Cs(h:∀ i,i<n->w i*v i=0):iQ n s Q w v=0:=by
 unfold iQ
 rw[gu (g:=λ_=>0) λi hi=>by rw[h i hi];simp,jO]
def iN(s:cu)(D:Nat->cu)(d:Nat):Int:=s d/aU s D d
theorem lP(g:Good n s D){d:Nat}(h:d<n):iN s D d*aU s D d=s d/\0<iN s D d/\iN s D d<=s d:=by
 have p:=g.pos h
 obtain⟨c,hc⟩:=g.dv d h
 have e:iN s D d=c:=by unfold iN;rw[hc,Int.mul_ediv_cancel_left _ (by omega)]
 have sp:=g.sp d h
 have c0:0<c:=by
  rcases Int.lt_trichotomy c 0 with q | q | q
  ·have:=Int.mul_neg_of_pos_of_neg p.1 q;omega
  ·rw[q] at hc;omega
  ·exact q
 refine⟨by rw[e,hc,Int.mul_comm],by omega,?_⟩
 rw[e]
 have:1*c<=aU s D d*c:=Int.mul_le_mul_of_nonneg_right (by omega) (by omega)
 omega
structure Wk (n:Nat) (s:cu) (D:Nat->cu) (Q:Int) (dial a:Nat) (w:cu):Prop where
 beh:∀ i,dial<i->i<n->w i=0
 at_:w dial=iN s D dial%s dial
 ah:∀ i,a<=i->i<dial->0<=w i/\w i<iN s D i
 no:∀ i,i<a->w i=0
 kill:∀ b,a<=b->b<n->Q∣iQ n s Q w (D b)
theorem Wk.start(g:Good n s D)(hq:∀ i,i<n->s i∣Q){dial:Nat}(hd:dial<n){w:cu}(h:∀ i,i<n->w i=if i=dial then iN s D dial%s dial else 0):Wk n s D Q dial dial w where
 beh:=λi h1 h2=>by rw[h i h2,if_neg (by omega)]
 at_:=by rw[h dial hd,if_pos rfl]
 ah:=λi h1 h2=>by omega
 no:=λi hi=>by rw[h i (by omega),if_neg (by omega)]
 kill:=λb h1 h2=>by
  by_cases z:b=dial
  ·subst z
   obtain⟨f1,f2,f3⟩:=lP g h2
   obtain⟨e,he⟩:=hq b h2
   obtain⟨x,hx⟩:=g.diag h2
   obtain⟨y,hy⟩:=dc (iN s D b) (s b)
   have sp:=g.sp b h2
   have e1:iQ n s Q w (D b)=1*bN n (λi=>if i=b then (iN s D b%s b)*D b b*(Q/s b) else 0)+0*0:=by
    have:=la 1 0 (λi=>if i=b then (iN s D b%s b)*D b b*(Q/s b) else 0) (λ_=>0) (λi=>w i*D b i*(Q/s i)) n λi hi=>by
     rw[h i hi]
     by_cases z:i=b
     ·subst z;simp
     ·simp[z]
    rw[show iQ n s Q w (D b)=bN n λi=>w i*D b i*(Q/s i) from rfl,this];omega
   rw[e1,jI b _ n h2 _ λ_ _=>rfl,he,Int.mul_ediv_cancel_left _ (by omega)]
   have hy':iN s D b%s b=iN s D b+s b*y:=by omega
   have Rn:D b b=aU s D b+s b*x:=by omega
   refine⟨1+iN s D b*x+y*D b b,?_⟩
   rw[hy',Rn]
   generalize iN s D b=F at *
   generalize aU s D b=T at *
   generalize s b=S at *
   subst f1
   grind
  ·rw[Cs λi hi=>?_]
   ·exact Int.dvd_zero _
   ·rcases Nat.lt_or_ge i b with q | q
    ·rw[g.xJ b h2 i q];simp
    ·rw[h i hi,if_neg (by omega)];simp
theorem Wk.next(g:Good n s D)(hQ:0<Q)(hq:∀ i,i<n->s i∣Q){dial c:Nat}(hd:dial<n){w w':cu}(W:Wk n s D Q dial (c+1) w)(hc:c<dial)(h1:w' c=-(iQ n s Q w (D c)%Q/(Q/iN s D c))%iN s D c)(h2:∀ i,i<n->i≠c->w' i=w i):Wk n s D Q dial c w':=by
 obtain⟨f1,f2,f3⟩:=lP g (show c<n by omega)
 obtain⟨e,he⟩:=hq c (by omega)
 have sp:=g.sp c (by omega)
 have sh:Q/iN s D c=aU s D c*e:=by
  rw[he,← f1,Int.mul_assoc,Int.mul_ediv_cancel_left _ (by omega)]
 have hs:Q/s c=e:=by rw[he,Int.mul_ediv_cancel_left _ (by omega)]
 have fQ:iN s D c*(aU s D c*e)=Q:=by rw[← Int.mul_assoc,f1,he]
 have sh0:0<aU s D c*e:=by
  rcases Int.lt_trichotomy (aU s D c*e) 0 with q | q | q
  ·have:=Int.mul_neg_of_pos_of_neg f2 q;omega
  ·rw[q] at fQ;omega
  ·exact q
 have cl:=g.Ln c (n-(c+1)) (by omega)
 have k1:=Ck (w:=w) hq (n-(c+1)) (c+1) _ (by omega) (λb h1 h2=>W.kill b h1 h2) cl
 rw[uL (s:=s) (Q:=Q) (w:=w) (n:=n) (iN s D c) 0 (v:=D c) (u:=D c) (x:=λi=>s c/aU s D c*D c i) λi _=>by unfold iN;omega] at k1
 obtain⟨x,hx⟩:=k1
 have dv:(aU s D c*e)∣iQ n s Q w (D c):=⟨x,by
  have:iN s D c*iQ n s Q w (D c)=iN s D c*(aU s D c*e*x):=by
   rw[← Int.mul_assoc,fQ];omega
  exact Int.eq_of_mul_eq_mul_left (by omega) this⟩
 have ed:=Int.emod_def (iQ n s Q w (D c)) Q
 have dv2:(aU s D c*e)∣iQ n s Q w (D c)%Q:=by
  rw[ed]
  exact Int.dvd_sub dv (Int.dvd_trans ⟨iN s D c,by rw[Int.mul_comm];exact fQ.symm⟩ (Int.dvd_mul_right _ _))
 obtain⟨q,QB⟩:=dv2
 rw[sh] at h1
 have eq1:iQ n s Q w (D c)%Q/(aU s D c*e)=q:=by rw[QB,Int.mul_ediv_cancel_left _ (by omega)]
 rw[eq1] at h1
 obtain⟨y,hy⟩:=dc (-q) (iN s D c)
 obtain⟨z,hz⟩:=g.diag (show c<n by omega)
 refine⟨λi a b=>?_,?_,λi a b=>?_,λi a=>?_,λb a1 a2=>?_⟩
 ·rw[h2 i b (by omega)];exact W.beh i a b
 ·rw[h2 dial hd (by omega)];exact W.at_
 ·by_cases q2:i=c
  ·rw[q2,h1]
   exact⟨Int.emod_nonneg _ (by omega),Int.emod_lt_of_pos _ f2⟩
  ·rw[h2 i (by omega) q2];exact W.ah i (by omega) b
 ·rw[h2 i (by omega) (by omega)];exact W.no i (by omega)
 ·rw[Eo (w:=w) (show c<n by omega) (W.no c (by omega)) rfl h2]
  by_cases q2:b=c
  ·subst q2
   rw[hs]
   have e1:w' b=-q+iN s D b*y:=by omega
   have e2:D b b=aU s D b+s b*z:=by omega
   have e3:iQ n s Q w (D b)=Q*(iQ n s Q w (D b)/Q)+aU s D b*e*q:=by omega
   refine⟨iQ n s Q w (D b)/Q+y+w' b*z,?_⟩
   rw[e2]
   generalize iQ n s Q w (D b)/Q=p at *
   rw[e3,e1]
   generalize iN s D b=F at *
   generalize aU s D b=T at *
   generalize s b=S at *
   subst f1
   rw[he]
   grind
  ·rw[g.xJ b a2 c (by omega)]
   simp only[Int.mul_zero,Int.zero_mul,Int.add_zero]
   exact W.kill b (by omega) a2
theorem Wk.first(g:Good n s D)(hQ:0<Q)(hq:∀ i,i<n->s i∣Q){dial:Nat}(hd:dial<n){w l:cu}(W:Wk n s D Q dial 0 w)(l0:∀ i,i<dial->l i=0)(l1:0<l dial)(l2:l dial<aU s D dial):¬ Q∣iQ n s Q w l:=by
 obtain⟨f1,f2,f3⟩:=lP g hd
 obtain⟨e,he⟩:=hq dial hd
 have sp:=g.sp dial hd
 have lt:iN s D dial<s dial:=by
  rcases Int.lt_or_eq_of_le f3 with q | q
  ·exact q
  ·rw[q] at f1
   have:aU s D dial=1:=by
    have:s dial*aU s D dial=s dial*1:=by rw[Int.mul_one];exact f1
    exact Int.eq_of_mul_eq_mul_left (by omega) this
   omega
 have wd:w dial=iN s D dial:=by rw[W.at_,Int.emod_eq_of_lt (by omega) lt]
 have e1:iQ n s Q w l=bN n (λi=>if i=dial then iN s D dial*l dial*e else 0):=gu λi hi=>by
  by_cases z:i=dial
  ·rw[z,wd,he,Int.mul_ediv_cancel_left _ (by omega)];simp
  ·rcases Nat.lt_or_ge i dial with q | q
   ·rw[l0 i q];simp[z]
   ·rw[W.beh i (by omega) hi];simp[z]
 rw[e1,jI dial _ n hd _ λ_ _=>rfl]
 rintro⟨c,hc⟩
 have e0:0<e:=by
  rcases Int.lt_trichotomy e 0 with q | q | q
  ·have:=Int.mul_neg_of_pos_of_neg sp q;omega
  ·rw[q] at he;omega
  ·exact q
 have e2:iN s D dial*e*l dial=iN s D dial*e*(aU s D dial*c):=by
  rw[he,← f1] at hc
  grind
 have e3:l dial=aU s D dial*c:=Int.eq_of_mul_eq_mul_left (by
  have:=Int.mul_pos f2 e0;omega) e2
 have:=jJ (a:=l dial) (b:=aU s D dial) (by omega) l2 ⟨c,e3⟩
 omega
end
end Rg
namespace Rg
section
variable{n:Nat}{s:cu}{D:Nat->cu}{Q:Int}
variable{W:Nat->cu}
end
end Rg
namespace xH
open PySem L2 PyProof.Rows Rg
local macro_rules | `(tactic| dsimp? [$ts,*])=>`(tactic| simp only[aV,ay,mL,aq,w9,xh,retS,aY,pF,gL,iq,ar,M.aP,M.bind_some,M.bind_none,M.BQ,M.bind_assoc,ae,aj,ai,aa,ao,EW,Er,IL,GZ,HL,Ht,Ji,G6,IT,IX,IY,I0,HI,JD,IH,Iv,cz,iP,EJ,wD,IV,Av,NP,AJ,jH,Kk,kc,E8,itemsOf,kI,FW,ER,zY,EU,ES,Ds,Bo,Cf,Ew,Fu,CT,qI,CV,dE,cG,xy,JA,List.length_cons,List.length_nil,List.map_cons,List.map_nil,List.cons_append,List.nil_append,List.replicate,List.getElem?_cons_zero,List.getElem?_cons_succ,List.getElem?_nil,List.set_cons_zero,List.set_cons_succ,List.set_nil,Nat.reduceAdd,Nat.reduceSub,if_true,if_false,Bool.not_true,Bool.not_false,Bool.false_eq_true,ite_true,ite_false,reduceIte,reduceCtorEq,Nat.sub_self,mF,dy,da,Option.map_some,Option.map_none,tN,Ig,HX,EZ,Fp,FG,IJ,F5,Em,E5,kZ,List.any_cons,List.any_nil,String.reduceBEq,Bool.or_false,Bool.or_true,Bool.true_or,Bool.false_or,Bool.and_true,Bool.and_false,Bool.true_and,Bool.false_and,Ej,Ex,G2,Jx,EE,Es,E9,F9,DI,Cz,gG,pW,List.foldl_cons,List.foldl_nil,uK,av trivial,$(⟨ts.elemsAndSeps⟩),*])
theorem oG(i:Int):fN [.int i]=M.ok (.bl true):=by rfl
theorem zi{α:Type}{inj:α->PV}{h:α->Bool}{p:PV}(xs:List α)(n:Int)(hp:p=.tup (xs.map inj)\/p=.lst (xs.map inj))(H:∀ a∈xs,fN [inj a]=M.ok (.bl (h a)))(hz:xs.length<=sizeLine):gz [p,.int n]=M.ok (.bl (decide ((xs.length:Int)=n)&&xs.all h)):=by
 have key:bP (cj 0) none (ai fN (aa (ae 0) ao)) (xs.map inj) [none]=M.ok (xs.map λa=>.bl (h a)):=gC xs λa ha=>by dsimp? [H a ha]
 have key2:sy [.lst (xs.map λa=>.bl (h a))]=M.ok (.bl (xs.all h)):=by
  have:=qV (xs.map h)
  rw[List.map_map] at this
  rw[show (λa=>PV.bl (h a))=PV.bl∘h from rfl,this]
  simp[List.all_map]
 unfold gz jK
 rcases hp with rfl | rfl
 all_goals
  dsimp? [List.length_map]
  by_cases e:(xs.length:Int)=n
  ·simp only[e,decide_true,Bool.not_true,M.aP,Bool.false_eq_true,if_false,w9,Bool.true_and]
   dsimp? [List.length_map,av hz,key,key2]
  ·simp only[e,decide_false,Bool.not_false,M.aP,if_true,xh,Bool.false_and]
   dsimp? []
theorem Cj(xs:List Int)(n:Int)(hz:xs.length<=sizeLine):gz [tI xs,.int n]=M.ok (.bl (decide ((xs.length:Int)=n))):=by
 exact(zi (p:=tI xs) (h:=λ_=>true) xs n (.inl rfl) (λa _=>oG a) hz).trans (by rw[List.all_eq_true.mpr λ_ _=>rfl,Bool.and_true])
theorem G7(xs:List Int)(n:Int)(hz:xs.length<=sizeLine):gz [lI xs,.int n]=M.ok (.bl (decide ((xs.length:Int)=n))):=by
 exact(zi (p:=lI xs) (h:=λ_=>true) xs n (.inr rfl) (λa _=>oG a) hz).trans (by rw[List.all_eq_true.mpr λ_ _=>rfl,Bool.and_true])
theorem within_int(x a b:Int):dG [.int x,.int a,.int b]=M.ok (.bl (decide (a<=x/\x<=b))):=by
 unfold dG eY
 dsimp? [oG]
 by_cases h:a<=x
 ·simp only[h,decide_true,if_true,true_and];dsimp? []
 ·simp only[h,decide_false,false_and];dsimp? []
theorem sA(xs:List Int)(h1:1<=xs.length)(h6:xs.length<=6)(hx:∀ x∈xs,2<=x/\x<=360):dR [lI xs]=M.ok .b_:=by
 unfold dR fu
 have a1:¬ (6:Int)<xs.length:=by omega
 have a2:¬ (xs.length:Int)=0:=by omega
 dsimp? [a1,a2,decide_false,Ca]
 refine dq xs.zipIdx (λzs env=>(∃ b c,env=[some (.sh (lI xs)),b,c])/\∀ z∈zs,2<=z.1/\z.1<=360) ⟨⟨_,_,rfl⟩,λz hz=>hx z.1 (List.fst_mem_of_mem_zipIdx hz)⟩ ?_ ?_
 ·rintro⟨a,i⟩ r env ⟨⟨b,c,rfl⟩,hz⟩
  have ha:=hz (a,i) List.mem_cons_self
  refine⟨_,[some (.sh (lI xs)),some (.sh (.int i)),some (.sh (.int a))],rfl,?_,⟨_,_,rfl⟩,λz PZ=>hz z (List.mem_cons_of_mem _ PZ)⟩
  dsimp? [within_int,ha,and_self,decide_true]
 ·rintro N_ ⟨⟨b,c,rfl⟩,_⟩;rfl
theorem k9(n:Nat)(xs:List (List Int))(h8:xs.length<=8)(hx:∀ x∈xs,x.length=n)(hn:n<=100):gg [.lst (xs.map lI),.int n]=M.ok .b_:=by
 unfold gg f7
 have a1:¬ (8:Int)<xs.length:=by omega
 dsimp? [a1,decide_false,List.length_map,vb]
 refine dq xs.zipIdx (λzs env=>(∃ b c,env=[some (.sh (.lst (xs.map lI))),some (.sh (.int n)),b,c])/\∀ z∈zs,z.1.length=n) ⟨⟨_,_,rfl⟩,λz hz=>hx z.1 (List.fst_mem_of_mem_zipIdx hz)⟩ ?_ ?_
 ·rintro⟨a,i⟩ r env ⟨⟨b,c,rfl⟩,hz⟩
  have ha:a.length=n:=hz (a,i) List.mem_cons_self
  refine⟨_,[some (.sh (.lst (xs.map lI))),some (.sh (.int n)),some (.sh (.int i)),some (.sh (lI a))],rfl,?_,⟨_,_,rfl⟩,λz PZ=>hz z (List.mem_cons_of_mem _ PZ)⟩
  dsimp? [G7 a n (aJ (by omega)),ha,decide_true]
 ·rintro N_ ⟨⟨b,c,rfl⟩,_⟩;rfl
theorem qF(n:Nat)(p:PV):(List.replicate n [p]).flatten=List.replicate n p:=by
 induction n with
 | zero=>rfl
 | succ n ih=>rw[List.replicate_succ,List.flatten_cons,ih];rfl
theorem mul_one(p:PV)(n:Nat)(h8:n<=1000):cv (.tup [p]) (.int (n:Int))=M.ok (.tup (List.replicate n p)):=by
 have h2:[p].length*(n:Int).toNat<=sizeLine:=by
  rw[Int.toNat_natCast]
  exact aJ (by show 1*n<=1000;omega)
 have h3:(n:Int)<2^63:=Int.lt_of_le_of_lt (Int.ofNat_le.mpr h8) (by decide)
 have h4:-(2^63)<=(n:Int):=Int.le_trans (by decide) (Int.natCast_nonneg n)
 rw[cv,av ⟨rfl,h4,h3,h2⟩,Int.toNat_natCast,qF]
theorem eZ(xs:List PV)(h8:xs.length<=8):gP [.lst xs,.b_]=M.ok (tI (List.replicate xs.length 1)):=by
 unfold gP g9
 dsimp? [yc,sZ,mul_one (.int 1) xs.length (by omega)]
 rw[tI,List.map_replicate]
def xD(xs sizes:List Int):List Int:=(xs.zip sizes).map λz=>z.1%z.2
theorem nV(p q:PV)(xs sizes:List Int)(hp:bR p=some (xs.map PV.int))(hq:bR q=some (sizes.map PV.int))(hs:∀ s∈sizes,0<s)(hz:xs.length<=1000):i5 [p,q]=M.ok (tI (xD xs sizes)):=by
 have key:bP (bx 0 1) none (aj cw (ae 0) (ae 1)) ((xs.zip sizes).map λz=>.tup [.int z.1,.int z.2]) [none,none]=M.ok ((xs.zip sizes).map λz=>.int (z.1%z.2)):=by
  refine jY (p:=λz:Int×Int=>PV.int z.1) (q:=λz:Int×Int=>PV.int z.2) (xs.zip sizes) λz hz=>?_
  have:=hs z.2 (List.of_mem_zip (a:=z.1) (b:=z.2) hz).2
  dsimp? [aF this]
 unfold i5 lR
 have hl:(xs.zip sizes).length<=sizeLine:=by rw[List.length_zip];exact aJ (Nat.le_trans (Nat.min_le_left _ _) hz)
 dsimp? [cN xs sizes hp hq,List.length_map,av hl,key]
 rw[tI,xD,List.map_map];rfl
theorem v5(a b c:PV):aQ (.tup [a,b,c]) (.int 0)=M.ok a:=ck (j:=0) rfl rfl
theorem G0(a b c:PV):aQ (.tup [a,b,c]) (.int 1)=M.ok b:=ck (j:=1) rfl rfl
theorem Jk(a b c:PV):aQ (.tup [a,b,c]) (.int 2)=M.ok c:=ck (j:=2) rfl rfl
theorem oV(a b:Int)(ha:a.natAbs<2^60)(hb:b.natAbs<2^60):∃ s t,gq [.int a,.int b]=M.ok (.tup [.int (Int.gcd a b),.int s,.int t])/\s*a+t*b=Int.gcd a b/\s.natAbs<=b.natAbs+1/\t.natAbs<=a.natAbs+(b.natAbs+1)*a.natAbs+b.natAbs+1:=by
 let J:af->Prop:=λenv=>∃ r s t r' s' t' x y,env=[some (.sh (.int a)),some (.sh (.int b)),some (.sh ((PV.tup [PV.int r,PV.int s,PV.int t]))),some (.sh ((PV.tup [PV.int r',PV.int s',PV.int t']))),x,y]/\Eu.St a b r s t r' s' t'
 let m:af->Nat:=λenv=>match env with
  | [_,_,_,some (.sh (.tup [.int r,_,_])),_,_]=>r.natAbs
  | _=>0
 have hk:(b.natAbs+1)*a.natAbs<=2^60*2^60:=Nat.mul_le_mul (by omega) (by omega)
 have hk2:(2:Nat)^60*2^60=2^120:=by decide
 have start:J [some (.sh (.int a)),some (.sh (.int b)),some (.sh ((PV.tup [PV.int a,PV.int 1,PV.int 0]))),some (.sh ((PV.tup [PV.int b,PV.int 0,PV.int 1]))),none,none]:=⟨_,_,_,_,_,_,_,_,rfl,Eu.start a b⟩
 have loop:=s_ (u:=cz (aj nY (aj aQ (ae 3) (λ_=>M.ok (.int 0))) (λ_=>M.ok (.int 0)))) (b:=(aq (aY 4 (aj bq (aj aQ (ae 2) (λ_=>M.ok (.int 0))) (aj aQ (ae 3) (λ_=>M.ok (.int 0)))))
  (aq (aY 5 (jN (aa (aj jh (aj aQ (ae 2) (λ_=>M.ok (.int 0))) (aj cv (ae 4) (aj aQ (ae 3) (λ_=>M.ok (.int 0))))) (aa (aj jh (aj aQ (ae 2) (λ_=>M.ok (.int 1))) (aj cv (ae 4) (aj aQ (ae 3) (λ_=>M.ok (.int 1))))) (aa (aj jh (aj aQ (ae 2) (λ_=>M.ok (.int 2))) (aj cv (ae 4) (aj aQ (ae 3) (λ_=>M.ok (.int 2))))) ao)))))
  (aq (aY 2 (ae 3))
  (aq (aY 3 (ae 5))
  ar))))) J m ?_ _ start
 ·obtain⟨N_,e1,⟨r,s,t,r',s',t',x,y,rfl,st⟩,e2⟩:=loop
  have hr':r'=0:=by
   revert e2
   dsimp? [v5]
   intro e2
   have:(!decide (r'=0))=false:=by injection e2 with e2;injection e2
   simpa using this
  subst hr'
  obtain⟨d1,d2⟩:=Eu.done st
  have hg:(r.natAbs:Int)=Int.gcd a b:=by
   have h1:r.natAbs∣Int.gcd a b:=Int.dvd_gcd (Int.natAbs_dvd.mpr d1) (Int.natAbs_dvd.mpr d2)
   have h2:((Int.gcd a b:Nat):Int)∣r:=by
    rw[st.c0]
    exact Int.dvd_add (Int.dvd_trans (Int.gcd_dvd_left ..) (Int.dvd_mul_left _ _)) (Int.dvd_trans (Int.gcd_dvd_right ..) (Int.dvd_mul_left _ _))
   have h3:Int.gcd a b∣r.natAbs:=Int.ofNat_dvd_left.mp h2
   rw[Nat.dvd_antisymm h1 h3]
  unfold gq lx
  dsimp? []
  rw[e1]
  dsimp? [v5,G0,Jk]
  by_cases hneg:r<0
  ·refine⟨-s,-t,?_,?_,by rw[Int.natAbs_neg];exact st.b0,by rw[Int.natAbs_neg];exact st.d0⟩
   ·simp only[hneg,decide_true,if_true];dsimp? []
    rw[show -r=(Int.gcd a b:Int) by omega]
   ·have:=st.c0
    rw[Int.neg_mul,Int.neg_mul];omega
  ·refine⟨s,t,?_,?_,st.b0,st.d0⟩
   ·simp only[hneg,decide_false,Bool.false_eq_true,if_false];dsimp? []
    rw[show r=(Int.gcd a b:Int) by omega]
   ·have:=st.c0;omega
 ·rintro env ⟨r,s,t,r',s',t',x,y,rfl,st⟩
  by_cases h0:r'=0
  ·refine .inl ?_
   dsimp? [v5]
   simp[h0]
  ·refine .inr ⟨?_,?_⟩
   ·dsimp? [v5]
    simp[h0]
   ·obtain⟨Rh,lt⟩:=Eu.turn st h0
    have b1:=st.m1;have b0:=st.m0;have c1:=st.b1;have c2:=st.d1;have c3:=Rh.m1
    have q1:(r.fdiv r').natAbs<=r.natAbs+1:=by
     obtain⟨f1,f2,f3⟩:=Eu.tU r r' h0
     generalize r.fdiv r'=q at *
     have e:q*r'=r-(r-q*r'):=by omega
     have e2:(q*r').natAbs<=r.natAbs+(r-q*r').natAbs:=by omega
     rw[Int.natAbs_mul] at e2
     have:q.natAbs*1<=q.natAbs*r'.natAbs:=Nat.mul_le_mul_left _ (by omega)
     rcases Nat.lt_or_ge (r.natAbs+1) q.natAbs with h | h
     ·have h5:(r.natAbs+2)*r'.natAbs<=q.natAbs*r'.natAbs:=Nat.mul_le_mul_right _ (by omega)
      have h6:r.natAbs*1<=r.natAbs*r'.natAbs:=Nat.mul_le_mul_left _ (by omega)
      rw[Nat.add_mul] at h5
      omega
     ·exact h
    have q2:(r.fdiv r').natAbs<2^200:=by omega
    refine⟨[some (.sh (.int a)),some (.sh (.int b)),some (.sh ((PV.tup [PV.int r',PV.int s',PV.int t']))),some (.sh ((PV.tup [PV.int (r-r.fdiv r'*r'),PV.int (s-r.fdiv r'*s'),PV.int (t-r.fdiv r'*t')]))),some (.sh (.int (r.fdiv r'))),some (.sh ((PV.tup [PV.int (r-r.fdiv r'*r'),PV.int (s-r.fdiv r'*s'),PV.int (t-r.fdiv r'*t')])))],?_,⟨_,_,_,_,_,_,_,_,rfl,Rh⟩,lt⟩
    dsimp? [v5,G0,Jk,ot h0 (Nat.lt_of_lt_of_le (show r'.natAbs<2^200 by omega) (Nat.pow_le_pow_right (by decide) (by decide))),aN (k:=200) (l:=200) q2 (show r'.natAbs<2^200 by omega),aN (k:=200) (l:=200) q2 (show s'.natAbs<2^200 by omega),aN (k:=200) (l:=200) q2 (show t'.natAbs<2^200 by omega)]
def R(sizes:List Int):Int:=(Lc.DG (sizes.map Int.toNat):Nat)
structure Sz (sizes:List Int):Prop where
 h1:1<=sizes.length
 h6:sizes.length<=6
 hx:∀ x∈sizes,2<=x/\x<=360
theorem xB{sizes:List Int}(h:Sz sizes):0<R sizes:=by
 refine Int.ofNat_lt.mpr (Lc.lcm_pos λn hn=>?_)
 obtain⟨x,hx,rfl⟩:=List.mem_map.mp hn
 have:=h.hx x hx;omega
theorem Ll{sizes:List Int}(h:Sz sizes):R sizes<2^60:=by
 have h1:=Lc.qw 9 (sizes.map Int.toNat) 1 0 (by decide) (by decide) λn hn=>by
  obtain⟨x,hx,rfl⟩:=List.mem_map.mp hn
  have:=h.hx x hx;omega
 have h2:(2:Nat)^(0+9*(sizes.map Int.toNat).length)<=2^54:=Nat.pow_le_pow_right (by decide) (by rw[List.length_map];have:=h.h6;omega)
 have h3:Lc.DG (sizes.map Int.toNat)<=2^54:=Nat.le_trans h1 h2
 unfold R;omega
theorem Kc{sizes:List Int}(h:Sz sizes){x:Int}(hx:x∈sizes):x∣R sizes:=by
 have h1:=Lc.lcm_dvd (ns:=sizes.map Int.toNat) (List.mem_map.mpr ⟨x,hx,rfl⟩)
 have h2:=Int.ofNat_dvd.mpr h1
 rw[Int.toNat_of_nonneg (by have:=h.hx x hx;omega)] at h2
 exact h2
structure Acc (sizes r:List Int) (acc:Nat):Prop where
 pos:0<acc
 le:acc<=2^(9*(6-r.length))
 len:r.length<=6
 val:(r.map Int.toNat).foldl Nat.lcm acc=Lc.DG (sizes.map Int.toNat)
 iO:∀ x∈r,2<=x/\x<=360
theorem Acc.start{sizes:List Int}(h:Sz sizes):Acc sizes sizes 1:=⟨by decide,Nat.one_le_two_pow,h.h6,rfl,h.hx⟩
theorem Acc.lt{sizes r:List Int}{acc:Nat}(h:Acc sizes r acc):acc<2^60:=by
 have h2:(2:Nat)^(9*(6-r.length))<=2^54:=Nat.pow_le_pow_right (by decide) (by omega)
 have:=h.le;omega
theorem Acc.turn{sizes r:List Int}{x:Int}{acc:Nat}(h:Acc sizes (x::r) acc):Acc sizes r (Nat.lcm acc x.toNat)/\(acc:Int)/(Int.gcd acc x:Nat)*x=(Nat.lcm acc x.toNat:Nat)/\(acc:Int)/(Int.gcd acc x:Nat)<=acc/\0<Int.gcd acc x:=by
 have hx:=h.iO x List.mem_cons_self
 have hp:=h.pos
 obtain⟨n,rfl⟩:=Int.eq_ofNat_of_zero_le (show 0<=x by omega)
 have hg:Int.gcd (acc:Int) (n:Int)=Nat.gcd acc n:=rfl
 refine⟨⟨Nat.lcm_pos hp (by omega),?_,?_,h.val,λy hy=>h.iO y (List.mem_cons_of_mem _ hy)⟩,?_,?_,?_⟩
 ·have h1:Nat.lcm acc n<=acc*n:=Nat.le_of_dvd (Nat.mul_pos hp (by omega)) (Nat.lcm_dvd (Nat.dvd_mul_right ..) (Nat.dvd_mul_left ..))
  have h2:acc*n<=2^(9*(6-(r.length+1)))*2^9:=Nat.mul_le_mul h.le (by omega)
  have hl:r.length+1<=6:=h.len
  rw[← Nat.pow_add,show 9*(6-(r.length+1))+9=9*(6-r.length) by omega] at h2
  exact Nat.le_trans h1 h2
 ·have hl:r.length+1<=6:=h.len
  omega
 ·rw[hg,Int.toNat_natCast,← Lc.Cp];norm_cast
 ·rw[hg]
  exact Int.ofNat_le.mpr (Nat.div_le_self acc (Nat.gcd acc n))
 ·rw[hg];exact Nat.gcd_pos_of_pos_left _ hp
theorem i8(sizes:List Int)(h:Sz sizes):dj [lI sizes]=M.ok (.int (R sizes)):=by
 unfold dj eo
 dsimp? []
 refine dq sizes (λr env=>∃ acc x,env=[some (.sh (lI sizes)),some (.sh (.int (acc:Nat))),x]/\Acc sizes r acc) ⟨1,_,rfl,.start h⟩ ?_ ?_
 ·rintro a r env ⟨acc,x,rfl,A⟩
  obtain⟨A2,e1,e2,e3⟩:=A.turn
  have l1:=A.lt
  have ha:=A.iO a List.mem_cons_self
  obtain⟨s,t,ec,_,_,_⟩:=oV (acc:Int) a (by omega) (by omega)
  have g1:Int.gcd acc a<=acc:=Nat.le_of_dvd A.pos (Int.ofNat_dvd.mp (Int.gcd_dvd_left ..))
  have d0:0<=(acc:Int)/(Int.gcd acc a:Nat):=Int.ediv_nonneg (by omega) (by omega)
  refine⟨_,[some (.sh (lI sizes)),some (.sh (.int (Nat.lcm acc a.toNat:Nat))),some (.sh (.int a))],rfl,?_,_,_,rfl,A2⟩
  dsimp? [ec,v5,aD (i:=(acc:Int)) (show (0:Int)<(Int.gcd acc a:Nat) by omega) (show ((Int.gcd acc a:Nat):Int)<2^64 by omega),aN (k:=64) (l:=64) (show ((acc:Int)/(Int.gcd acc a:Nat)).natAbs<2^64 by omega) (show a.natAbs<2^64 by omega),e1]
 ·rintro N_ ⟨acc,x,rfl,A⟩
  dsimp? []
  have:=A.val
  rw[R,← this];rfl
def n6(sizes:List Int)(levers:List (List Int)):List (Str×PV):=[("dial_sizes", tI sizes),("lever_settings", .tup (levers.map tI)),("lever_prices", tI (List.replicate levers.length 1)),("least_round", .int (R sizes))]
def du(sizes:List Int)(levers:List (List Int)):PV:=.obj az (n6 sizes levers)
structure EN (sizes xs:List Int):Prop where
 len:xs.length=sizes.length
 iO:∀ z∈xs.zip sizes,0<=z.1/\z.1<z.2
theorem xj(f:Str)(p:PV):∀ fs:List (Str×PV),(u7 f p fs).length<=fs.length+1
 | []=>by simp[u7]
 | (g,q)::r=>by
  have:=xj f p r
  unfold u7
  split
  ·simp
  ·simp;omega
theorem eP{f:Str}{p:PV}{fs:List (Str×PV)}{n:Nat}(h:fs.length<=n):(u7 f p fs).length<=n+1:=Nat.le_trans (xj f p fs) (by omega)
theorem dU(a C:Addr)(f:Str)(p:PV)(fs:List (Str×PV))(r:af)(h:fs.length<1000):Dp 0 C f p (some (.bd a C fs)::r)=M.ok (.nx (some (.bd a C (u7 f p fs))::r)):=by
 show cD _ _=_
 rw[av ⟨rfl,h⟩];rfl
theorem Fy(sizes:List Int)(levers:List (List Int))(h:Sz sizes)(h8:levers.length<=8)(hl:∀ l∈levers,l.length=sizes.length):eh az eO [.b_] [lI sizes,.lst (levers.map lI)]=M.ok (du sizes (levers.map λl=>xD l sizes)):=by
 have key:∀ a,eO a ([lI sizes,.lst (levers.map lI)]++[.b_])=M.ok (n6 sizes (levers.map λl=>xD l sizes)):=by
  intro a
  have e1:bP (cj 0) none (ai i5 (aa (ae 0) (aa (ae 1) ao))) (levers.map lI) [none,some (.sh (lI sizes))]=M.ok (levers.map λl=>tI (xD l sizes)):=by
   refine gC levers λl hm=>?_
   have hs:=hl l hm
   have:=nV (lI l) (lI sizes) l sizes rfl rfl (λs hs=>by have:=h.hx s hs;omega) (by rw[hs];have:=h.h6;omega)
   dsimp? [this]
  unfold eO h9
  simp only[mW]
  rw[av (show ([lI sizes,PV.lst (levers.map lI)]++[PV.b_]).length+1=4 from rfl)]
  simp only[rY,u6]
  dsimp? [sA sizes h.h1 h.h6 h.hx,k9 sizes.length levers h8 hl (by have:=h.h6;omega),iM,List.length_map,av (aJ (show levers.length<=1000 by omega)),e1,eZ _ (show (levers.map lI).length<=8 by rw[List.length_map];exact h8),i8 sizes h]
  rw[dU _ _ _ _ _ _ (by simp)]
  dsimp? [iM,List.length_map,av (aJ (show levers.length<=1000 by omega)),e1,eZ _ (show (levers.map lI).length<=8 by rw[List.length_map];exact h8),i8 sizes h]
  rw[dU _ _ _ _ _ _ (Nat.lt_of_le_of_lt (eP (Nat.zero_le 0)) (by decide))]
  dsimp? [iM,List.length_map,av (aJ (show levers.length<=1000 by omega)),e1,eZ _ (show (levers.map lI).length<=8 by rw[List.length_map];exact h8),i8 sizes h]
  rw[dU _ _ _ _ _ _ (Nat.lt_of_le_of_lt (eP (eP (Nat.zero_le 0))) (by decide))]
  dsimp? [iM,List.length_map,av (aJ (show levers.length<=1000 by omega)),e1,eZ _ (show (levers.map lI).length<=8 by rw[List.length_map];exact h8),i8 sizes h]
  rw[dU _ _ _ _ _ _ (Nat.lt_of_le_of_lt (eP (eP (eP (Nat.zero_le 0)))) (by decide))]
  dsimp? []
  show cD _ _=_
  rw[av ⟨rfl,rfl⟩]
  rw[n6,List.map_map,List.length_map]
  rfl
 unfold eh
 rw[qY key];rfl
theorem C9(sizes:List Int)(levers:List (List Int)):(n6 sizes levers).lookup (Str.ofString "dial_sizes")=some (tI sizes):=rfl
theorem Aj(sizes:List Int)(levers:List (List Int)):(n6 sizes levers).lookup (Str.ofString "lever_settings")=some (.tup (levers.map tI)):=rfl
theorem CJ(sizes:List Int)(levers:List (List Int)):(n6 sizes levers).lookup (Str.ofString "least_round")=some (.int (R sizes)):=rfl
theorem KQ(sizes:List Int)(levers:List (List Int)):(n6 sizes levers).lookup (Str.ofString "sizes")=none:=rfl
theorem KC(sizes:List Int)(levers:List (List Int)):(n6 sizes levers).lookup (Str.ofString "levers")=none:=rfl
theorem wH(sizes:List Int)(levers:List (List Int)):aT [du sizes levers]=M.ok (tI sizes):=by
 unfold aT a_
 dsimp? [cT,du,beq_self_eq_true,C9]
theorem uj(sizes:List Int)(levers:List (List Int)):aZ [du sizes levers]=M.ok (.tup (levers.map tI)):=by
 unfold aZ bh
 dsimp? [cT,du,beq_self_eq_true,Aj]
theorem p_{g:af->M PV}{env:af}{sizes:List Int}{levers:List (List Int)}(h:g env=M.ok (du sizes levers)):bD az "sizes" aT g ao env=M.ok (tI sizes):=by
 have:=wH sizes levers
 rw[bD,h,M.aP]
 show cD _ (M.bind (ao env) _)=_
 rw[av ⟨rfl,KQ sizes levers⟩]
 exact this
theorem qm{g:af->M PV}{env:af}{sizes:List Int}{levers:List (List Int)}(h:g env=M.ok (du sizes levers)):bD az "levers" aZ g ao env=M.ok (.tup (levers.map tI)):=by
 have:=uj sizes levers
 rw[bD,h,M.aP]
 show cD _ (M.bind (ao env) _)=_
 rw[av ⟨rfl,KC sizes levers⟩]
 exact this
def vh(sizes xs:List Int):Bool:=decide ((xs.length:Int)=sizes.length)&&(xs.zip sizes).all λz=>decide (0<=z.1/\z.1<z.2)
theorem uu{sizes xs:List Int}:vh sizes xs=true ↔ EN sizes xs:=by
 unfold vh
 constructor
 ·intro h
  simp only[Bool.and_eq_true,decide_eq_true_eq,List.all_eq_true] at h
  exact⟨by omega,h.2⟩
 ·intro h
  simp only[Bool.and_eq_true,decide_eq_true_eq,List.all_eq_true]
  exact⟨by rw[h.len],h.iO⟩
theorem Co(x s:Int):∀ env:af,env=[some (.sh (.int x)),some (.sh (.int s))]->kc D_ DK (λ_=>M.ok (.int 0)) (ae 0) (ae 1) env=M.ok (.bl (decide (0<=x/\x<s))):=by
 rintro env rfl
 dsimp? []
 by_cases h:0<=x
 ·simp only[h,decide_true,if_true,true_and]
  try dsimp? []
 ·simp only[h,decide_false,false_and]
  try dsimp? []
theorem HQ{α:Type}(h:α->Bool)(xs:List α):sy [.lst (xs.map λa=>.bl (h a))]=M.ok (.bl (xs.all h)):=by
 have:=qV (xs.map h)
 rw[List.map_map] at this
 rw[show (λa=>PV.bl (h a))=PV.bl∘h from rfl,this]
 simp[List.all_map]
section
variable{sizes:List Int}{levers:List (List Int)}
theorem mB(h:Sz sizes)(xs:List Int)(hz:xs.length<=1000):aW [du sizes levers,tI xs]=M.ok (.bl (vh sizes xs)):=by
 have key:bP (bx 0 1) none (kc D_ DK (λ_=>M.ok (.int 0)) (ae 0) (ae 1)) ((xs.zip sizes).map λz=>.tup [.int z.1,.int z.2]) [none,none]=M.ok ((xs.zip sizes).map λz=>.bl (decide (0<=z.1/\z.1<z.2))) :=
  jY (p:=λz:Int×Int=>PV.int z.1) (q:=λz:Int×Int=>PV.int z.2) (xs.zip sizes) λz hz=>Co z.1 z.2 _ rfl
 have hl:(xs.zip sizes).length<=sizeLine:=by rw[List.length_zip];exact aJ (Nat.le_trans (Nat.min_le_left _ _) hz)
 unfold aW cX
 dsimp? [p_ (sizes:=sizes) (levers:=levers) (g:=ae 0) (env:=[some (.sh (du sizes levers)),some (.sh (tI xs)),none]) rfl,Cj xs sizes.length (aJ hz)]
 unfold vh
 by_cases e:(xs.length:Int)=sizes.length
 ·simp only[e,decide_true,Bool.not_true,Bool.false_eq_true,if_false,Bool.true_and]
  dsimp? [cN (p:=tI xs) (q:=tI sizes) xs sizes rfl rfl,List.length_map,av hl,key,HQ]
 ·simp only[e,decide_false,Bool.not_false,if_true,Bool.false_and]
  dsimp? []
theorem gQ(h:Sz sizes){xs:List Int}(hs:EN sizes xs):aR [du sizes levers,tI xs]=M.ok .b_:=by
 unfold aR bB
 dsimp? [mB (levers:=levers) h xs (by rw[hs.len];have:=h.h6;omega),uu.mpr hs]
end
theorem jV{xs ys:List Int}{z:Int×Int}(h:z∈xs.zip ys):z.1∈xs/\z.2∈ys:=List.of_mem_zip (a:=z.1) (b:=z.2) h
theorem uX{sizes xs:List Int}(h:Sz sizes)(hs:EN sizes xs){x:Int}(hx:x∈xs):0<=x/\x<360:=by
 obtain⟨i,hi,rfl⟩:=List.mem_iff_getElem.mp hx
 have hj:i<sizes.length:=by rw[← hs.len];exact hi
 have:=hs.iO (xs[i],sizes[i]) (by
  rw[List.mem_iff_getElem]
  exact⟨i,by rw[List.length_zip];omega,by rw[List.getElem_zip]⟩)
 have h2:=h.hx sizes[i] (List.getElem_mem hj)
 exact⟨this.1,by have:=this.2;simp only at this;omega⟩
theorem uW(xs sizes:List Int):xD xs sizes=z8 xs sizes:=rfl
def cf(a b:Int):Int×Int:=open Classical in if h:∃ p:Int×Int,gq [.int a,.int b]=M.ok (.tup [.int (Int.gcd a b),.int p.1,.int p.2])/\p.1*a+p.2*b=Int.gcd a b/\p.1.natAbs<=b.natAbs+1/\p.2.natAbs<=a.natAbs+(b.natAbs+1)*a.natAbs+b.natAbs+1 then h.choose else (0,0)
theorem Gi(a b:Int)(ha:a.natAbs<2^60)(hb:b.natAbs<2^60):gq [.int a,.int b]=M.ok (.tup [.int (Int.gcd a b),.int (cf a b).1,.int (cf a b).2])/\(cf a b).1*a+(cf a b).2*b=Int.gcd a b/\(cf a b).1.natAbs<=b.natAbs+1/\(cf a b).2.natAbs<=a.natAbs+(b.natAbs+1)*a.natAbs+b.natAbs+1:=by
 have h:∃ p:Int×Int,gq [.int a,.int b]=M.ok (.tup [.int (Int.gcd a b),.int p.1,.int p.2])/\p.1*a+p.2*b=Int.gcd a b/\p.1.natAbs<=b.natAbs+1/\p.2.natAbs<=a.natAbs+(b.natAbs+1)*a.natAbs+b.natAbs+1:=by
  obtain⟨s,t,h⟩:=oV a b ha hb
  exact⟨(s,t),h⟩
 unfold cf
 rw[dif_pos h]
 exact h.choose_spec
theorem BO:CB cf:=λa b h1 h2 h3 h4=>by
 obtain⟨_,e,b1,b2⟩:=Gi a b (by omega) (by omega)
 refine⟨e,by omega,?_⟩
 have:(b.natAbs+1)*a.natAbs<=361*360:=Nat.mul_le_mul (by omega) (by omega)
 omega
def mk(r:Row):PV:=.tup [tI r.1,tI r.2]
theorem pe(r:Row):aQ (mk r) (.int 0)=M.ok (tI r.1):=ck (p:=mk r) (j:=0) rfl rfl
theorem Dv(r:Row):aQ (mk r) (.int 1)=M.ok (tI r.2):=ck (p:=mk r) (j:=1) rfl rfl
theorem mD{xs:List Int}{i:Nat}(h:i<xs.length):aQ (tI xs) (.int (i:Int))=M.ok (.int (vf xs i)) :=
 ck (p:=tI xs) rfl (by rw[List.getElem?_map,List.getElem?_eq_getElem h,aL h];rfl)
theorem rW{rows:List Row}{d:Nat}(h:d<rows.length):aQ (.lst (rows.map mk)) (.int (d:Int))=M.ok (mk (row rows d)) :=
 ck (p:=.lst (rows.map mk)) rfl (by rw[List.getElem?_map,List.getElem?_eq_getElem h,j_ h];rfl)
theorem qT{A B:Nat}(p q:PV)(xs ys:List Int)(a b:Int)(hp:bR p=some (xs.map PV.int))(hq:bR q=some (ys.map PV.int))(hx:Bd B xs)(hy:Bd B ys)(ha:a.natAbs<2^A)(hb:b.natAbs<2^A)(hB:B<=9000)(hA:A<=9000)(hz:xs.length<=1000):lF [p,.int a,q,.int b]=M.ok (tI (pQ xs a ys b)):=by
 have key:bP (bx 0 1) none (aj eR (aj cv (ae 2) (ae 0)) (aj cv (ae 3) (ae 1))) ((xs.zip ys).map λz=>.tup [.int z.1,.int z.2]) [none,none,some (.sh (.int a)),some (.sh (.int b))]=M.ok ((xs.zip ys).map λz=>.int (a*z.1+b*z.2)):=by
  refine jY (p:=λz:Int×Int=>PV.int z.1) (q:=λz:Int×Int=>PV.int z.2) (xs.zip ys) λz hz=>?_
  have m:=List.of_mem_zip (a:=z.1) (b:=z.2) hz
  dsimp? [aN (k:=A) (l:=B) ha (hx _ m.1) hA hB,aN (k:=A) (l:=B) hb (hy _ m.2) hA hB]
 have hl:(xs.zip ys).length<=sizeLine:=by rw[List.length_zip];exact aJ (Nat.le_trans (Nat.min_le_left _ _) hz)
 unfold lF mZ
 dsimp? [cN xs ys hp hq,List.length_map,av hl,key]
 rw[tI,pQ,List.map_map];rfl
theorem yU{A B:Nat}{sizes:List Int}{r q:Row}{a b:Int}(hs:∀ s∈sizes,0<s)(h1:Bd B r.1)(h2:Bd B r.2)(h3:Bd B q.1)(h4:Bd B q.2)(ha:a.natAbs<2^A)(hb:b.natAbs<2^A)(hB:B<=9000)(hA:A<=9000)(z1:r.1.length<=100)(z2:r.2.length<=100):dX [tI sizes,mk r,.int a,mk q,.int b]=M.ok (mk (se sizes r a q b)):=by
 unfold dX fz
 dsimp? [pe,Dv,qT (tI r.1) (tI q.1) r.1 q.1 a b rfl rfl h1 h3 ha hb hB hA (by omega),qT (tI r.2) (tI q.2) r.2 q.2 a b rfl rfl h2 h4 ha hb hB hA (by omega),nV (tI (pQ r.1 a q.1 b)) (tI sizes) (pQ r.1 a q.1 b) sizes rfl rfl hs (by rw[bS];omega)]
 rfl
theorem uH{sizes:List Int}{rows:List Row}{n m d:Nat}(w:Wf n m rows)(hs:sizes.length=n)(hd:d<n):dJ [tI sizes,.lst (rows.map mk),.int (d:Int)]=M.ok (.int (aU (vf sizes) (DD rows) d)):=by
 unfold dJ eU
 have e1:=w.si hd
 dsimp? [rW (rows:=rows) (d:=d) (by rw[w.len];exact hd),pe,mD (xs:=(row rows d).1) (i:=d) (by omega)]
 unfold aU
 by_cases z:DD rows d d=0
 ·have z':vf (row rows d).1 d=0:=z
  simp only[z',z,decide_true,if_true]
  dsimp? [mD (xs:=sizes) (i:=d) (by omega)]
 ·have z':¬ vf (row rows d).1 d=0:=z
  simp only[z',z,decide_false,Bool.false_eq_true,if_false]
  dsimp? []
  rfl
theorem drop_cons{α:Type}{xs:List α}{d:Nat}{a:α}{r:List α}(h:xs.drop d=a::r):d<xs.length/\xs[d]?=some a/\xs.drop (d+1)=r:=by
 have hd:d<xs.length:=by
  rcases Nat.lt_or_ge d xs.length with q | q
  ·exact q
  ·rw[List.drop_eq_nil_of_le q] at h;cases h
 rw[List.drop_eq_getElem_cons hd] at h
 injection h with h1 h2
 exact⟨hd,by rw[List.getElem?_eq_getElem hd,h1],h2⟩
theorem eS(env:af):ko ao env=M.ok []:=by
 simp only[ko,ao,M.aP]
 exact if_pos (Nat.zero_le _)
theorem vp{i:Nat}{f:af->M PV}{env:af}{xs:List PV}{p:PV}(h:env[i]?=some (some (.ow xs)))(hf:f env=M.ok p)(hz:xs.length<1000):jG i f env=M.ok (.nx (env.set i (some (.ow (xs++[p]))))):=by
 unfold jG
 rw[h]
 show M.bind (f env) _=_
 rw[hf,M.aP,if_pos (n5 (Nat.le_of_lt hz))]
theorem vE{n:Nat}{sizes xs:List Int}(hl:xs.length=n)(h:∀ i,i<n->0<=vf xs i/\vf xs i<vf sizes i)(hs:∀ i,i<n->vf sizes i<=360):Bd 9 xs:=λx hx=>by
 obtain⟨i,hi,rfl⟩:=List.mem_iff_getElem.mp hx
 have h1:=h i (by omega);have h2:=hs i (by omega)
 rw[aL hi] at h1
 omega
theorem Bv{a b:Int}(h1:-1000<=a)(h2:a<=1000)(h3:-1000<=b)(h4:b<=1000):zX [.int a,.int b]=M.ok ((List.range (b-a).toNat).map λ(i:Nat)=>.int (a+(i:Int))):=by
 have h:-(2^62)<=a/\a<2^62/\-(2^62)<=b/\b<2^62:=by omega
 show cD (-(2^62)<=a/\a<2^62/\-(2^62)<=b/\b<2^62) _=_
 rw[av h]
section
variable{n m k:Nat}{sizes:List Int}{A:Nat->cu}{rows:List Row}{left:Row}
theorem St.BL(h:St n m sizes A k rows){d:Nat}(hd:d<n):Bd 9 (row rows d).1:=vE (h.wf.si hd) (λi hi=>h.gd.iO d hd i hi) h.sm
theorem DF(h:St n m sizes A k rows):∀ s∈sizes,0<s:=λs hs=>by
 obtain⟨i,hi,rfl⟩:=List.mem_iff_getElem.mp hs
 have:=h.gd.sp i (by rw[← h.hs];exact hi)
 rwa [aL hi] at this
theorem DA(h:St n m sizes A k rows)(L:Lv n m sizes A k left)(hn:n<=6)(hm:m<=8):kf [tI sizes,.lst (rows.map mk),mk left]=M.ok (.tup [.lst ((cJ cf sizes rows left n).map mk),tI (aC cf sizes rows left n).2]):=by
 have rl:=h.wf.len
 have hkm:=L.km
 unfold kf jT
 dsimp? [eS,vb]
 refine dq rows.zipIdx (λzs env=>∃ d x4 x5 x6 x7 x8,d<=n/\rows.zipIdx.drop d=zs/\env=[some (.sh (tI sizes)),some (.sh (.lst (rows.map mk))),some (.sh (mk (aC cf sizes rows left d))),some (.ow ((cJ cf sizes rows left d).map mk)),x4,x5,x6,x7,x8]) ⟨0,none,none,none,none,none,Nat.zero_le _,rfl,rfl⟩ ?_ ?_
 ·rintro⟨a,i⟩ zs env ⟨d,x4,x5,x6,x7,x8,hd,Ql,rfl⟩
  obtain⟨h1,h2,h3⟩:=drop_cons Ql
  rw[List.length_zipIdx,rl] at h1
  have h4:a=row rows d/\i=d:=by
   rw[List.getElem?_zipIdx] at h2
   rw[j_ (by rw[rl];exact h1)]
   rw[List.getElem?_eq_getElem (by rw[rl];exact h1)] at h2
   simp at h2
   exact⟨h2.1.symm,h2.2.symm⟩
  obtain⟨rfl,rfl⟩:=h4
  have ll:=dh (c:=cf) h.wf h.hs L.l1 L.l2 i (by omega)
  have lk:=lB (c:=cf) h L i (by omega)
  have lb:=p8 (c:=cf) h L hn i (by omega)
  have st:=h.gd.pos h1
  have sm:=h.sm i h1
  have nt:=lk i h1
  have e1:=h.wf.si h1;have e2:=h.wf.at2 h1
  generalize Oz:aU (vf sizes) (DD rows) i=Pj at *
  generalize hnt:vf (aC cf sizes rows left i).1 i=nt' at *
  obtain⟨c1,c2,c3,c4⟩:=Gi Pj nt' (by omega) (by omega)
  have cb:=BO Pj nt' st.1 (by omega) nt.1 (by omega)
  have gp:=ia (b:=nt') st.1
  have gl:(Int.gcd Pj nt':Int)<=Pj:=Int.le_of_dvd st.1 (Int.gcd_dvd_left ..)
  have a1:=kX (b:=nt') st.1 (by omega)
  have a2:=nA (b:=nt') st.1 nt.1 (by omega)
  have B1:Bd 1300 (row rows i).1:=(St.BL h h1).mono (by omega)
  have B2:Bd 1300 (row rows i).2:=(h.bd i h1).mono (by omega)
  have B3:Bd 1300 (aC cf sizes rows left i).1:=(vE ll.1 lk h.sm).mono (by omega)
  have B4:Bd 1300 (aC cf sizes rows left i).2:=lb.mono (by omega)
  have w1:=yU (A:=20) (sizes:=sizes) (DF h) B1 B2 B3 B4 cb.2.1 cb.2.2 (by decide) (by decide) (by omega) (by omega)
  have w2:=yU (A:=20) (sizes:=sizes) (a:=Pj/(Int.gcd Pj nt':Nat)) (b:=-(nt'/(Int.gcd Pj nt':Nat))) (DF h) B3 B4 B1 B2 (by omega) (by omega) (by decide) (by decide) (by omega) (by omega)
  have ew:eN cf sizes rows left i=se sizes (row rows i) (cf Pj nt').1 (aC cf sizes rows left i) (cf Pj nt').2:=by
   simp only[eN,Oz,hnt]
  have el:aC cf sizes rows left (i+1)=se sizes (aC cf sizes rows left i) (Pj/(Int.gcd Pj nt':Nat)) (row rows i) (-(nt'/(Int.gcd Pj nt':Nat))):=by
   simp only[aC,Oz,hnt]
  refine⟨_,[some (.sh (tI sizes)),some (.sh (.lst (rows.map mk))),some (.sh (mk (aC cf sizes rows left (i+1)))),some (.ow ((cJ cf sizes rows left (i+1)).map mk)),some (.sh (.int i)),some (.sh (mk (row rows i))),some (.sh (.int Pj)),some (.sh (.int nt')),some (.sh (.tup [.int (Int.gcd Pj nt'),.int (cf Pj nt').1,.int (cf Pj nt').2]))],rfl,?_,i+1,_,_,_,_,_,by omega,h3,rfl⟩
  have sok:=uH h.wf h.hs h1
  rw[Oz] at sok
  have nok:=mD (xs:=(aC cf sizes rows left i).1) (i:=i) (by omega)
  rw[hnt] at nok
  dsimp? [sok,pe,nok,c1]
  rw[vp (i:=3) rfl (p:=mk (eN cf sizes rows left i)) (by dsimp? [G0,Jk,w1,ew]) (by simp[cJ];omega)]
  dsimp? [v5,aD (i:=Pj) gp (by omega),aD (i:=nt') gp (by omega),w2,el]
  rw[cJ,cJ,List.range_succ,List.map_append,List.map_append]
  rfl
 ·rintro env ⟨d,x4,x5,x6,x7,x8,hd,Ql,rfl⟩
  have Q_:d=n:=by
   have:=congrArg List.length Ql
   rw[List.length_drop,List.length_zipIdx,rl] at this
   simp at this
   omega
  subst Q_
  dsimp? [Dv]
def a0(sizes:List Int)(rows:List Row)(r:Row)(f:Nat):Nat->Row
 | 0=>r
 | c+1 =>
  let l:=a0 sizes rows r f c
  se sizes l 1 (row rows (f+c)) (-(vf l.1 (f+c)/aU (vf sizes) (DD rows) (f+c)))
theorem i0(h:St n m sizes A k rows){r:Row}{f:Nat}(h1:r.1.length=n)(h2:r.2.length=m):∀ c,f+c<=n->(a0 sizes rows r f c).1.length=n/\(a0 sizes rows r f c).2.length=m
 | 0,_=>⟨h1,h2⟩
 | c+1,hc=>by
  obtain⟨i1,i2⟩:=i0 h (f:=f) h1 h2 c (by omega)
  have e1:=h.wf.si (d:=f+c) (by omega);have e2:=h.wf.at2 (d:=f+c) (by omega)
  have hs:=h.hs
  simp only[a0,se]
  rw[jM,bS,bS]
  exact⟨by omega,by omega⟩
theorem n9(h:St n m sizes A k rows){r:Row}{f:Nat}(h1:r.1.length=n)(h2:r.2.length=m)(h0:∀ i,i<n->0<=vf r.1 i/\vf r.1 i<vf sizes i):Dn n (vf sizes) (DD rows) f (λd=>vf (a0 sizes rows r f (d-f)).1) where
 w0:=λi hi=>by rw[Nat.sub_self];exact h0 i hi
 ws:=λd hf hd i hi=>by
  obtain⟨c,rfl⟩:∃ c,d=f+c:=⟨d-f,by omega⟩
  obtain⟨i1,i2⟩:=i0 h (f:=f) h1 h2 c (by omega)
  have e1:=h.wf.si (d:=f+c) (by omega)
  have hs:=h.hs
  show vf (a0 sizes rows r f (f+c+1-f)).1 i=_
  rw[show f+c+1-f=c+1 by omega,show f+c-f=c by omega]
  simp only[a0,se]
  rw[ka (by rw[bS];omega) (by omega),fU (by omega) (by omega)]
  rfl
theorem uJ(h:St n m sizes A k rows){r:Row}{f:Nat}(h1:r.1.length=n)(h2:r.2.length=m){P₀:cu}{B:cu}(hl:Led n (vf sizes) m A (λi=>vf r.1 i-B i) (λl=>vf r.2 l-P₀ l)):∀ c,f+c<=n->Led n (vf sizes) m A (λi=>vf (a0 sizes rows r f c).1 i-B i) (λl=>vf (a0 sizes rows r f c).2 l-P₀ l)
 | 0,_=>hl
 | c+1,hc=>by
  obtain⟨i1,i2⟩:=i0 h (f:=f) h1 h2 c (by omega)
  have e1:=h.wf.si (d:=f+c) (by omega);have e2:=h.wf.at2 (d:=f+c) (by omega)
  have hs:=h.hs
  refine Led.mix (a:=1) (b:=-(vf (a0 sizes rows r f c).1 (f+c)/aU (vf sizes) (DD rows) (f+c))) (uJ h (f:=f) h1 h2 hl c (by omega)) (h.led (f+c) (by omega)) (λi hi=>?_) λl hl=>?_
  ·simp only[a0,se]
   rw[ka (by rw[bS];omega) (by omega),fU (by omega) (by omega)]
   obtain⟨z,hz⟩:=dc (1*vf (a0 sizes rows r f c).1 i+-(vf (a0 sizes rows r f c).1 (f+c)/aU (vf sizes) (DD rows) (f+c))*vf (row rows (f+c)).1 i) (vf sizes i)
   refine⟨z,?_⟩
   rw[← hz]
   unfold DD
   grind
  ·simp only[a0,se]
   rw[fU (by omega) (by omega)]
   unfold PP
   grind
theorem uZ(h:St n m sizes A k rows){r:Row}{f B:Nat}(h1:r.1.length=n)(h2:r.2.length=m)(h0:∀ i,i<n->0<=vf r.1 i/\vf r.1 i<vf sizes i)(hB:150*k+1<=B)(hb:Bd B r.2):∀ c,f+c<=n->Bd (B+11*c) (a0 sizes rows r f c).2
 | 0,_=>hb
 | c+1,hc=>by
  have k0:=(n9 h (f:=f) h1 h2 h0).kept h.gd (f+c) (by omega) (by omega) (f+c) (by omega)
  rw[show f+c-f=c by omega] at k0
  have sm:=h.sm (f+c) (by omega)
  have p:=h.gd.pos (d:=f+c) (by omega)
  have q:=Int.ediv_le_self (aU (vf sizes) (DD rows) (f+c)) k0.1
  have q0:=Int.ediv_nonneg k0.1 (Int.le_of_lt p.1)
  have:=Bd.mix (A:=10) (uZ h (f:=f) h1 h2 h0 hB hb c (by omega)) ((h.bd (f+c) (by omega)).mono (show 150*k+1<=B+11*c by omega)) (a:=1) (b:=-(vf (a0 sizes rows r f c).1 (f+c)/aU (vf sizes) (DD rows) (f+c))) (by decide) (by omega)
  exact this.mono (by omega)
theorem qN(h:St n m sizes A k rows){r:Row}{f B:Nat}(hn:n<=6)(hm:m<=8)(h1:r.1.length=n)(h2:r.2.length=m)(h0:∀ i,i<n->0<=vf r.1 i/\vf r.1 i<vf sizes i)(hB:150*k+1<=B)(hB2:B<=8000)(hb:Bd B r.2)(hf:f<=n):fJ [tI sizes,.lst (rows.map mk),mk r,.int (f:Int)]=M.ok (mk (a0 sizes rows r f (n-f))):=by
 have hs:=h.hs
 have rl:=h.wf.len
 unfold fJ jL
 have iO:zX [.int (f:Int),.int (sizes.length:Int)]=M.ok ((List.range (n-f)).map λ(i:Nat)=>.int ((f+i:Nat):Int)):=by
  rw[Bv (by omega) (by omega) (by omega) (by omega),hs,show ((n:Int)-(f:Int)).toNat=n-f by omega]
  simp
 dsimp? [iO]
 refine dq (List.range (n-f)) (λzs env=>∃ c x4 x5,c<=n-f/\(List.range (n-f)).drop c=zs/\env=[some (.sh (tI sizes)),some (.sh (.lst (rows.map mk))),some (.sh (mk (a0 sizes rows r f c))),some (.sh (.int (f:Int))),x4,x5]) ⟨0,none,none,Nat.zero_le _,rfl,rfl⟩ ?_ ?_
 ·rintro i zs env ⟨c,x4,x5,hc,Ql,rfl⟩
  obtain⟨c1,c2,c3⟩:=drop_cons Ql
  rw[List.length_range] at c1
  obtain rfl:i=c:=by
   rw[List.getElem?_range c1] at c2;exact(Option.some.inj c2).symm
  have Ra:f+i<n:=by omega
  have ll:=i0 h (f:=f) h1 h2 i (by omega)
  have lk:=(n9 h (f:=f) h1 h2 h0).kept h.gd (f+i) (by omega) (by omega)
  rw[show f+i-f=i by omega] at lk
  have k0:=lk (f+i) Ra
  have sm:=h.sm (f+i) Ra
  have p:=h.gd.pos Ra
  have e1:=h.wf.si Ra;have e2:=h.wf.at2 Ra
  have B1:Bd 8200 (row rows (f+i)).1:=(St.BL h Ra).mono (by omega)
  have B2:Bd 8200 (row rows (f+i)).2:=(h.bd _ Ra).mono (by omega)
  have B3:Bd 8200 (a0 sizes rows r f i).1:=(vE ll.1 lk h.sm).mono (by omega)
  have B4:Bd 8200 (a0 sizes rows r f i).2:=(uZ h (f:=f) h1 h2 h0 hB hb i (by omega)).mono (by omega)
  have q:=Int.ediv_le_self (aU (vf sizes) (DD rows) (f+i)) k0.1
  have q0:=Int.ediv_nonneg k0.1 (Int.le_of_lt p.1)
  have w:=yU (A:=20) (sizes:=sizes) (a:=1) (b:=-(vf (a0 sizes rows r f i).1 (f+i)/aU (vf sizes) (DD rows) (f+i))) (DF h) B3 B4 B1 B2 (by decide) (by omega) (by decide) (by decide) (by omega) (by omega)
  refine⟨_,[some (.sh (tI sizes)),some (.sh (.lst (rows.map mk))),some (.sh (mk (a0 sizes rows r f (i+1)))),some (.sh (.int (f:Int))),some (.sh (.int ((f+i:Nat):Int))),some (.sh (.int (vf (a0 sizes rows r f i).1 (f+i)/aU (vf sizes) (DD rows) (f+i))))],rfl,?_,i+1,_,_,by omega,c3,rfl⟩
  dsimp? [pe,mD (xs:=(a0 sizes rows r f i).1) (i:=f+i) (by omega),uH h.wf h.hs Ra,aD (i:=vf (a0 sizes rows r f i).1 (f+i)) p.1 (by omega),rW (rows:=rows) (d:=f+i) (by omega),w]
  rfl
 ·rintro env ⟨c,x4,x5,hc,Ql,rfl⟩
  have:c=n-f:=by
   have:=congrArg List.length Ql
   rw[List.length_drop,List.length_range] at this
   simp at this
   omega
  subst this
  dsimp? []
end
theorem Fv(m k:Nat)(hm:m<=1000):ki [.int (m:Int),.int (k:Int)]=M.ok (tI (o7 m k)):=by
 have key:bP (cj 0) none (AJ (cz (aj l7 (ae 0) (ae 1))) (λ_=>M.ok (.int 1)) (λ_=>M.ok (.int 0))) ((List.range m).map λ(i:Nat)=>.int (i:Int)) [none,some (.sh (.int (k:Int)))]=M.ok ((List.range m).map λ(i:Nat)=>.int (if i=k then 1 else 0)):=by
  refine gC (inj:=λ(i:Nat)=>PV.int (i:Int)) (List.range m) λi hi=>?_
  dsimp? []
  by_cases z:i=k
  ·subst z;simp only[decide_true,if_true]
  ·have z':¬ (i:Int)=(k:Int):=by omega
   simp only[z,z',decide_false,Bool.false_eq_true,if_false]
 unfold ki jU
 dsimp? [iy (n:=(m:Int)) (by omega) (by omega),Int.toNat_natCast,List.length_map,List.length_range,av (aJ hm),key]
 rw[tI,o7,List.map_map];rfl
theorem ua{n:Int}(h:0<=n):Builtin.Range.rangeSize (n-1) (-1) (-1)=n:=by
 unfold Builtin.Range.rangeSize
 rw[if_neg (by decide)]
 split
 ·rw[show -(-1:Int)=1 from rfl,Int.ediv_one];omega
 ·omega
theorem FX{n:Int}(h:0<=n)(h2:n<=1000):C3 (n-1) (-1) (-1)=true:=by
 unfold C3 Builtin.Range.small
 have f:∀ x:Int,-(2^40)<x->x<2^40->Builtin.Range.rangeFitsLong x=true:=λx h1 h2=>by
  unfold Builtin.Range.rangeFitsLong
  simp only[Bool.and_eq_true,decide_eq_true_eq]
  omega
 simp only[ua h,f (n-1) (by omega) (by omega),f (-1) (by decide) (by decide),f n (by omega) (by omega),f (n-1+n*-1) (by omega) (by omega),Bool.and_true,Bool.true_and,Bool.and_self,Bool.and_eq_true,decide_eq_true_eq]
 refine⟨by decide,?_⟩
 rw[if_neg (by decide),f (-1+(-1+1)) (by decide) (by decide),Bool.or_true]
theorem wY(k:Nat)(hk:k<=1000):A3 [.int ((k:Int)-1),.int (-1),.int (-1)]=M.ok ((List.range k).map λ(i:Nat)=>.int ((k:Int)-1+(i:Int)*-1)):=by
 show cD (C3 ((k:Int)-1) (-1) (-1)=true) _=_
 rw[av (FX (by omega) (by omega)),ua (by omega),Int.toNat_natCast]
theorem ED{idle:List (List Int)}{j:Nat}(h:j<idle.length):aQ (.lst (idle.map tI)) (.int (j:Int))=M.ok (tI (idle.getD j [])) :=
 ck (p:=.lst (idle.map tI)) rfl (by rw[List.getElem?_map,List.getElem?_eq_getElem h,List.getD_eq_getElem?_getD,List.getElem?_eq_getElem h];rfl)
theorem w5{n m k B:Nat}{s:cu}{A:Nat->cu}{idle:List (List Int)}{P:List Int}(h:Am n m s A k idle)(hP:P.length=m)(hm:m<=8)(hk:k<=m)(hB:60<=B)(hB2:B<=8000)(hb:Bd B P):iB [tI P,.lst (idle.map tI)]=M.ok (tI (aO idle k P k)):=by
 have il:=h.len
 unfold iB iu
 dsimp? [List.length_map,il,wY k (by omega)]
 refine dq (List.range k) (λzs env=>∃ c x2 x3,c<=k/\(List.range k).drop c=zs/\env=[some (.sh (tI (aO idle k P c))),some (.sh (.lst (idle.map tI))),x2,x3]) ⟨0,none,none,Nat.zero_le _,rfl,rfl⟩ ?_ ?_
 ·rintro i zs env ⟨c,x2,x3,hc,Ql,rfl⟩
  obtain⟨c1,c2,c3⟩:=drop_cons Ql
  rw[List.length_range] at c1
  obtain rfl:i=c:=by
   rw[List.getElem?_range c1] at c2;exact(Option.some.inj c2).symm
  have hj:k-1-i<k:=by omega
  have ej:(k:Int)-1+(i:Int)*-1=((k-1-i:Nat):Int):=by omega
  have sl:=span_len h hP i (by omega)
  have rl:=h.l2 (k-1-i) hj
  have p:=h.pos (k-1-i) hj
  have pl60:=h.le (k-1-i) hj
  have zb:=zJ h hP hk hB hb i (by omega)
  have B1:Bd 8600 (aO idle k P i):=zb.mono (by omega)
  have B2:Bd 8600 (idle.getD (k-1-i) []):=(h.bd hj hk).mono (by omega)
  have q:(-(vf (aO idle k P i) (k-1-i)/vf (idle.getD (k-1-i) []) (k-1-i))).natAbs<2^8600:=by
   rw[Int.natAbs_neg]
   exact Nat.lt_of_le_of_lt (Int.natAbs_ediv_le_natAbs ..) (B1.vf _)
  have w:=qT (A:=8600) (tI (aO idle k P i)) (tI (idle.getD (k-1-i) [])) (aO idle k P i) (idle.getD (k-1-i) []) 1 (-(vf (aO idle k P i) (k-1-i)/vf (idle.getD (k-1-i) []) (k-1-i))) rfl rfl B1 B2 (Nat.one_lt_two_pow (by decide)) q (by decide) (by decide) (by omega)
  refine⟨_,[some (.sh (tI (aO idle k P (i+1)))),some (.sh (.lst (idle.map tI))),some (.sh (.int ((k-1-i:Nat):Int))),some (.sh (tI (idle.getD (k-1-i) [])))],rfl,?_,i+1,_,_,by omega,c3,rfl⟩
  rw[ej]
  dsimp? [ED (idle:=idle) (j:=k-1-i) (by omega),mD (xs:=aO idle k P i) (i:=k-1-i) (by omega),mD (xs:=idle.getD (k-1-i) []) (i:=k-1-i) (by omega),aD (i:=vf (aO idle k P i) (k-1-i)) (j:=vf (idle.getD (k-1-i) []) (k-1-i)) p (by show II idle (k-1-i) (k-1-i)<2^64;omega),w]
  rfl
 ·rintro env ⟨c,x2,x3,hc,Ql,rfl⟩
  have:c=k:=by
   have:=congrArg List.length Ql
   rw[List.length_drop,List.length_range] at this
   simp at this
   omega
  subst this
  dsimp? []
section
variable{sizes:List Int}{Ls:List (List Int)}
theorem oP(h:sizes.length<=6):jF [du sizes Ls]=M.ok (tI (List.replicate sizes.length 0)):=by
 unfold jF kW
 dsimp? [p_ (sizes:=sizes) (levers:=Ls) (g:=ae 0) (env:=[some (.sh (du sizes Ls))]) rfl,mul_one (.int 0) sizes.length (by omega)]
 rw[tI,List.map_replicate]
theorem o8(hm:Ls.length<=8)(xs:List Int):fV [du sizes Ls,tI xs]=M.ok (mk (xs,List.replicate Ls.length 0)):=by
 unfold fV iw
 dsimp? [qm (sizes:=sizes) (levers:=Ls) (g:=ae 0) (env:=[some (.sh (du sizes Ls)),some (.sh (tI xs))]) rfl,List.length_map,mul_one (.int 0) Ls.length (by omega)]
 rw[mk,tI,tI,List.map_replicate]
theorem Eh(hm:Ls.length<=8){k:Nat}(hk:k<Ls.length):gm [du sizes Ls,.int (k:Int)]=M.ok (mk (bO Ls Ls.length k)):=by
 have e:aQ (.tup (Ls.map tI)) (.int (k:Int))=M.ok (tI (Ls.getD k [])):=ck (p:=.tup (Ls.map tI)) rfl (by rw[List.getElem?_map,List.getElem?_eq_getElem hk,List.getD_eq_getElem?_getD,List.getElem?_eq_getElem hk];rfl)
 unfold gm f6
 dsimp? [qm (sizes:=sizes) (levers:=Ls) (g:=ae 0) (env:=[some (.sh (du sizes Ls)),some (.sh (.int (k:Int))),none]) rfl,List.length_map,e,Fv Ls.length k (by omega)]
 rfl
end
theorem Dk:∀ xs:List Int,qB (tI xs)=true:=by
 intro xs
 have:∀ ys:List Int,om (ys.map PV.int)=true:=by
  intro ys
  induction ys with
  | nil=>rfl
  | cons a r ih=>simp[om,qB,ih]
 exact this xs
theorem Kn(x y:PV):aQ (.tup [x,y]) (.int 0)=M.ok x:=ck (j:=0) rfl rfl
theorem Lr(x y:PV):aQ (.tup [x,y]) (.int 1)=M.ok y:=ck (j:=1) rfl rfl
def oS(sizes:List Int)(rows:List Row)(n:Nat):List Row:=(List.range n).map λd=>a0 sizes rows (row rows d) (d+1) (n-(d+1))
def wN(V:PV)(rows:List Row)(idle:List (List Int)):List (Str×PV):=[("vault", V),("made_rows", .lst (rows.map mk)),("idle_rows", .lst (idle.map tI))]
section
variable{sizes:List Int}{Ls:List (List Int)}
theorem Df(hn1:1<=sizes.length)(hn:sizes.length<=6)(hm:Ls.length<=8)(hp:∀ i,i<sizes.length->0<vf sizes i/\vf sizes i<=360)(LL:Kz sizes.length Ls.length sizes Ls) :
  eh aB gb [] [du sizes Ls]=M.ok (.obj aB (wN (du sizes Ls) (oS sizes (RK cf sizes Ls sizes.length Ls.length Ls.length).1 sizes.length) (RK cf sizes Ls sizes.length Ls.length Ls.length).2)):=by
 have all:=λk hk=>DN.all (c:=cf) rfl hp LL BO hn k hk
 have key:∀ a,gb a ([du sizes Ls]++[])=M.ok (wN (du sizes Ls) (oS sizes (RK cf sizes Ls sizes.length Ls.length Ls.length).1 sizes.length) (RK cf sizes Ls sizes.length Ls.length Ls.length).2):=by
  intro a
  have e1:bP (cj 0) none (ai fV (aa (ae 1) (aa (ai jF (aa (ae 1) ao)) ao))) (sizes.map PV.int) [none,some (.sh (du sizes Ls))]=M.ok ((List.replicate sizes.length ((List.replicate sizes.length (0:Int)),(List.replicate Ls.length (0:Int)))).map mk):=by
   rw[gC (h:=λ_=>mk (List.replicate sizes.length 0,List.replicate Ls.length 0)) sizes λx _=>by dsimp? [oP (Ls:=Ls) hn,o8 (sizes:=sizes) hm (List.replicate sizes.length 0)]]
   congr 1
   rw[List.map_const',List.map_replicate]
  have e2:bP (bx 0 1) none (ai fJ (aa (ae 2) (aa (ae 3) (aa (ae 1) (aa (aj eR (ae 0) (λ_=>M.ok (.int 1))) ao))))) ((RK cf sizes Ls sizes.length Ls.length Ls.length).1.zipIdx.map λz=>.tup [.int (z.2:Int),mk z.1]) [none,none,some (.sh (tI sizes)),some (.sh (.lst ((RK cf sizes Ls sizes.length Ls.length Ls.length).1.map mk)))]=M.ok ((oS sizes (RK cf sizes Ls sizes.length Ls.length Ls.length).1 sizes.length).map mk):=by
   have I:=all Ls.length (Nat.le_refl _)
   generalize RK cf sizes Ls sizes.length Ls.length Ls.length=rk at *
   have rl:=I.st.wf.len
   rw[jY (p:=λz:Row×Nat=>PV.int (z.2:Int)) (q:=λz:Row×Nat=>mk z.1) (h:=λz:Row×Nat=>mk (a0 sizes rk.1 z.1 (z.2+1) (sizes.length-(z.2+1)))) rk.1.zipIdx λz hz=>?_]
   ·congr 1
    rw[oS,List.map_map]
    refine List.ext_getElem (by simp[rl]) λi h1 h2=>?_
    have hi:i<rk.1.length:=by simpa using h1
    simp[j_ hi]
   ·obtain⟨i,hi,e⟩:=List.mem_iff_getElem.mp hz
    rw[List.length_zipIdx] at hi
    rw[List.getElem_zipIdx] at e
    have ez:z=(row rk.1 i,i):=by rw[← e,j_ hi];simp
    subst ez
    have hin:i<sizes.length:=by omega
    have:=qN (f:=i+1) (B:=150*Ls.length+1) I.st hn hm (I.st.wf.si hin) (I.st.wf.at2 hin) (λj hj=>I.st.gd.iO i hin j hj) (Nat.le_refl _) (by omega) (I.st.bd i hin) (by omega)
    rw[show ((i+1:Nat):Int)=(i:Int)+1 by omega] at this
    dsimp? [this]
  have zl:sizes.length<=sizeLine:=aJ (by omega)
  have I:=all Ls.length (Nat.le_refl _)
  have rl:=I.st.wf.len
  unfold gb j0
  simp only[mW]
  rw[av (show ([du sizes Ls]++([]:List PV)).length+1=2 from rfl)]
  simp only[rY,u6]
  dsimp? [p_ (sizes:=sizes) (levers:=Ls) (g:=ae 1) (env:=[some (.bd a aB []),some (.sh (du sizes Ls)),none,none,none,none,none]) rfl,List.length_map,av zl,e1,eS,qm (sizes:=sizes) (levers:=Ls) (g:=ae 1) (env:=[some (.bd a aB []),some (.sh (du sizes Ls)),some (.sh (tI sizes)),some (.sh (.lst ((List.replicate sizes.length ((List.replicate sizes.length (0:Int)),(List.replicate Ls.length (0:Int)))).map mk))),some (.ow []),none,none]) rfl,iy (n:=(Ls.length:Int)) (by omega) (by omega),Int.toNat_natCast]
  refine dq (List.range Ls.length) (λzs env=>∃ k x5 x6,k<=Ls.length/\(List.range Ls.length).drop k=zs/\env=[some (.bd a aB []),some (.sh (du sizes Ls)),some (.sh (tI sizes)),some (.sh (.lst ((RK cf sizes Ls sizes.length Ls.length k).1.map mk))),some (.ow ((RK cf sizes Ls sizes.length Ls.length k).2.map tI)),x5,x6]) ⟨0,none,none,Nat.zero_le _,rfl,rfl⟩ ?_ ?_
  ·rintro i zs env ⟨k,x5,x6,hk,Ql,rfl⟩
   obtain⟨c1,c2,c3⟩:=drop_cons Ql
   rw[List.length_range] at c1
   obtain rfl:i=k:=by
    rw[List.getElem?_range c1] at c2;exact(Option.some.inj c2).symm
   have J:=all i hk
   have L:Lv sizes.length Ls.length sizes (AA Ls) i (bO Ls Ls.length i):=⟨LL.at_ i c1,by simp[bO,o7],c1,λj hj=>rfl,LL.iO i c1,λl hl=>vM hl⟩
   have tk:=DA J.st L hn hm
   have ll:=dh (c:=cf) J.st.wf J.st.hs L.l1 L.l2 sizes.length (Nat.le_refl _)
   have lb:=p8 (c:=cf) J.st L hn sizes.length (Nat.le_refl _)
   have sp:=w5 (B:=1400) J.vL ll.2 hm (by omega) (by decide) (by decide) (lb.mono (by omega))
   have il:=J.vL.len
   refine⟨_,[some (.bd a aB []),some (.sh (du sizes Ls)),some (.sh (tI sizes)),some (.sh (.lst ((RK cf sizes Ls sizes.length Ls.length (i+1)).1.map mk))),some (.ow ((RK cf sizes Ls sizes.length Ls.length (i+1)).2.map tI)),some (.sh (.int (i:Int))),some (.sh (.tup [.lst ((cJ cf sizes (RK cf sizes Ls sizes.length Ls.length i).1 (bO Ls Ls.length i) sizes.length).map mk),tI (aC cf sizes (RK cf sizes Ls sizes.length Ls.length i).1 (bO Ls Ls.length i) sizes.length).2]))],rfl,?_,i+1,_,_,by omega,c3,rfl⟩
   dsimp? [Eh (sizes:=sizes) hm c1,tk,Kn]
   rw[vp (i:=4) rfl (p:=tI (aO (RK cf sizes Ls sizes.length Ls.length i).2 i (aC cf sizes (RK cf sizes Ls sizes.length Ls.length i).1 (bO Ls Ls.length i) sizes.length).2 i)) (by
    dsimp? [xv,ownAt,Lr,sp]
    exact av (Dk _)) (by simp[il];omega)]
   dsimp? [RK,List.map_append]
  ·rintro env ⟨k,x5,x6,hk,Ql,rfl⟩
   have:k=Ls.length:=by
    have:=congrArg List.length Ql
    rw[List.length_drop,List.length_range] at this
    simp at this
    omega
   subst this
   dsimp? [iM]
   rw[dU _ _ _ _ _ _ (by simp)]
   dsimp? [iM,vb,List.length_map,List.length_zipIdx,rl,av zl,e2]
   rw[dU _ _ _ _ _ _ (Nat.lt_of_le_of_lt (eP (Nat.zero_le 0)) (by decide))]
   dsimp? [iM]
   rw[dU _ _ _ _ _ _ (Nat.lt_of_le_of_lt (eP (eP (Nat.zero_le 0))) (by decide))]
   dsimp? []
   show cD _ _=_
   rw[av ⟨rfl,rfl⟩]
   rfl
 unfold eh
 rw[qY key];rfl
end
section
variable{n m:Nat}{sizes:List Int}{A:Nat->cu}{rows:List Row}
theorem ni{d:Nat}(h:d<n):row (oS sizes rows n) d=a0 sizes rows (row rows d) (d+1) (n-(d+1)):=by
 rw[j_ (by simp[oS,h])];simp[oS]
theorem JH(h:St n m sizes A m rows)(hn:n<=6)(hA:∀ i,A m i=0):St n m sizes A (m+1) (oS sizes rows n):=by
 have hl:∀ d,d<n->(a0 sizes rows (row rows d) (d+1) (n-(d+1))).1.length=n/\(a0 sizes rows (row rows d) (d+1) (n-(d+1))).2.length=m:=λd hd=>i0 h (h.wf.si hd) (h.wf.at2 hd) _ (by omega)
 have lg:=wc (D':=DD (oS sizes rows n)) h.gd (λd e=>vf (a0 sizes rows (row rows d) (d+1) (e-(d+1))).1) (λd hd=>n9 h (h.wf.si hd) (h.wf.at2 hd) λi hi=>h.gd.iO d hd i hi) (λd hd i hi=>by
  show vf (a0 sizes rows (row rows d) (d+1) (d+1-(d+1))).1 i=_
  rw[Nat.sub_self];rfl) λd hd i hi=>by
  unfold DD;rw[ni hd]
 refine⟨⟨by simp[oS],λr hr=>?_,λr hr=>?_⟩,h.hs,h.sm,lg.1,λd hd=>?_,λd hd l h1 h2=>by omega,λd hd=>?_,λl hl=>?_⟩
 ·obtain⟨d,hd,rfl⟩:=List.mem_map.mp hr
  exact(hl d (List.mem_range.mp hd)).1
 ·obtain⟨d,hd,rfl⟩:=List.mem_map.mp hr
  exact(hl d (List.mem_range.mp hd)).2
 ·unfold DD PP
  rw[ni hd]
  have:=uJ h (f:=d+1) (h.wf.si hd) (h.wf.at2 hd) (P₀:=λ_=>0) (B:=λ_=>0) (by
   have q:=h.led d hd
   intro i hi
   have:=q i hi
   simp only[Int.sub_zero];exact this) (n-(d+1)) (by omega)
  intro i hi
  have:=this i hi
  simp only[Int.sub_zero] at this
  exact this
 ·rw[ni hd]
  exact(uZ h (f:=d+1) (h.wf.si hd) (h.wf.at2 hd) (λi hi=>h.gd.iO d hd i hi) (Nat.le_refl _) (h.bd d hd) (n-(d+1)) (by omega)).mono (by omega)
 ·rcases Nat.lt_or_ge l m with q | q
  ·exact lg.2.2.2.2 n 0 (by omega) _ (h.cl l q)
  ·obtain rfl:l=m:=by omega
   exact G.ext (by omega) (λi _=>(hA i).symm) (G.zero (by omega))
end
def pT(sizes:List Int)(Ls:List (List Int))(R:List Row)(idle:List (List Int)):PV:=.obj aB (wN (du sizes Ls) R idle)
section
variable{sizes:List Int}{Ls:List (List Int)}{R:List Row}{idle:List (List Int)}
theorem J5:(wN (du sizes Ls) R idle).lookup (Str.ofString "vault")=some (du sizes Ls):=rfl
theorem La:(wN (du sizes Ls) R idle).lookup (Str.ofString "made_rows")=some (.lst (R.map mk)):=rfl
theorem My:(wN (du sizes Ls) R idle).lookup (Str.ofString "idle_rows")=some (.lst (idle.map tI)):=rfl
theorem Mn:(wN (du sizes Ls) R idle).lookup (Str.ofString "brought_down")=none:=rfl
theorem L_{g:af->M PV}{env:af}(h:g env=M.ok (pT sizes Ls R idle)):cT (λc=>c==aB) "vault" g env=M.ok (du sizes Ls):=by
 rw[cT,h,M.aP]
 show cD _ (dZ (List.lookup _ _))=_
 rw[av (beq_self_eq_true _),J5];rfl
theorem NJ{g:af->M PV}{env:af}(h:g env=M.ok (pT sizes Ls R idle)):cT (λc=>c==aB) "made_rows" g env=M.ok (.lst (R.map mk)):=by
 rw[cT,h,M.aP]
 show cD _ (dZ (List.lookup _ _))=_
 rw[av (beq_self_eq_true _),La];rfl
theorem NN{g:af->M PV}{env:af}(h:g env=M.ok (pT sizes Ls R idle)):cT (λc=>c==aB) "idle_rows" g env=M.ok (.lst (idle.map tI)):=by
 rw[cT,h,M.aP]
 show cD _ (dZ (List.lookup _ _))=_
 rw[av (beq_self_eq_true _),My];rfl
theorem uF{A:Nat->cu}{k:Nat}(S:Sz sizes)(hm:Ls.length<=8)(h:St sizes.length Ls.length sizes A k R)(hk:k<=9){xs:List Int}(hx:EN sizes xs)(h0:∀ i,i<sizes.length->0<=vf xs i/\vf xs i<vf sizes i) :
  br [pT sizes Ls R idle,tI xs]=M.ok (mk (a0 sizes R (xs,List.replicate Ls.length 0) 0 sizes.length)):=by
 have lo:=qN (f:=0) (B:=150*k+1) (r:=(xs,List.replicate Ls.length 0)) h S.h6 hm hx.len (by simp) h0 (Nat.le_refl _) (by omega) (λx hx=>by rw[List.eq_of_mem_replicate hx];exact Nat.two_pow_pos _) (Nat.zero_le _)
 rw[Nat.sub_zero] at lo
 unfold br bM
 dsimp? [L_ (sizes:=sizes) (Ls:=Ls) (R:=R) (idle:=idle) (g:=ae 0) (env:=[some (.sh (pT sizes Ls R idle)),some (.sh (tI xs))]) rfl,NJ (sizes:=sizes) (Ls:=Ls) (R:=R) (idle:=idle) (g:=ae 0) (env:=[some (.sh (pT sizes Ls R idle)),some (.sh (tI xs))]) rfl,gQ (levers:=Ls) S hx,o8 (sizes:=sizes) hm xs,p_ (sizes:=sizes) (levers:=Ls) (g:=cT (λc=>c==aB) "vault" (ae 0)) (env:=[some (.sh (pT sizes Ls R idle)),some (.sh (tI xs))]) (L_ (R:=R) (idle:=idle) rfl),show fJ [tI sizes,.lst (R.map mk),mk (xs,List.replicate Ls.length 0),.int 0]=_ from lo]
end
def rS(xs:List Int):List Int:=xs.map λx=>-x
theorem Hz(xs:List Int)(i:Nat):vf (rS xs) i=-vf xs i:=by
 rcases Nat.lt_or_ge i xs.length with h | h
 ·rw[aL (by simpa [rS] using h),aL h];simp[rS]
 ·rw[q_ (by simpa [rS] using h),q_ h];rfl
theorem IF{B:Nat}{xs:List Int}(h:Bd B xs):Bd B (rS xs):=λx hx=>by
 obtain⟨y,hy,rfl⟩:=List.mem_map.mp hx
 rw[Int.natAbs_neg];exact h y hy
section
variable{sizes:List Int}{Ls:List (List Int)}{R:List Row}{idle:List (List Int)}
def told(sizes:List Int)(Ls:List (List Int))(R:List Row)(idle:List (List Int))(xs:List Int):List Int:=aO idle Ls.length (rS (a0 sizes R (xs,List.replicate Ls.length 0) 0 sizes.length).2) Ls.length
theorem xm{A:Nat->cu}{k:Nat}(S:Sz sizes)(hm:Ls.length<=8)(h:St sizes.length Ls.length sizes A k R)(hk:k<=9)(I:Am sizes.length Ls.length (vf sizes) A Ls.length idle){xs:List Int}(hx:EN sizes xs)(h0:∀ i,i<sizes.length->0<=vf xs i/\vf xs i<vf sizes i)(hg:G sizes.length (vf sizes) (DD R) sizes.length 0 (vf xs)) :
  bJ [pT sizes Ls R idle,tI xs]=M.ok (tI (told sizes Ls R idle xs))/\(told sizes Ls R idle xs).length=Ls.length/\Led sizes.length (vf sizes) Ls.length A (vf xs) (vf (told sizes Ls R idle xs))/\∀ l,l<Ls.length->0<=vf (told sizes Ls R idle xs) l/\vf (told sizes Ls R idle xs) l<II idle l l:=by
 have l6:=S.h6
 have r2:(List.replicate Ls.length (0:Int)).length=Ls.length:=by simp
 have ll:=i0 h (f:=0) (r:=(xs,List.replicate Ls.length 0)) hx.len r2 sizes.length (by omega)
 have dn:=n9 h (f:=0) (r:=(xs,List.replicate Ls.length 0)) hx.len r2 h0
 have z:=dn.run h.gd sizes.length 0 (Nat.le_refl _) (by omega) (by rw[Nat.sub_self];exact hg)
 rw[Nat.sub_zero] at z
 have nz:(a0 sizes R (xs,List.replicate Ls.length 0) 0 sizes.length).1=List.replicate sizes.length 0:=rH (by rw[ll.1];simp) λi hi=>by rw[z i (by omega),jS]
 have b:=uZ h (f:=0) (B:=150*k+1) (r:=(xs,List.replicate Ls.length 0)) hx.len r2 h0 (Nat.le_refl _) (λx hx=>by rw[List.eq_of_mem_replicate hx];exact Nat.two_pow_pos _) sizes.length (by omega)
 have nl:(rS (a0 sizes R (xs,List.replicate Ls.length 0) 0 sizes.length).2).length=Ls.length:=by rw[rS,List.length_map];exact ll.2
 have sp:=w5 (B:=1500) I nl hm (Nat.le_refl _) (by decide) (by decide) (IF (b.mono (by omega)))
 have led:=uJ h (f:=0) (r:=(xs,List.replicate Ls.length 0)) hx.len r2 (P₀:=λ_=>0) (B:=vf xs) (by
  intro i hi
  rw[gu (g:=λ_=>0) λl hl=>by
   show (vf (List.replicate Ls.length 0) l-0)*A l i=0
   rw[jS];simp,jO]
  show vf sizes i∣vf xs i-vf xs i-0
  rw[Int.sub_self];exact Int.dvd_zero _) sizes.length (by omega)
 have led2:Led sizes.length (vf sizes) Ls.length A (vf xs) (vf (rS (a0 sizes R (xs,List.replicate Ls.length 0) 0 sizes.length).2)):=by
  refine Led.mix (a:=-1) (b:=0) led led (λi hi=>?_) λl hl=>?_
  ·rw[z i hi]
   exact⟨0,by omega⟩
  ·rw[Hz];omega
 refine⟨?_,span_len I nl _ (Nat.le_refl _),r9 I nl led2 _ (Nat.le_refl _),λl hl=>uS I nl (Nat.le_refl _) _ (Nat.le_refl _) l (by omega) hl⟩
 have dk:=uF (idle:=idle) S hm h hk hx h0
 have md:∀ y,bD aB "brought_down" br (ae 0) (aa (ae 1) ao) [some (.sh (pT sizes Ls R idle)),some (.sh (tI xs)),y]=M.ok (mk (a0 sizes R (xs,List.replicate Ls.length 0) 0 sizes.length)):=λy=>by
  show M.bind (M.ok (pT sizes Ls R idle)) _=_
  rw[M.aP]
  show cD _ (M.bind (M.ok [tI xs]) _)=_
  rw[av ⟨rfl,Mn⟩,M.aP]
  exact dk
 have cm:bP (cj 0) none (jH (ae 0)) ((a0 sizes R (xs,List.replicate Ls.length 0) 0 sizes.length).2.map PV.int) [none]=M.ok ((a0 sizes R (xs,List.replicate Ls.length 0) 0 sizes.length).2.map λx=>.int (-x)):=gC _ λx _=>by dsimp? []
 have lz:(a0 sizes R (xs,List.replicate Ls.length 0) 0 sizes.length).2.length<=sizeLine:=by rw[ll.2];exact aJ (by omega)
 have en:PV.tup ((a0 sizes R (xs,List.replicate Ls.length 0) 0 sizes.length).2.map λx=>PV.int (-x))=tI (rS (a0 sizes R (xs,List.replicate Ls.length 0) 0 sizes.length).2):=by rw[tI,rS,List.map_map];rfl
 unfold bJ bZ
 dsimp? [md,pe,Dv,L_ (sizes:=sizes) (Ls:=Ls) (R:=R) (idle:=idle) (g:=ae 0) (env:=[some (.sh (pT sizes Ls R idle)),some (.sh (tI xs)),some (.sh (mk (a0 sizes R (xs,List.replicate Ls.length 0) 0 sizes.length)))]) rfl,oP (Ls:=Ls) l6,nz,Dz,decide_true,NN (sizes:=sizes) (Ls:=Ls) (R:=R) (idle:=idle) (g:=ae 0) (env:=[some (.sh (pT sizes Ls R idle)),some (.sh (tI xs)),some (.sh (mk (a0 sizes R (xs,List.replicate Ls.length 0) 0 sizes.length)))]) rfl,List.length_map,av lz,cm,en,sp]
 rfl
end
theorem zU{i j:Int}(h0:0<j)(h:j<2^200):bq (.int i) (.int j)=M.ok (.int (i/j)):=by
 rw[ot (by omega) (Nat.lt_of_lt_of_le (show j.natAbs<2^200 by omega) (Nat.pow_le_pow_right (by decide) (by decide))),Int.fdiv_eq_ediv_of_nonneg _ (by omega)]
theorem pY(ns:List Int)(k:Nat):∃ c,cA [.kH (ns.map PV.int),.int (k:Int)]=M.ok (.int c):=by
 unfold cA gA
 by_cases h:k<ns.length
 ·refine⟨ns[k],?_⟩
  have h':(k:Int)<((ns.length:Nat):Int):=by omega
  have e:=ck (p:=.kH (ns.map PV.int)) (xs:=ns.map PV.int) (j:=k) (x:=.int ns[k]) rfl (by rw[List.getElem?_map,List.getElem?_eq_getElem h];rfl)
  dsimp? [List.length_map,h',decide_true,e]
 ·refine⟨0,?_⟩
  have h':¬ (k:Int)<((ns.length:Nat):Int):=by omega
  dsimp? [List.length_map,h',decide_false]
theorem lN(c:Int)(p:PV)(bases:List Int)(hp:bR p=some (bases.map PV.int))(hb:∀ b∈bases,0<b/\b<2^200)(hl:bases.length<=100):∃ xs:List Int,cI [.int c,p]=M.ok (lI xs)/\xs.length=bases.length/\∀ z∈xs.zip bases,0<=z.1/\z.1<z.2:=by
 suffices h:∃ N_:af,jA (cj 4) (aq (jG 2 (aj cw (ae 3) (ae 4))) (aq (aY 3 (aj bq (ae 3) (ae 4))) ar)) (bases.map PV.int) [some (.sh (.int c)),some (.sh p),some (.ow []),some (.sh (.int c)),none]=M.ok (.nx N_)/\∃ (d xs:List Int) (left:Int) (y:Option SV),N_=[some (.sh (.int c)),some (.sh p),some (.ow (xs.map PV.int)),some (.sh (.int left)),y]/\bases=d++[]/\xs.length=d.length/\∀ z∈xs.zip d,0<=z.1/\z.1<z.2 by
  obtain⟨N_,e,d,xs,left,y,rfl,hd,hx,hz⟩:=h
  rw[List.append_nil] at hd
  subst hd
  refine⟨xs,?_,hx,hz⟩
  unfold cI cK
  dsimp? [eS,hp,e]
  rfl
 refine kN (λr env=>∃ (d xs:List Int) (left:Int) (y:Option SV),env=[some (.sh (.int c)),some (.sh p),some (.ow (xs.map PV.int)),some (.sh (.int left)),y]/\bases=d++r/\xs.length=d.length/\∀ z∈xs.zip d,0<=z.1/\z.1<z.2) ?_ bases _ ⟨[],[],c,none,rfl,rfl,rfl,λ_ h=>nomatch h⟩
 rintro b r env ⟨d,xs,left,y,rfl,hd,hx,hz⟩
 have Rw:=hb b (by rw[hd];simp)
 have dl:d.length<=100:=by
  have:=congrArg List.length hd
  rw[List.length_append] at this;omega
 refine⟨_,[some (.sh (.int c)),some (.sh p),some (.ow ((xs++[left%b]).map PV.int)),some (.sh (.int (left/b))),some (.sh (.int b))],rfl,?_,d++[b],xs++[left%b],left/b,_,rfl,by rw[hd];simp,by simp[hx],λz PZ=>?_⟩
 ·dsimp? []
  rw[vp (i:=2) rfl (p:=.int (left%b)) (by dsimp? [aF (i:=left) Rw.1]) (by simp;omega)]
  dsimp? [zU (i:=left) Rw.1 Rw.2,List.map_append]
 ·rw[List.zip_append hx] at PZ
  rcases List.mem_append.mp PZ with q | q
  ·exact hz z q
  ·rw[List.zip_cons_cons,List.zip_nil_left] at q
   rw[List.mem_singleton.mp q]
   exact⟨Int.emod_nonneg _ (by omega),Int.emod_lt_of_pos _ Rw.1⟩
def kO(sizes xs ys:List Int)(t:Int):List Int:=(xs.zip (ys.zip sizes)).map λz=>(z.1+t*z.2.1)%z.2.2
theorem jw{sizes xs ys:List Int}{t:Int}(h1:xs.length=sizes.length)(h2:ys.length=sizes.length):(kO sizes xs ys t).length=sizes.length:=by
 simp[kO];omega
theorem mx{sizes xs ys:List Int}{t:Int}{i:Nat}(h1:xs.length=sizes.length)(h2:ys.length=sizes.length)(hi:i<sizes.length):vf (kO sizes xs ys t) i=(vf xs i+t*vf ys i)%vf sizes i:=by
 rw[aL (by rw[jw h1 h2];exact hi),aL (by omega),aL (by omega),aL hi]
 simp[kO]
theorem wy{sizes xs ys:List Int}{t:Int}{q:PV}(hs:∀ s∈sizes,0<s)(hl:sizes.length<=6)(h1:xs.length=sizes.length)(hq:bR q=some (ys.map PV.int))(hy:Bd 200 ys)(ht:t.natAbs<2^200):bo [lI sizes,tI xs,q,.int t]=M.ok (tI (kO sizes xs ys t)):=by
 have k1:bP (nK 0 1 2) none (aj cw (aj eR (ae 0) (aj cv (ae 3) (ae 1))) (ae 2)) ((xs.zip (ys.zip sizes)).map λz=>.tup [.int z.1,.int z.2.1,.int z.2.2]) [none,none,none,some (.sh (.int t))]=M.ok ((xs.zip (ys.zip sizes)).map λz=>.int ((z.1+t*z.2.1)%z.2.2)):=by
  refine CC (p:=λz:Int×Int×Int=>PV.int z.1) (q:=λz:Int×Int×Int=>PV.int z.2.1) (s:=λz:Int×Int×Int=>PV.int z.2.2) (xs.zip (ys.zip sizes)) λz hz=>?_
  obtain⟨m1,m2⟩:=List.of_mem_zip (a:=z.1) (b:=z.2) hz
  obtain⟨m3,m4⟩:=List.of_mem_zip (a:=z.2.1) (b:=z.2.2) m2
  dsimp? [aN (k:=200) (l:=200) ht (hy _ m3),aF (i:=z.1+t*z.2.1) (hs _ m4)]
 have z1:(xs.zip (ys.zip sizes)).length<=sizeLine:=by rw[List.length_zip];exact aJ (Nat.le_trans (Nat.min_le_left _ _) (by omega))
 unfold bo cy
 dsimp? [rN (p:=tI xs) (q:=q) (r:=lI sizes) xs ys sizes rfl hq rfl,List.length_map,av z1,k1]
 rw[tI,kO,List.map_map];rfl
theorem Aa{sizes xs P:List Int}{Oe:List (List Int)}{q:PV}(hs:∀ s∈sizes,0<s)(hl:sizes.length<=6)(h1:xs.length=sizes.length)(hq:bR q=some (xs.map PV.int))(hk:∀ i,i<sizes.length->0<=vf xs i/\vf xs i<vf sizes i)
  (hr:∀ l∈Oe,l.length=sizes.length/\Bd 200 l) (hP:Bd 200 P) (hm:P.length=Oe.length) {p2:PV} (Bk:bR p2=some (P.map PV.int)):∃ F:List Int,bK [lI sizes,.lst (Oe.map lI),q,p2]=M.ok (tI F)/\F.length=sizes.length/\(∀ i,i<sizes.length->0<=vf F i/\vf F i<vf sizes i)/\∀ i,i<sizes.length->vf sizes i∣vf F i-(vf xs i+bN Oe.length λl=>vf P l*vf (Oe.getD l []) i):=by
 have sp:∀ i,i<sizes.length->0<vf sizes i:=λi hi=>by rw[aL hi];exact hs _ (List.getElem_mem hi)
 suffices h:∃ N_:af,jA (bx 5 6) (aq (aY 4 (ai bo (aa (ae 0) (aa (ae 4) (aa (ae 5) (aa (ae 6) ao)))))) ar) ((Oe.zip P).map λz=>.tup [lI z.1,.int z.2]) [some (.sh (lI sizes)),some (.sh (.lst (Oe.map lI))),some (.sh q),some (.sh p2),some (.sh (tI xs)),none,none]=M.ok (.nx N_)/\∃ (c:Nat) (F:List Int) (y z:Option SV),N_=[some (.sh (lI sizes)),some (.sh (.lst (Oe.map lI))),some (.sh q),some (.sh p2),some (.sh (tI F)),y,z]/\c<=Oe.length/\(Oe.zip P).drop c=[]/\F.length=sizes.length/\(∀ i,i<sizes.length->0<=vf F i/\vf F i<vf sizes i)/\∀ i,i<sizes.length->vf sizes i∣vf F i-(vf xs i+bN c λl=>vf P l*vf (Oe.getD l []) i) by
  obtain⟨N_,e,c,F,y,z,rfl,hc,hd,fl,fk,fd⟩:=h
  have:c=Oe.length:=by
   have:=congrArg List.length hd
   rw[List.length_drop,List.length_zip] at this
   simp at this
   omega
  subst this
  refine⟨F,?_,fl,fk,fd⟩
  have e0:zip2 [.lst (Oe.map lI),p2]=M.ok ((Oe.zip P).map λz=>.tup [lI z.1,.int z.2]):=cN (p:=.lst (Oe.map lI)) (q:=p2) Oe P rfl Bk
  unfold bK dm
  dsimp? [hq,e0]
  rw[show (PV.tup (xs.map PV.int))=tI xs from rfl,e]
  dsimp? []
 refine kN (λzs env=>∃ (c:Nat) (F:List Int) (y z:Option SV),env=[some (.sh (lI sizes)),some (.sh (.lst (Oe.map lI))),some (.sh q),some (.sh p2),some (.sh (tI F)),y,z]/\c<=Oe.length/\(Oe.zip P).drop c=zs/\F.length=sizes.length/\(∀ i,i<sizes.length->0<=vf F i/\vf F i<vf sizes i)/\∀ i,i<sizes.length->vf sizes i∣vf F i-(vf xs i+bN c λl=>vf P l*vf (Oe.getD l []) i)) ?_ (Oe.zip P) _ ⟨0,xs,none,none,rfl,Nat.zero_le _,rfl,h1,hk,λi hi=>by rw[bN];exact⟨0,by omega⟩⟩
 rintro⟨l,t⟩ r env ⟨c,F,y,z,rfl,hc,hd,fl,fk,fd⟩
 obtain⟨c1,c2,c3⟩:=drop_cons hd
 rw[List.length_zip] at c1
 have hcr:c<Oe.length:=by omega
 have hcp:c<P.length:=by omega
 have el:l=Oe[c]/\t=P[c]:=by
  rw[List.getElem?_eq_getElem (by rw[List.length_zip];omega),List.getElem_zip] at c2
  have:=Option.some.inj c2
  injection this with a b
  exact⟨a.symm,b.symm⟩
 have lr:=hr l (by rw[el.1];exact List.getElem_mem _)
 have tb:t.natAbs<2^200:=by rw[el.2];exact hP _ (List.getElem_mem _)
 refine⟨_,[some (.sh (lI sizes)),some (.sh (.lst (Oe.map lI))),some (.sh q),some (.sh p2),some (.sh (tI (kO sizes F l t))),some (.sh (lI l)),some (.sh (.int t))],rfl,?_,c+1,kO sizes F l t,_,_,rfl,by omega,c3,jw fl lr.1,λi hi=>?_,λi hi=>?_⟩
 ·dsimp? [wy (q:=lI l) hs hl fl rfl lr.2 tb]
 ·rw[mx fl lr.1 hi]
  have:=sp i hi
  exact⟨Int.emod_nonneg _ (by omega),Int.emod_lt_of_pos _ this⟩
 ·rw[mx fl lr.1 hi,bN]
  obtain⟨a,ha⟩:=fd i hi
  obtain⟨b,hb⟩:=dc (vf F i+t*vf l i) (vf sizes i)
  have e1:vf P c=t:=by rw[aL hcp,el.2]
  have e2:Oe.getD c []=l:=by rw[List.getD_eq_getElem?_getD,List.getElem?_eq_getElem hcr,el.1];rfl
  rw[e1,e2]
  exact⟨a+b,by rw[Int.mul_add];omega⟩
theorem lD(c:Int)(m:Nat)(hm:m<=100):kE (cF [.int c,.int (m:Int)]) λp=>∃ xs:List Int,p=lI xs/\xs.length=m/\∀ x∈xs,0<=x/\x<2^31:=by
 unfold cF cH
 dsimp? [eS,aF (j:=2147483629) (i:=c) (by decide),iy (n:=(m:Int)) (by omega) (by omega)]
 refine kE.loop (xs:=List.range (m:Int).toNat) (inj:=λ(i:Nat)=>.int (i:Int)) (λzs env=>∃ (xs:List Int) (u:Int) (y:Option SV),env=[some (.sh (.int c)),some (.sh (.int (m:Int))),some (.ow (xs.map PV.int)),some (.sh (.int u)),y]/\xs.length+zs.length=m/\(∀ z∈zs,z<m)/\0<=u/\u<2^31/\∀ x∈xs,0<=x/\x<2^31) ⟨[],c%2147483629+17,none,rfl,by simp,λz hz=>by simpa using hz,by omega,by omega,λx hx=>nomatch hx⟩ ?_ ?_
 ·rintro a r env ⟨xs,u,y,rfl,hl,hz,u0,u1,hx⟩
  have ha:=hz a List.mem_cons_self
  dsimp? [cj,aN (i:=u) (j:=48271) (k:=31) (l:=31) (by omega) (by decide),aN (i:=7919) (j:=(a:Int)) (k:=31) (l:=31) (by decide) (by omega),aF (i:=u*48271+7919*(a:Int)+1) (j:=2147483647) (by decide),aD (i:=(u*48271+7919*(a:Int)+1)%2147483647) (j:=5) (by decide) (by decide),gS,ownAt,hG (xs:=xs.map PV.int) (by simp at hl ⊢;omega),fO]
  exact⟨_,rfl,_,_,_,rfl,by simp at hl ⊢;omega,λz h=>hz z (List.mem_cons_of_mem _ h),by omega,by omega,λx Rn=>by
    rcases List.mem_append.mp Rn with h | h
    ·exact hx x h
    ·rw[List.mem_singleton] at h;omega⟩
 ·rintro env ⟨xs,u,y,rfl,hl,_,_,_,hx⟩
  exact⟨_,rfl,xs,rfl,by simpa using hl,hx⟩
theorem wG(p:PV)(n:Nat)(h8:n<=1000):cv (.lst [p]) (.int (n:Int))=M.ok (.lst (List.replicate n p)):=by
 have h2:[p].length*(n:Int).toNat<=sizeLine:=by
  rw[Int.toNat_natCast]
  exact aJ (by show 1*n<=1000;omega)
 have h3:(n:Int)<2^63:=Int.lt_of_le_of_lt (Int.ofNat_le.mpr h8) (by decide)
 have h4:-(2^63)<=(n:Int):=Int.le_trans (by decide) (Int.natCast_nonneg n)
 rw[cv,av ⟨h4,h3,h2⟩,Int.toNat_natCast,qF]
theorem zA{n:Nat}{a b:Int}(h:b∈List.replicate n a):b=a:=List.eq_of_mem_replicate h
theorem Bx:wI (.int 10) (.int 30)=M.ok (.int (10^30)):=by
 show cD (decide ((0:Int)<=30/\(30:Int)<=1000000/\(10:Int).natAbs<2^64)=true) _=_
 exact av (by decide)
theorem vY(i:Int)(h0:0<=i)(h:i<2^60):kE (e8 [.int i]) λp=>∃ x:Int,p=.int x/\x.natAbs<2^199:=by
 unfold e8 fE
 dsimp? [aN (i:=i) (j:=618033988749894848204586834365) (k:=60) (l:=200) (by omega) (by decide),Bx,aN (i:=2) (j:=10^30) (k:=60) (l:=200) (by decide) (by decide),aF (i:=i*618033988749894848204586834365) (j:=2*10^30-1) (by decide)]
 exact⟨_,rfl,_,rfl,by omega⟩
theorem pick(l:List Int)(c:Int)(n:Nat)(hn:l.length=n)(h0:0<n):∃ x,x∈l/\aQ (.lst (l.map PV.int)) (.int (c%(n:Int)))=M.ok (.int x):=by
 have h1:0<=c%(n:Int):=Int.emod_nonneg _ (by omega)
 have h2:c%(n:Int)<n:=Int.emod_lt_of_pos _ (by omega)
 obtain⟨j,hj⟩:=Int.eq_ofNat_of_zero_le h1
 have hj':j<l.length:=by omega
 refine⟨l[j],List.getElem_mem _,?_⟩
 rw[hj]
 exact ck (p:=.lst (l.map PV.int)) (j:=j) rfl (by rw[List.getElem?_map,List.getElem?_eq_getElem hj'];rfl)
theorem two{c:Int}:c%2=0\/c%2=1:=by omega
theorem AH(c:Int):kE (gR [.int c]) λp=>∃ xs:List Int,p=lI xs/\Sz xs:=by
 obtain⟨m,em,m1,m6⟩:∃ m:Nat,1+c/2%6=(m:Int)/\1<=m/\m<=6:=⟨(1+c/2%6).toNat,by omega,by omega,by omega⟩
 unfold gR gZ
 dsimp? [aD (i:=c) (j:=2) (by decide) (by decide),aF (i:=c/2) (j:=6) (by decide),em,aF (i:=c) (j:=2) (by decide),aD (i:=c) (j:=12) (by decide) (by decide)]
 rcases two (c:=c) with h | h
 ·simp only[h,show ¬ (0:Int)=1 by decide,decide_false]
  obtain⟨_,es,xs,rfl,xl,xb⟩:=lD (c/12) m (by omega)
  dsimp? [eS,es,aD (i:=c) (j:=12) (by decide) (by decide)]
  refine kE.loop (xs:=xs) (inj:=PV.int) (λzs env=>∃ (ss:List Int) (y:Option SV),env=[some (.sh (.int c)),some (.sh (.int (m:Int))),some (.ow (ss.map PV.int)),y]/\ss.length+zs.length=m/\(∀ s∈ss,2<=s/\s<=360)) ⟨[],none,rfl,by simpa using xl,λ_ h=>nomatch h⟩ ?_ ?_
  ·rintro a r env ⟨ss,y,rfl,hl,hs⟩
   have QL:(ss.map PV.int).length<1000:=by simp at hl ⊢;omega
   have fin:∀ v:Int,2<=v/\v<=360->(ss++[v]).length+r.length=m/\∀ s∈ss++[v],2<=s/\s<=360:=λv hv=>⟨by simp at hl ⊢;omega,λs h'=>by
    rcases List.mem_append.mp h' with q | q
    ·exact hs s q
    ·rw[List.mem_singleton.mp q];exact hv⟩
   dsimp? [cj,aD (i:=c) (j:=12) (by decide) (by decide),aF (i:=c/12) (j:=2) (by decide)]
   rcases two (c:=c/12) with h2 | h2
   ·obtain⟨v,hv,ev⟩:=pick [2,3,4,6,8,9,12,16,24,27,32,36,64,72,81,128,243,256,360] a 19 rfl (by decide)
    simp only[h2,decide_true]
    dsimp? [aF (i:=a) (j:=19) (by decide),gS,ownAt]
    rw[show ((19:Nat):Int)=19 from rfl] at ev
    simp only[List.map_cons,List.map_nil] at ev
    rw[ev]
    dsimp? [hG QL,fO]
    obtain⟨f1,f2⟩:=fin v (by simp at hv;omega)
    exact⟨_,rfl,_,_,rfl,f1,f2⟩
   ·simp only[h2,show ¬ (1:Int)=0 by decide,decide_false]
    dsimp? [aF (i:=a) (j:=30) (by decide),aN (i:=12) (j:=1+a%30) (k:=31) (l:=31) (by decide) (by omega),gS,ownAt,hG QL,fO]
    obtain⟨f1,f2⟩:=fin (12*(1+a%30)) (by omega)
    exact⟨_,rfl,_,_,rfl,f1,f2⟩
  ·rintro env ⟨ss,y,rfl,hl,hs⟩
   refine⟨_,rfl,ss,rfl,?_,?_,hs⟩
   ·simp at hl;omega
   ·simp at hl;omega
 ·simp only[h,decide_true]
  obtain⟨xs,ex,xl,xb⟩:=lN (c/12) (.lst (List.replicate m (.int 359))) (List.replicate m 359) (by rw[List.map_replicate];rfl) (λb hb=>by rw[zA hb];decide) (by simp;omega)
  rw[List.length_replicate] at xl
  dsimp? [aD (i:=c) (j:=12) (by decide) (by decide),wG (.int 359) m (by omega),ex,List.length_map,av (aJ (show xs.length<=1000 by omega)),gC (f:=aj eR (λ_=>M.ok (.int 2)) (ae 0)) (inj:=PV.int) (h:=λx=>.int (2+x)) (rest:=[]) (x0:=none) xs λa _=>by dsimp? []]
  refine⟨_,rfl,xs.map (2+·),by rw[lI,List.map_map];rfl,by simp;omega,by simp;omega,λx hx=>?_⟩
  obtain⟨y,hy,rfl⟩:=List.mem_map.mp hx
  obtain⟨i,hi,rfl⟩:=List.mem_iff_getElem.mp hy
  have:=xb (xs[i],359) (List.mem_iff_getElem.mpr ⟨i,by simp;omega,by simp⟩)
  simp at this;omega
theorem AV{sizes:List Int}(S:Sz sizes)(c:Int):kE (g8 [.int c,lI sizes]) λp=>∃ xs:List Int,p=lI xs/\xs.length=sizes.length/\Bd 200 xs:=by
 have l6:=S.h6
 obtain⟨_,es,xs,rfl,xl,xb⟩:=lD c sizes.length (by omega)
 unfold g8 hX
 dsimp? [eS,es,cN (p:=lI xs) (q:=lI sizes) xs sizes rfl rfl]
 refine kE.loop (xs:=xs.zip sizes) (inj:=λz=>.tup [.int z.1,.int z.2]) (λzs env=>∃ (ss:List Int) (y1 y2 y3:Option SV),env=[some (.sh (.int c)),some (.sh (lI sizes)),some (.ow (ss.map PV.int)),y1,y2,y3]/\ss.length+zs.length=sizes.length/\Bd 200 ss/\∀ z∈zs,z.1∈xs/\z.2∈sizes) ⟨[],none,none,none,rfl,by simp;omega,(λ_ h=>nomatch h),λz hz=>jV hz⟩ ?_ ?_
 ·rintro⟨a,s⟩ r env ⟨ss,y1,y2,y3,rfl,hl,hs,hm⟩
  obtain⟨ma,ms⟩:=hm (a,s) List.mem_cons_self
  have ha:=xb a ma
  have hz:=S.hx s ms
  have hm':∀ z∈r,z.1∈xs/\z.2∈sizes:=λz hz=>hm z (List.mem_cons_of_mem _ hz)
  have QL:(ss.map PV.int).length<1000:=by simp at hl ⊢;omega
  have fin:∀ v:Int,v.natAbs<2^200->(ss++[v]).length+r.length=sizes.length/\Bd 200 (ss++[v]):=λv hv=>⟨by simp at hl ⊢;omega,λs h'=>by
   rcases List.mem_append.mp h' with q | q
   ·exact hs s q
   ·rw[List.mem_singleton.mp q];exact hv⟩
  dsimp? [bx,aF (i:=a) (j:=4) (by decide)]
  by_cases h0:a%4=0
  ·obtain⟨_,eg,v,rfl,hv⟩:=vY (a/4) (by omega) (by omega)
   simp only[h0,decide_true]
   dsimp? [aD (i:=a) (j:=4) (by decide) (by decide),eg,gS,ownAt,hG QL,fO]
   obtain⟨f1,f2⟩:=fin v (by omega)
   exact⟨_,rfl,_,_,_,_,rfl,f1,f2,hm'⟩
  ·simp only[h0,decide_false]
   dsimp? [aF (i:=a) (j:=4) (by decide)]
   by_cases h1:a%4=1
   ·simp only[h1,decide_true]
    dsimp? [gS,ownAt,hG QL,fO]
    obtain⟨f1,f2⟩:=fin 0 (by decide)
    exact⟨_,rfl,_,_,_,_,rfl,f1,f2,hm'⟩
   ·simp only[h1,decide_false]
    obtain⟨v,hv,ev⟩:=pick [1,1,2,3,4,6,12] (a/4) 7 rfl (by decide)
    rw[show ((7:Nat):Int)=7 from rfl] at ev
    simp only[List.map_cons,List.map_nil] at ev
    have Rf:1<=v/\v<=12:=by simp at hv;omega
    dsimp? [aD (i:=a) (j:=4) (by decide) (by decide),aF (i:=a/4) (j:=7) (by decide)]
    rw[ev]
    have b1:0<=a/28%s:=Int.emod_nonneg _ (by omega)
    have b2:a/28%s<s:=Int.emod_lt_of_pos _ (by omega)
    have b3:0<=a/28%s*v%s:=Int.emod_nonneg _ (by omega)
    have b4:a/28%s*v%s<s:=Int.emod_lt_of_pos _ (by omega)
    dsimp? [aD (i:=a) (j:=28) (by decide) (by decide),aF (i:=a/28) (j:=s) (by omega),aN (i:=a/28%s) (j:=v) (k:=31) (l:=31) (by omega) (by omega),aF (i:=a/28%s*v) (j:=s) (by omega),gS,ownAt,hG QL,fO]
    obtain⟨f1,f2⟩:=fin (a/28%s*v%s) (by omega)
    exact⟨_,rfl,_,_,_,_,rfl,f1,f2,hm'⟩
 ·rintro env ⟨ss,y1,y2,y3,rfl,hl,hs,_⟩
  exact⟨_,rfl,ss,rfl,by simpa using hl,hs⟩
theorem ya(ns:List Int){sizes:List Int}(S:Sz sizes):kE (f_ [.kH (ns.map PV.int),lI sizes]) λp=>∃ Oe:List (List Int),p=.lst (Oe.map lI)/\Oe.length<=8/\∀ l∈Oe,l.length=sizes.length/\Bd 200 l:=by
 have l6:=S.h6
 obtain⟨c,ec⟩:=pY ns 1
 rw[show ((1:Nat):Int)=1 from rfl] at ec
 have h1:0<=c%9:=by omega
 have h2:c%9<9:=by omega
 unfold f_ fZ
 dsimp? [eS,ec,aF (i:=c) (j:=9) (by decide),iy h1 (by omega)]
 refine kE.loop (xs:=List.range (c%9).toNat) (inj:=λ(i:Nat)=>.int (i:Int)) (λzs env=>∃ (Oe:List (List Int)) (y1 y2:Option SV),env=[some (.sh (.kH (ns.map PV.int))),some (.sh (lI sizes)),some (.ow (Oe.map lI)),y1,y2]/\Oe.length+zs.length=(c%9).toNat/\(∀ z∈zs,z<9)/\∀ l∈Oe,l.length=sizes.length/\Bd 200 l) ⟨[],none,none,rfl,by simp,(λz hz=>by rw[List.mem_range] at hz;omega),λ_ h=>nomatch h⟩ ?_ ?_
 ·rintro k r env ⟨Oe,y1,y2,rfl,hl,hz,hr⟩
  have hk:=hz k List.mem_cons_self
  have PZ:∀ z∈r,z<9:=λz h=>hz z (List.mem_cons_of_mem _ h)
  obtain⟨d,ed⟩:=pY ns (2+k)
  rw[show ((2+k:Nat):Int)=2+(k:Int) by omega] at ed
  have QL:(Oe.map lI).length<1000:=by simp at hl ⊢;omega
  have fin:∀ v:List Int,v.length=sizes.length->Bd 200 v->(Oe++[v]).length+r.length=(c%9).toNat/\∀ l∈Oe++[v],l.length=sizes.length/\Bd 200 l:=λv h1 h2=>⟨by simp at hl ⊢;omega,λs h'=>by
   rcases List.mem_append.mp h' with q | q
   ·exact hr s q
   ·rw[List.mem_singleton.mp q];exact⟨h1,h2⟩⟩
  dsimp? [cj,ed,ec,aD (i:=c) (j:=9) (by decide) (by decide),aF (i:=c/9) (j:=2) (by decide)]
  rcases two (c:=c/9) with h2 | h2
  ·simp only[h2,show ¬ (0:Int)=1 by decide,decide_false]
   obtain⟨_,el,v,rfl,hv1,hv2⟩:=AV S (d+7919*(k:Int))
   dsimp? [aN (i:=7919) (j:=(k:Int)) (k:=31) (l:=31) (by decide) (by omega),el,gS,ownAt,hG QL]
   obtain⟨f1,f2⟩:=fin v hv1 hv2
   exact⟨_,rfl,Oe++[v],_,_,by rw[List.map_append];rfl,f1,PZ,f2⟩
  ·simp only[h2,decide_true]
   obtain⟨v,ev,hv1,hv2⟩:=lN d (lI sizes) sizes rfl (λb hb=>by have:=S.hx b hb;omega) (by omega)
   dsimp? [ev,gS,ownAt,hG QL]
   obtain⟨f1,f2⟩:=fin v hv1 λx hx=>by
    obtain⟨i,hi,rfl⟩:=List.mem_iff_getElem.mp hx
    have h3:i<sizes.length:=by omega
    have:=hv2 (v[i],sizes[i]) (List.mem_iff_getElem.mpr ⟨i,by simp;omega,by simp⟩)
    have h4:=S.hx _ (List.getElem_mem h3)
    simp at this
    omega
   exact⟨_,rfl,Oe++[v],_,_,by rw[List.map_append];rfl,f1,PZ,f2⟩
 ·rintro env ⟨Oe,y1,y2,rfl,hl,_,hr⟩
  exact⟨_,rfl,Oe,rfl,by simp at hl;omega,hr⟩
theorem Bg(c:Int)(m:Nat)(hm:m<=8):kE (fw [.int c,.int (m:Int)]) λp=>∃ xs:List Int,p=tI xs/\xs.length=m/\Bd 199 xs:=by
 unfold fw gX
 dsimp? [aF (i:=c) (j:=2) (by decide),aD (i:=c) (j:=2) (by decide) (by decide)]
 rcases two (c:=c) with h | h
 ·simp only[h,show ¬ (0:Int)=1 by decide,decide_false]
  obtain⟨_,es,xs,rfl,xl,xb⟩:=lD (c/2) m (by omega)
  dsimp? [eS,es,aD (i:=c) (j:=2) (by decide) (by decide)]
  refine kE.loop (xs:=xs) (inj:=PV.int) (λzs env=>∃ (ss:List Int) (y:Option SV),env=[some (.sh (.int c)),some (.sh (.int (m:Int))),some (.ow (ss.map PV.int)),y]/\ss.length+zs.length=m/\Bd 199 ss/\∀ z∈zs,z∈xs) ⟨[],none,rfl,by simpa using xl,(λ_ h=>nomatch h),λ_ h=>h⟩ ?_ ?_
  ·rintro a r env ⟨ss,y,rfl,hl,hs,hz⟩
   have ha:=xb a (hz a List.mem_cons_self)
   have QL:(ss.map PV.int).length<1000:=by simp at hl ⊢;omega
   obtain⟨_,eg,g,rfl,hg⟩:=vY (a/2) (by omega) (by omega)
   obtain⟨v,hv,ev⟩:=pick [a/2%9-4,g] a 2 rfl (by decide)
   rw[show ((2:Nat):Int)=2 from rfl] at ev
   simp only[List.map_cons,List.map_nil] at ev
   dsimp? [cj,aD (i:=a) (j:=2) (by decide) (by decide),aF (i:=a/2) (j:=9) (by decide),eg,aF (i:=a) (j:=2) (by decide),gS,ownAt,ev,hG QL,fO]
   refine⟨_,rfl,_,_,rfl,by simp at hl ⊢;omega,λs h'=>?_,λz h=>hz z (List.mem_cons_of_mem _ h)⟩
   rcases List.mem_append.mp h' with q | q
   ·exact hs s q
   ·rw[List.mem_singleton.mp q]
    simp at hv
    rcases hv with rfl | rfl
    ·omega
    ·exact hg
  ·rintro env ⟨ss,y,rfl,hl,hs,_⟩
   exact⟨_,rfl,ss,rfl,by simpa using hl,hs⟩
 ·simp only[h,decide_true]
  obtain⟨xs,ex,xl,xb⟩:=lN (c/2) (.lst (List.replicate m (.int (2*10^30-1)))) (List.replicate m (2*10^30-1)) (by rw[List.map_replicate];rfl) (λb hb=>by rw[zA hb];decide) (by simp;omega)
  rw[List.length_replicate] at xl
  dsimp? [aD (i:=c) (j:=2) (by decide) (by decide),Bx,aN (i:=2) (j:=10^30) (k:=60) (l:=200) (by decide) (by decide),wG (.int (2*10^30-1)) m (by omega),ex,List.length_map,av (aJ (show xs.length<=1000 by omega)),gC (f:=aj jh (ae 0) (aj jh (aj wI (λ_=>M.ok (.int 10)) (λ_=>M.ok (.int 30))) (λ_=>M.ok (.int 1)))) (inj:=PV.int) (h:=λx=>.int (x-(10^30-1))) (rest:=[]) (x0:=none) xs λa _=>by dsimp? [Bx]]
  refine⟨_,rfl,xs.map (·-(10^30-1)),by rw[tI,List.map_map];rfl,by simp;omega,λx hx=>?_⟩
  obtain⟨y,hy,rfl⟩:=List.mem_map.mp hx
  obtain⟨i,hi,rfl⟩:=List.mem_iff_getElem.mp hy
  have:=xb (xs[i],2*10^30-1) (List.mem_iff_getElem.mpr ⟨i,by simp;omega,by simp⟩)
  simp at this
  show (xs[i]-(10^30-1)).natAbs<2^199
  omega
theorem CA{xs:List Int}{i:Nat}(h:i<xs.length):aQ (lI xs) (.int (i:Int))=M.ok (.int (vf xs i)) :=
 ck (p:=lI xs) rfl (by rw[List.getElem?_map,List.getElem?_eq_getElem h,aL h];rfl)
theorem getD_at{α β:Type}(f:α->β){xs:List α}{a:α}{b:β}{l:Nat}(h:l<xs.length):(xs.map f).getD l b=f (xs.getD l a):=by
 rw[List.getD_eq_getElem?_getD,List.getD_eq_getElem?_getD,List.getElem?_map,List.getElem?_eq_getElem h];rfl
theorem getD_mem{α:Type}{xs:List α}{a:α}{l:Nat}(h:l<xs.length):xs.getD l a∈xs:=by
 rw[List.getD_eq_getElem?_getD,List.getElem?_eq_getElem h];exact List.getElem_mem h
theorem Dq{sizes:List Int}{Oe:List (List Int)}(S:Sz sizes)(hr:∀ l∈Oe,l.length=sizes.length/\Bd 200 l):Kz sizes.length Oe.length sizes (Oe.map λl=>xD l sizes)/\∀ l,l<Oe.length->∀ i,i<sizes.length->AA (Oe.map λl=>xD l sizes) l i=vf (Oe.getD l []) i%vf sizes i:=by
 have e:∀ l,l<Oe.length->∀ i,i<sizes.length->AA (Oe.map λl=>xD l sizes) l i=vf (Oe.getD l []) i%vf sizes i:=λl hl i hi=>by
  unfold AA
  rw[getD_at (a:=[]) _ hl,uW,ka (by rw[(hr _ (getD_mem hl)).1];exact hi) hi]
 refine⟨⟨by simp,λl hl=>?_,λl hl i hi=>?_⟩,e⟩
 ·rw[getD_at (a:=[]) _ hl,uW,jM,(hr _ (getD_mem hl)).1];omega
 ·rw[e l hl i hi]
  have:=S.hx _ (List.getElem_mem hi)
  rw[← aL hi] at this
  exact⟨Int.emod_nonneg _ (by omega),Int.emod_lt_of_pos _ (by omega)⟩
theorem pf{sizes:List Int}(S:Sz sizes):∀ i,i<sizes.length->0<vf sizes i/\vf sizes i<=360:=λi hi=>by
 have:=S.hx _ (List.getElem_mem hi)
 rw[← aL hi] at this
 omega
theorem iL{sizes xs:List Int}(h:xs.length=sizes.length)(h0:∀ i,i<sizes.length->0<=vf xs i/\vf xs i<vf sizes i):EN sizes xs:=⟨h,λz hz=>by
 obtain⟨i,hi,rfl⟩:=List.mem_iff_getElem.mp hz
 rw[List.length_zip] at hi
 have:=h0 i (by omega)
 rw[aL (by omega),aL (by omega)] at this
 simpa using this⟩
theorem E7{m:Nat}{P B C:Nat->Int}{s:Int}(h:∀ l,l<m->s∣B l-C l):s∣(bN m λl=>P l*B l)-bN m λl=>P l*C l:=by
 induction m with
 | zero=>exact⟨0,by simp[bN]⟩
 | succ m ih =>
  obtain⟨a,ha⟩:=ih λl hl=>h l (by omega)
  obtain⟨b,hb⟩:=h m (by omega)
  exact⟨a+P m*b,by rw[bN,bN];grind⟩
def rF(ns:List Int)(a b:Nat):List Int:=(ns.drop (HT.dF ns.length 0 (some (a:Int)))).take (HT.dF ns.length ns.length (some (b:Int))-HT.dF ns.length 0 (some (a:Int)))
theorem El(ns:List Int)(a b:Nat):J3 (.kH (ns.map PV.int)) (some (a:Int)) (some (b:Int))=M.ok (.lst ((rF ns a b).map PV.int)):=by
 show M.ok (PV.lst (pA (ns.map PV.int) _ _))=_
 rw[pA,rF,List.map_take,List.map_drop,List.length_map]
theorem t6(ns:List Int)(a b:Nat):(rF ns a b).length<=b-a:=by
 unfold rF
 rw[List.length_take,List.length_drop,HT.zh,HT.zh]
 omega
theorem An(xs:List Int)(h:xs.length<=100):eR (.lst (xs.map PV.int)) (.lst [.int 0])=M.ok (lI (xs++[0])):=by
 rw[eR,av (aJ (by simp;omega)),lI,List.map_append];rfl
theorem xV{xs:List Int}{z:Int×Nat}(h:z∈xs.zipIdx):z.2<xs.length:=by
 obtain⟨i,hi,rfl⟩:=List.mem_iff_getElem.mp h
 simp at hi ⊢;exact hi
theorem Ij(Ls:List (List Int))(i:Nat):AA Ls Ls.length i=0:=by
 unfold AA
 rw[List.getD_eq_getElem?_getD,List.getElem?_eq_none (Nat.le_refl _)]
 exact q_ (Nat.zero_le _)
section
variable{sizes:List Int}{Ls:List (List Int)}{R:List Row}{idle:List (List Int)}{A:Nat->cu}{k:Nat}
theorem wQ{m:Str}{sem:List PV->M PV}{x:M (List PV)}(h:(wN (du sizes Ls) R idle).lookup m=none):t4 aB m sem (pT sizes Ls R idle) x=x.bind λps=>sem (pT sizes Ls R idle::ps):=lU h
theorem LJ:Ar (λc=>c==aB) "vault" (pT sizes Ls R idle)=M.ok (du sizes Ls):=nU (beq_self_eq_true _) J5
theorem Nv:Ar (λc=>c==aB) "made_rows" (pT sizes Ls R idle)=M.ok (.lst (R.map mk)):=nU (beq_self_eq_true _) La
theorem GF:t4 az "sizes" aT (du sizes Ls) (M.ok [])=M.ok (tI sizes):=(lU (fl:=n6 sizes Ls) rfl).trans (wH sizes Ls)
def lst(sizes:List Int)(Ls:List (List Int))(R:List Row)(xs:List Int):List Int:=(a0 sizes R (xs,List.replicate Ls.length 0) 0 sizes.length).1
theorem Ax(h:St sizes.length Ls.length sizes A k R){xs:List Int}(hl:xs.length=sizes.length)(h0:∀ i,i<sizes.length->0<=vf xs i/\vf xs i<vf sizes i) :
  (lst sizes Ls R xs).length=sizes.length/\(∀ i,i<sizes.length->0<=vf (lst sizes Ls R xs) i/\vf (lst sizes Ls R xs) i<aU (vf sizes) (DD R) i)/\(∀ i,i<sizes.length->0<=vf (lst sizes Ls R xs) i/\vf (lst sizes Ls R xs) i<vf sizes i)/\G sizes.length (vf sizes) (DD R) sizes.length 0 (λi=>vf xs i-vf (lst sizes Ls R xs) i):=by
 have r2:(List.replicate Ls.length (0:Int)).length=Ls.length:=by simp
 have ll:=i0 h (f:=0) (r:=(xs,List.replicate Ls.length 0)) hl r2 sizes.length (by omega)
 have dn:=n9 h (f:=0) (r:=(xs,List.replicate Ls.length 0)) hl r2 h0
 exact⟨ll.1,λi hi=>dn.low h.gd sizes.length (Nat.zero_le _) (Nat.le_refl _) i (Nat.zero_le _) hi,λi hi=>dn.kept h.gd sizes.length (Nat.zero_le _) (Nat.le_refl _) i hi,dn.away h.gd sizes.length (Nat.zero_le _) (Nat.le_refl _) sizes.length (by omega)⟩
theorem C8(S:Sz sizes)(hm:Ls.length<=8)(h:St sizes.length Ls.length sizes A k R)(hk:k<=9){xs:List Int}(hl:xs.length=sizes.length)(h0:∀ i,i<sizes.length->0<=vf xs i/\vf xs i<vf sizes i) :
  gk [pT sizes Ls R idle,tI xs]=M.ok (tI (lst sizes Ls R xs)):=by
 have dk:=uF (idle:=idle) S hm h hk (iL hl h0) h0
 unfold gk fY
 dsimp? [bT,wQ (m := "brought_down") rfl,dk,pe]
 rfl
def nO(sizes:List Int)(R:List Row):List Int:=(List.range sizes.length).map λd=>aU (vf sizes) (DD R) d
theorem lu:(nO sizes R).length=sizes.length:=by simp[nO]
theorem zN{i:Nat}(h:i<sizes.length):vf (nO sizes R) i=aU (vf sizes) (DD R) i:=by
 rw[aL (by rw[lu];exact h)];simp[nO]
theorem BN(S:Sz sizes)(h:St sizes.length Ls.length sizes A k R):gi [pT sizes Ls R idle]=M.ok (tI (nO sizes R)):=by
 have l6:=S.h6
 have key:bP (cj 0) none (ai dJ (aa (ae 2) (aa (cT (λc=>c==aB) "made_rows" (ae 1)) (aa (ae 0) ao)))) ((List.range sizes.length).map λ(i:Nat)=>.int (i:Int)) [none,some (.sh (pT sizes Ls R idle)),some (.sh (tI sizes))]=M.ok ((List.range sizes.length).map λd=>.int (aU (vf sizes) (DD R) d)):=by
  refine gC (inj:=λ(i:Nat)=>PV.int (i:Int)) (List.range sizes.length) λi hi=>?_
  dsimp? [eI,Nv,uH h.wf h.hs (List.mem_range.mp hi)]
 unfold gi f9
 dsimp? [eI,LJ,bT,GF,iy (n:=(sizes.length:Int)) (by omega) (by omega),Int.toNat_natCast,List.length_map,List.length_range,av (aJ (show sizes.length<=1000 by omega)),key]
 rw[tI,nO,List.map_map];rfl
theorem Fw(xs:List PV):aW [du sizes Ls,.lst xs]=M.ok (.bl false):=by
 unfold aW cX
 dsimp? [bT,GF]
theorem E_:aW [du sizes Ls,.b_]=M.ok (.bl false):=by
 unfold aW cX
 dsimp? [bT,GF]
theorem yS(S:Sz sizes){xs:List Int}(hz:xs.length<=1000)(h:vh sizes xs=false):aW [du sizes Ls,tI xs]=M.ok (.bl false):=by
 rw[mB S xs hz,h]
theorem vO{p:PV}(h:aW [du sizes Ls,p]=M.ok (.bl false)):aR [du sizes Ls,p]=some (.error (bu,none)):=by
 unfold aR bB
 dsimp? [h,kU,av (aJ (show 1<=1000 by decide))]
theorem Ce(S:Sz sizes)(hm:Ls.length<=8)(h:St sizes.length Ls.length sizes A k R)(hk:k<=9){xs:List Int}(hl:xs.length=sizes.length)(h0:∀ i,i<sizes.length->0<=vf xs i/\vf xs i<vf sizes i)(hn:lst sizes Ls R xs≠List.replicate sizes.length 0) :
  bJ [pT sizes Ls R idle,tI xs]=M.ok .b_:=by
 have dk:=uF (idle:=idle) S hm h hk (iL hl h0) h0
 unfold bJ bZ
 dsimp? [bT,wQ (m := "brought_down") rfl,dk,pe,eI,LJ,oP (Ls:=Ls) S.h6,Dz]
 simp only[show ¬ (a0 sizes R (xs,List.replicate Ls.length 0) 0 sizes.length).1=List.replicate sizes.length 0 from hn,decide_false]
 dsimp? []
end
section
variable{sizes:List Int}{Oe Ls:List (List Int)}{R:List Row}{k:Nat}
theorem mw(S:Sz sizes):∀ s∈sizes,0<s:=λs hs=>by have:=S.hx s hs;omega
theorem zB{F F':List Int}(h:F.length=sizes.length)(h':F'.length=sizes.length)(k:∀ i,i<sizes.length->0<=vf F i/\vf F i<vf sizes i)(k':∀ i,i<sizes.length->0<=vf F' i/\vf F' i<vf sizes i)(d:∀ i,i<sizes.length->vf sizes i∣vf F i-vf F' i):F=F' :=
 rH (h.trans h'.symm) λi hi=>by
  have:=k i (by omega);have:=k' i (by omega)
  have:=oM (d i (by omega)) (by omega) (by omega)
  omega
theorem Ko{P v:cu}(h:St sizes.length Ls.length sizes (AA Ls) k R)(hk:Ls.length<=k)(led:Led sizes.length (vf sizes) Ls.length (AA Ls) v P):G sizes.length (vf sizes) (DD R) sizes.length 0 v:=by
 have g:=G.sum (A:=AA Ls) (P:=P) h.gd Ls.length λl hl=>h.cl l (by omega)
 exact h.gd.qP (by omega) (λi hi=>led i hi) g
theorem Lg{v:cu}(h:St sizes.length Ls.length sizes (AA Ls) k R)(g:G sizes.length (vf sizes) (DD R) sizes.length 0 v):G sizes.length (vf sizes) (DD R) sizes.length 0 (λi=>-v i) :=
 G.ext (by omega) (λi _=>by omega) (h.gd.sub (by omega) (G.zero (by omega)) g)
theorem KA{idle:List (List Int)}{A:Nat->cu}(I:Am sizes.length Ls.length (vf sizes) A Ls.length idle){T:List Int}(hT:T.length=Ls.length)(nf:∀ l,l<Ls.length->0<=vf T l/\vf T l<II idle l l):Bd 200 T:=λx hx=>by
 obtain⟨i,hi,rfl⟩:=List.mem_iff_getElem.mp hx
 have h2:=nf i (by omega)
 rw[aL hi] at h2
 have h3:=I.le i (by omega)
 omega
theorem jP(S:Sz sizes){F:List Int}(h:F.length=sizes.length)(k:∀ i,i<sizes.length->0<=vf F i/\vf F i<vf sizes i):Bd 200 F:=λx hx=>by
 obtain⟨i,hi,rfl⟩:=List.mem_iff_getElem.mp hx
 have h2:=k i (by omega)
 rw[aL hi] at h2
 have:=pf S i (by omega)
 omega
theorem yD(S:Sz sizes){xs ys:List Int}{t:Int}(h1:xs.length=sizes.length)(h2:ys.length=sizes.length):(kO sizes xs ys t).length=sizes.length/\(∀ i,i<sizes.length->0<=vf (kO sizes xs ys t) i/\vf (kO sizes xs ys t) i<vf sizes i)/\∀ i,i<sizes.length->vf sizes i∣vf (kO sizes xs ys t) i-(vf xs i+t*vf ys i) :=
 ⟨jw h1 h2,λi hi=>by
  rw[mx h1 h2 hi]
  have:=pf S i hi
  exact⟨Int.emod_nonneg _ (by omega),Int.emod_lt_of_pos _ (by omega)⟩,λi hi=>by rw[mx h1 h2 hi];exact dc _ _⟩
structure uV (ns:List Int) (sizes:List Int) (Oe Ls:List (List Int)) (R:List Row) (idle:List (List Int)):Prop where
 S:Sz sizes
 hr:∀ l∈Oe,l.length=sizes.length/\Bd 200 l
 eL:Ls=Oe.map λl=>xD l sizes
 hm:Oe.length=Ls.length
 m8:Ls.length<=8
 eA:∀ l,l<Oe.length->∀ i,i<sizes.length->AA Ls l i=vf (Oe.getD l []) i%vf sizes i
 LL:Kz sizes.length Ls.length sizes Ls
 st:St sizes.length Ls.length sizes (AA Ls) (Ls.length+1) R
 I:Am sizes.length Ls.length (vf sizes) (AA Ls) Ls.length idle
 pr:bw Ls.length (λj=>II idle j j)*bw sizes.length (aU (vf sizes) (DD R))=bw sizes.length (vf sizes)
 ord:∀ j,j<Ls.length->∀ P:cu,Zf (j+1) Ls.length P->Led sizes.length (vf sizes) Ls.length (AA Ls) (λ_=>0) P->II idle j j∣P j
 low:∀ d,d<sizes.length->∀ e,d<e->e<sizes.length->DD R d e<aU (vf sizes) (DD R) e
 nul:∀ d,d<sizes.length->DD R d d=0->∀ i,i<sizes.length->DD R d i=0
 MM:eh az eO [.b_] [lI sizes,.lst (Oe.map lI)]=M.ok (du sizes Ls)
 Ku:eh aB gb [] [du sizes Ls]=M.ok (pT sizes Ls R idle)
theorem uV.get(ns:List Int){sizes:List Int}(S:Sz sizes){Oe:List (List Int)}(r8:Oe.length<=8)(hr:∀ l∈Oe,l.length=sizes.length/\Bd 200 l):∃ Ls R idle,uV ns sizes Oe Ls R idle:=by
 have l6:=S.h6
 have sp:=pf S
 obtain⟨LL,eA⟩:=Dq S hr
 have MM:=Fy sizes Oe S r8 λl h=>(hr l h).1
 have hm:Oe.length=(Oe.map λl=>xD l sizes).length:=by simp
 generalize hLs:(Oe.map λl=>xD l sizes)=Ls at *
 rw[hm] at LL r8
 have K:=DN.all (c:=cf) rfl sp LL BO l6 Ls.length (Nat.le_refl _)
 have Ku:=Df S.h1 l6 r8 sp LL
 generalize RK cf sizes Ls sizes.length Ls.length Ls.length=rk at *
 have h:=K.st
 have hl:∀ d,d<sizes.length->(a0 sizes rk.1 (row rk.1 d) (d+1) (sizes.length-(d+1))).1.length=sizes.length:=λd hd=>(i0 h (h.wf.si hd) (h.wf.at2 hd) _ (by omega)).1
 have lg:=wc (D':=DD (oS sizes rk.1 sizes.length)) h.gd (λd e=>vf (a0 sizes rk.1 (row rk.1 d) (d+1) (e-(d+1))).1) (λd hd=>n9 h (h.wf.si hd) (h.wf.at2 hd) λi hi=>h.gd.iO d hd i hi) (λd hd i hi=>by
  show vf (a0 sizes rk.1 (row rk.1 d) (d+1) (d+1-(d+1))).1 i=_
  rw[Nat.sub_self];rfl) (λd hd i hi=>by unfold DD;rw[ni hd])
 refine⟨Ls,oS sizes rk.1 sizes.length,rk.2,S,hr,hLs.symm,hm,r8,eA,LL,JH K.st l6 (Ij Ls),K.vL,?_,K.ord,?_,?_,MM,Ku⟩
 ·rw[jE (f:=aU (vf sizes) (DD (oS sizes rk.1 sizes.length))) (g:=aU (vf sizes) (DD rk.1)) lg.2.1]
  exact K.pr
 ·intro d hd e h1 h2
  rw[lg.2.1 e h2]
  exact lg.2.2.1 d hd e h1 h2
 ·exact lg.2.2.2.1
end
theorem pv{sizes:List Int}(S:Sz sizes)(c:Int):kE (cS [.int c,lI sizes]) λp=>∃ xs:List Int,p=tI xs/\xs.length=sizes.length/\∀ i,i<sizes.length->0<=vf xs i/\vf xs i<vf sizes i:=by
 have l6:=S.h6
 unfold cS fx
 dsimp? [aF (i:=c) (j:=2) (by decide)]
 rcases two (c:=c) with h | h
 ·simp only[h,show ¬ (0:Int)=1 by decide,decide_false]
  obtain⟨_,es,xs,rfl,xl,xb⟩:=lD (c/2) sizes.length (by omega)
  have key:bP (bx 0 1) none (aj cw (ae 0) (ae 1)) ((xs.zip sizes).map λz=>.tup [.int z.1,.int z.2]) [none,none]=M.ok ((xs.zip sizes).map λz=>.int (z.1%z.2)):=by
   refine jY (p:=λz:Int×Int=>PV.int z.1) (q:=λz:Int×Int=>PV.int z.2) (xs.zip sizes) λz hz=>?_
   dsimp? [aF (i:=z.1) (mw S _ (jV hz).2)]
  have hz:(xs.zip sizes).length<=sizeLine:=by rw[List.length_zip];exact aJ (Nat.le_trans (Nat.min_le_left _ _) (by omega))
  dsimp? [aD (i:=c) (j:=2) (by decide) (by decide),es,cN (p:=lI xs) (q:=lI sizes) xs sizes rfl rfl,List.length_map,av hz,key]
  refine⟨_,rfl,(xs.zip sizes).map λz=>z.1%z.2,by rw[tI,List.map_map];rfl,by simp;omega,λi hi=>?_⟩
  have:=pf S i hi
  rw[aL (by simp;omega)]
  simp only[List.getElem_map,List.getElem_zip]
  rw[aL hi] at this ⊢
  exact⟨Int.emod_nonneg _ (by omega),Int.emod_lt_of_pos _ (by omega)⟩
 ·simp only[h,decide_true]
  obtain⟨xs,ex,xl,xb⟩:=lN (c/2) (lI sizes) sizes rfl (λb hb=>by have:=S.hx b hb;omega) (by omega)
  dsimp? [aD (i:=c) (j:=2) (by decide) (by decide),ex]
  refine⟨_,rfl,xs,rfl,xl,λi hi=>?_⟩
  have:=xb (xs[i]'(by omega),sizes[i]) (List.mem_iff_getElem.mpr ⟨i,by simp;omega,by simp⟩)
  rw[aL (by omega),aL hi]
  exact this
theorem rP(xs:List Int)(h1:1<=xs.length)(h6:xs.length<=6)(hx:∀ x∈xs,2<=x/\x<=360):dR [tI xs]=M.ok .b_:=by
 unfold dR fu
 have a1:¬ (6:Int)<xs.length:=by omega
 have a2:¬ (xs.length:Int)=0:=by omega
 dsimp? [a1,a2,decide_false,Ju]
 refine dq xs.zipIdx (λzs env=>(∃ b c,env=[some (.sh (tI xs)),b,c])/\∀ z∈zs,2<=z.1/\z.1<=360) ⟨⟨_,_,rfl⟩,λz hz=>hx z.1 (List.fst_mem_of_mem_zipIdx hz)⟩ ?_ ?_
 ·rintro⟨a,i⟩ r env ⟨⟨b,c,rfl⟩,hz⟩
  have ha:=hz (a,i) List.mem_cons_self
  refine⟨_,[some (.sh (tI xs)),some (.sh (.int i)),some (.sh (.int a))],rfl,?_,⟨_,_,rfl⟩,λz PZ=>hz z (List.mem_cons_of_mem _ PZ)⟩
  dsimp? [within_int,ha,and_self,decide_true]
 ·rintro N_ ⟨⟨b,c,rfl⟩,_⟩;rfl
theorem hV(sizes:List Int)(h:Sz sizes):dj [tI sizes]=M.ok (.int (R sizes)):=by
 unfold dj eo
 dsimp? []
 refine dq sizes (λr env=>∃ acc x,env=[some (.sh (tI sizes)),some (.sh (.int (acc:Nat))),x]/\Acc sizes r acc) ⟨1,_,rfl,.start h⟩ ?_ ?_
 ·rintro a r env ⟨acc,x,rfl,A⟩
  obtain⟨A2,e1,e2,e3⟩:=A.turn
  have l1:=A.lt
  have ha:=A.iO a List.mem_cons_self
  obtain⟨s,t,ec,_,_,_⟩:=oV (acc:Int) a (by omega) (by omega)
  have g1:Int.gcd acc a<=acc:=Nat.le_of_dvd A.pos (Int.ofNat_dvd.mp (Int.gcd_dvd_left ..))
  have d0:0<=(acc:Int)/(Int.gcd acc a:Nat):=Int.ediv_nonneg (by omega) (by omega)
  refine⟨_,[some (.sh (tI sizes)),some (.sh (.int (Nat.lcm acc a.toNat:Nat))),some (.sh (.int a))],rfl,?_,_,_,rfl,A2⟩
  dsimp? [ec,v5,aD (i:=(acc:Int)) (show (0:Int)<(Int.gcd acc a:Nat) by omega) (show ((Int.gcd acc a:Nat):Int)<2^64 by omega),aN (k:=64) (l:=64) (show ((acc:Int)/(Int.gcd acc a:Nat)).natAbs<2^64 by omega) (show a.natAbs<2^64 by omega),e1]
 ·rintro N_ ⟨acc,x,rfl,A⟩
  dsimp? []
  have:=A.val
  rw[R,← this];rfl
theorem BY(sizes:List Int)(levers:List (List Int))(h:Sz sizes)(h8:levers.length<=8)(hl:∀ l∈levers,l.length=sizes.length):eh az eO [.b_] [tI sizes,.lst (levers.map lI)]=M.ok (du sizes (levers.map λl=>xD l sizes)):=by
 have key:∀ a,eO a ([tI sizes,.lst (levers.map lI)]++[.b_])=M.ok (n6 sizes (levers.map λl=>xD l sizes)):=by
  intro a
  have e1:bP (cj 0) none (ai i5 (aa (ae 0) (aa (ae 1) ao))) (levers.map lI) [none,some (.sh (tI sizes))]=M.ok (levers.map λl=>tI (xD l sizes)):=by
   refine gC levers λl hm=>?_
   have hs:=hl l hm
   have:=nV (lI l) (tI sizes) l sizes rfl rfl (λs hs=>by have:=h.hx s hs;omega) (by rw[hs];have:=h.h6;omega)
   dsimp? [this]
  unfold eO h9
  simp only[mW]
  rw[av (show ([tI sizes,PV.lst (levers.map lI)]++[PV.b_]).length+1=4 from rfl)]
  simp only[rY,u6]
  dsimp? [rP sizes h.h1 h.h6 h.hx,k9 sizes.length levers h8 hl (by have:=h.h6;omega),iM,List.length_map,av (aJ (show levers.length<=1000 by omega)),e1,eZ _ (show (levers.map lI).length<=8 by rw[List.length_map];exact h8),hV sizes h]
  rw[dU _ _ _ _ _ _ (by simp)]
  dsimp? [iM,List.length_map,av (aJ (show levers.length<=1000 by omega)),e1,eZ _ (show (levers.map lI).length<=8 by rw[List.length_map];exact h8),hV sizes h]
  rw[dU _ _ _ _ _ _ (Nat.lt_of_le_of_lt (eP (Nat.zero_le 0)) (by decide))]
  dsimp? [iM,List.length_map,av (aJ (show levers.length<=1000 by omega)),e1,eZ _ (show (levers.map lI).length<=8 by rw[List.length_map];exact h8),hV sizes h]
  rw[dU _ _ _ _ _ _ (Nat.lt_of_le_of_lt (eP (eP (Nat.zero_le 0))) (by decide))]
  dsimp? [iM,List.length_map,av (aJ (show levers.length<=1000 by omega)),e1,eZ _ (show (levers.map lI).length<=8 by rw[List.length_map];exact h8),hV sizes h]
  rw[dU _ _ _ _ _ _ (Nat.lt_of_le_of_lt (eP (eP (eP (Nat.zero_le 0)))) (by decide))]
  dsimp? []
  show cD _ _=_
  rw[av ⟨rfl,rfl⟩]
  rw[n6,List.map_map,List.length_map]
  rfl
 unfold eh
 rw[qY key];rfl
theorem Ba(sizes:List Int)(levers:List (List Int)):cR [du sizes levers]=M.ok (.int (R sizes)):=by
 unfold cR dP
 dsimp? [cT,du,beq_self_eq_true,CJ]
theorem Nr{sizes:List Int}{Ls:List (List Int)}:t4 az "around" cR (du sizes Ls) (M.ok [])=M.ok (.int (R sizes)):=(lU (fl:=n6 sizes Ls) rfl).trans (Ba sizes Ls)
def CI(sizes ws xs:List Int):Int:=((((ws.zip sizes).map λz=>z.1*(R sizes/z.2)).zip xs).map λz=>z.1*z.2).sum%R sizes
theorem qG{sizes:List Int}(h:Sz sizes){s:Int}(hs:s∈sizes):0<=R sizes/s/\R sizes/s<2^60:=by
 have h1:=xB h;have h2:=Ll h;have h3:=h.hx s hs
 refine⟨Int.ediv_nonneg (by omega) (by omega),Int.lt_of_le_of_lt (Int.ediv_le_self s (by omega)) h2⟩
theorem B8{sizes:List Int}(h:Sz sizes){w s:Int}(hw:0<=w/\w<360)(hs:s∈sizes):(w*(R sizes/s)).natAbs<2^80:=by
 have h1:=qG h hs
 rw[Int.natAbs_mul]
 have:w.natAbs*(R sizes/s).natAbs<=2^9*2^60:=Nat.mul_le_mul (by omega) (by omega)
 exact Nat.lt_of_le_of_lt this (by decide)
theorem qu{sizes:List Int}{levers:List (List Int)}(h:Sz sizes){ws xs:List Int}(hw:EN sizes ws)(hs:EN sizes xs):ke [du sizes levers,tI ws,tI xs]=M.ok (.int (CI sizes ws xs)):=by
 have l6:=h.h6
 have k1:bP (bx 0 1) none (aj cv (ae 0) (aj bq (ae 2) (ae 1))) ((ws.zip sizes).map λz=>.tup [.int z.1,.int z.2]) [none,none,some (.sh (.int (R sizes)))]=M.ok ((ws.zip sizes).map λz=>.int (z.1*(R sizes/z.2))):=by
  refine jY (p:=λz:Int×Int=>PV.int z.1) (q:=λz:Int×Int=>PV.int z.2) (ws.zip sizes) λz hz=>?_
  obtain⟨m1,m2⟩:=jV hz
  have a1:=h.hx z.2 m2;have a2:=uX h hw m1;have a3:=qG h m2
  dsimp? [aD (i:=R sizes) (show 0<z.2 by omega) (show z.2<2^64 by omega),aN (k:=64) (l:=64) (show z.1.natAbs<2^64 by omega) (show (R sizes/z.2).natAbs<2^64 by omega)]
 have z1:(ws.zip sizes).length<=sizeLine:=by rw[List.length_zip];exact aJ (Nat.le_trans (Nat.min_le_right _ _) (by omega))
 let us:=(ws.zip sizes).map λz=>z.1*(R sizes/z.2)
 have k2:bP (bx 0 1) none (aj cv (ae 0) (ae 1)) ((us.zip xs).map λz=>.tup [.int z.1,.int z.2]) [none,none]=M.ok ((us.zip xs).map λz=>.int (z.1*z.2)):=by
  refine jY (p:=λz:Int×Int=>PV.int z.1) (q:=λz:Int×Int=>PV.int z.2) (us.zip xs) λz hz=>?_
  obtain⟨m1,m2⟩:=jV hz
  obtain⟨y,hy,e⟩:=List.mem_map.mp m1
  obtain⟨n1,n2⟩:=jV hy
  have a1:=B8 h (uX h hw n1) n2
  rw[e] at a1
  have a2:=uX h hs m2
  dsimp? [aN (k:=80) (l:=64) a1 (show z.2.natAbs<2^64 by omega)]
 have z2:(us.zip xs).length<=sizeLine:=by rw[List.length_zip];exact aJ (Nat.le_trans (Nat.min_le_right _ _) (by rw[hs.len];omega))
 have k3:j4 [.lst ((ws.zip sizes).map λz=>.int (z.1*(R sizes/z.2))),tI xs,.int (R sizes)]=M.ok (.int (CI sizes ws xs)):=by
  have e0:bR (.lst ((ws.zip sizes).map λz=>PV.int (z.1*(R sizes/z.2))))=some (us.map PV.int):=by
   rw[qI,List.map_map];rfl
  have e1:Bf [.lst ((us.zip xs).map λz=>PV.int (z.1*z.2))]=M.ok (.int ((us.zip xs).map λz=>z.1*z.2).sum):=by
   have:=Bu ((us.zip xs).map λz=>z.1*z.2)
   rw[List.map_map] at this
   exact this
  unfold j4 jR
  dsimp? [cN (q:=tI xs) us xs e0 rfl,List.length_map,av z2,k2,e1,aF (xB h)]
  rfl
 unfold ke lS
 dsimp? [gQ (levers:=levers) h hw,gQ (levers:=levers) h hs,bT,Nr,GF,cN (p:=tI ws) (q:=tI sizes) ws sizes rfl rfl,List.length_map,av z1,k1,k3]
theorem xn(xs:List Int):∀ m,m<=xs.length->(xs.take m).sum=bN m (vf xs)
 | 0,_=>by simp[bN]
 | m+1,h=>by
  rw[bN,← xn xs m (by omega),List.take_succ_eq_append_getElem (by omega),List.sum_append,aL (by omega)];simp
theorem wW(xs:List Int):xs.sum=bN xs.length (vf xs):=by
 rw[← xn xs _ (Nat.le_refl _),List.take_length]
theorem vo{sizes ws xs:List Int}(h1:ws.length=sizes.length)(h2:xs.length=sizes.length):CI sizes ws xs=iQ sizes.length (vf sizes) (R sizes) (vf ws) (vf xs)%R sizes:=by
 unfold CI iQ
 rw[wW]
 have hl:((((ws.zip sizes).map λz=>z.1*(R sizes/z.2)).zip xs).map λz=>z.1*z.2).length=sizes.length:=by simp;omega
 rw[hl]
 congr 1
 refine gu λi hi=>?_
 rw[aL (by rw[hl];exact hi),aL (by omega),aL (by omega),aL (by omega)]
 simp only[List.getElem_map,List.getElem_zip]
 rw[Int.mul_assoc,Int.mul_comm (R sizes/_),← Int.mul_assoc]
section
variable{ns:List Int}{sizes:List Int}{Oe Ls:List (List Int)}{T:List Row}{idle:List (List Int)}
theorem Ii(S:Sz sizes):∀ i,i<sizes.length->vf sizes i∣R sizes:=λi hi=>by rw[aL hi];exact Kc S (List.getElem_mem hi)
def uN(sizes:List Int)(T:List Row):List Int:=(sizes.zip (nO sizes T)).map λz=>z.1/z.2
theorem qZ:(uN sizes T).length=sizes.length:=by simp[uN,lu]
theorem zK{i:Nat}(h:i<sizes.length):vf (uN sizes T) i=iN (vf sizes) (DD T) i:=by
 have e:=zN (R:=T) h
 rw[aL (by rw[lu];exact h)] at e
 rw[aL (by rw[qZ];exact h)]
 simp only[uN,List.getElem_map,List.getElem_zip]
 rw[e,← aL h];rfl
theorem G8{n j:Nat}(h:j<n):Bj n (j:Int)=some j:=by
 unfold Bj;rw[if_pos (by omega),if_pos (by omega)];simp
theorem vR{i j:Nat}{xs:List Int}{v:Int}{env:af}(h:j<xs.length):GO i (xs.map PV.int) (.int v) env (.int (j:Int))=M.ok (.nx (env.set i (some (.ow ((xs.set j v).map PV.int))))):=by
 show (match Bj (xs.map PV.int).length (j:Int) with | some j=>_ | none=>_)=_
 rw[List.length_map,G8 h,List.map_set]
theorem qA{xs:List Int}{j i:Nat}{v:Int}(h:i<xs.length):vf (xs.set j v) i=if i=j then v else vf xs i:=by
 rw[aL (by rw[List.length_set];exact h),List.getElem_set,aL h]
 by_cases z:i=j
 ·rw[if_pos z,if_pos z.symm]
 ·rw[if_neg z,if_neg (Ne.symm z)]
theorem CW(x:Int):B5 (M.ok (.int x))=M.ok (.int x):=Eq.trans rfl rfl
theorem xS(Q:uV ns sizes Oe Ls T idle){d:Nat}(hd:d<sizes.length):kE (c9 [pT sizes Ls T idle,.int (d:Int)]) λp=>∃ W:List Int,p=tI W/\W.length=sizes.length/\(∀ i,i<sizes.length->0<=vf W i/\vf W i<vf sizes i)/\Wk sizes.length (vf sizes) (DD T) (R sizes) d 0 (vf W):=by
 have l6:=Q.S.h6
 have l1:=Q.S.h1
 have g:=Q.st.gd
 have rl:=Q.st.wf.len
 have qd:=Ii Q.S
 have q0:=xB Q.S
 have q1:=Ll Q.S
 have so:=BN (idle:=idle) Q.S Q.st
 have fl:∀ i,i<sizes.length->0<iN (vf sizes) (DD T) i/\iN (vf sizes) (DD T) i<=vf sizes i/\vf sizes i<=360:=λi hi=>⟨(lP g hi).2.1,(lP g hi).2.2,(pf Q.S i hi).2⟩
 have key:bP (bx 0 1) none (aj bq (ae 0) (ae 1)) ((sizes.zip (nO sizes T)).map λz=>.tup [.int z.1,.int z.2]) [none,none]=M.ok ((sizes.zip (nO sizes T)).map λz=>.int (z.1/z.2)):=by
  refine jY (p:=λz:Int×Int=>PV.int z.1) (q:=λz:Int×Int=>PV.int z.2) (sizes.zip (nO sizes T)) λz hz=>?_
  obtain⟨i,hi,e⟩:=List.mem_iff_getElem.mp (jV hz).2
  rw[lu] at hi
  have e2:=zN (R:=T) hi
  rw[aL (by rw[lu];exact hi),e] at e2
  have p:=g.pos hi
  have:=pf Q.S i hi
  dsimp? [aD (i:=z.1) (j:=z.2) (by omega) (by omega)]
 have zl:(sizes.zip (nO sizes T)).length<=sizeLine:=by rw[List.length_zip];exact aJ (Nat.le_trans (Nat.min_le_left _ _) (by omega))
 have ef:PV.lst ((sizes.zip (nO sizes T)).map λz=>PV.int (z.1/z.2))=lI (uN sizes T):=by rw[lI,uN,List.map_map];rfl
 have wi:dG [.int (d:Int),.int 0,.int ((sizes.length:Int)-1)]=M.ok (.bl true):=by
  rw[within_int,decide_eq_true (by omega)]
 have e0:Bz (.lst [.int 0]) (.int (sizes.length:Int))=M.ok ((List.replicate sizes.length 0).map PV.int):=by
  rw[Bz,av ⟨by omega,by omega,by rw[Int.toNat_natCast];exact aJ (by show 1*sizes.length<=1000;omega)⟩,Int.toNat_natCast,qF,List.map_replicate]
 unfold c9 cY
 dsimp? [eI,LJ,bT,GF,wi,wQ (m := "steps") rfl,so,cN (p:=tI sizes) (q:=tI (nO sizes T)) sizes (nO sizes T) rfl rfl,List.length_map,av zl,key,ef,Iu,e0,Kl,ownAt,CA (xs:=uN sizes T) (i:=d) (by rw[qZ];exact hd),zK hd,mD (xs:=sizes) (i:=d) hd,aF (i:=iN (vf sizes) (DD T) d) (j:=vf sizes d) (by have:=fl d hd;omega),vR (i:=4) (xs:=List.replicate sizes.length 0) (j:=d) (by simp;exact hd),wY d (by omega)]
 refine kE.loop (xs:=List.range d) (inj:=λ(i:Nat)=>.int ((d:Int)-1+(i:Int)*-1)) (λzs env=>∃ (c:Nat) (W:List Int) (y5 y6 y7:Option SV),env=[some (.sh (pT sizes Ls T idle)),some (.sh (.int (d:Int))),some (.sh (tI sizes)),some (.sh (lI (uN sizes T))),some (.ow (W.map PV.int)),y5,y6,y7]/\c<=d/\zs=(List.range d).drop c/\W.length=sizes.length/\(∀ i,i<sizes.length->0<=vf W i/\vf W i<vf sizes i)/\Wk sizes.length (vf sizes) (DD T) (R sizes) d (d-c) (vf W)) ⟨0,_,_,_,_,rfl,by omega,rfl,by simp,λi hi=>?_,Wk.start g qd hd λi hi=>?_⟩ ?_ ?_
 ·rw[qA (by simp;exact hi),jS]
  have:=fl i hi
  split
  ·rename_i z;subst z;exact⟨Int.emod_nonneg _ (by omega),Int.emod_lt_of_pos _ (by omega)⟩
  ·omega
 ·rw[qA (by simp;exact hi),jS]
 ·rintro k r env ⟨c,W,y5,y6,y7,rfl,hc,hz,Wl,W0,Wt⟩
  obtain⟨c1,c2,c3⟩:=drop_cons hz.symm
  rw[List.length_range] at c1
  have ek:k=c:=by rw[List.getElem?_range c1] at c2;exact(Option.some.inj c2).symm
  subst ek
  obtain⟨a,ha⟩:∃ a,a=d-1-k:=⟨_,rfl⟩
  have ea:((d:Int)-1+(k:Int)*-1)=(a:Int):=by omega
  have an:a<sizes.length:=by omega
  have fa:=fl a an
  have r1:=Q.st.wf.si an
  have rk:∀ i,i<sizes.length->0<=vf (row T a).1 i/\vf (row T a).1 i<vf sizes i:=λi hi=>g.iO a an i hi
  have we:=qu (levers:=Ls) Q.S (iL Wl W0) (iL r1 rk)
  rw[vo Wl r1] at we
  have eq:vf (row T a).1=DD T a:=rfl
  rw[eq] at we
  have p0:0<=iQ sizes.length (vf sizes) (R sizes) (vf W) (DD T a)%R sizes:=Int.emod_nonneg _ (by omega)
  have p1:iQ sizes.length (vf sizes) (R sizes) (vf W) (DD T a)%R sizes<R sizes:=Int.emod_lt_of_pos _ q0
  have fR:iN (vf sizes) (DD T) a∣R sizes:=Int.dvd_trans ⟨_,(lP g an).1.symm⟩ (qd a an)
  have s0:0<R sizes/iN (vf sizes) (DD T) a:=by
   obtain⟨x,hx⟩:=fR
   rw[hx,Int.mul_ediv_cancel_left _ (by omega)]
   rcases Int.lt_trichotomy x 0 with q | q | q
   ·have:=Int.mul_neg_of_pos_of_neg fa.1 q;omega
   ·rw[q] at hx;omega
   ·exact q
  have s1:R sizes/iN (vf sizes) (DD T) a<=R sizes:=Int.ediv_le_self _ (by omega)
  have tw:PV.tup (W.map PV.int)=tI W:=rfl
  dsimp? [cj,ea,xv,ownAt,uK,eI,LJ,tw,Nv,rW (rows:=T) (d:=a) (by omega),pe,we,CW,bT,Nr,CA (xs:=uN sizes T) (i:=a) (by rw[qZ];exact an),zK an,aD (i:=R sizes) (j:=iN (vf sizes) (DD T) a) (by omega) (by omega),aD (i:=iQ sizes.length (vf sizes) (R sizes) (vf W) (DD T a)%R sizes) (j:=R sizes/iN (vf sizes) (DD T) a) (by omega) (by omega),aF (i:=-(iQ sizes.length (vf sizes) (R sizes) (vf W) (DD T a)%R sizes/(R sizes/iN (vf sizes) (DD T) a))) (j:=iN (vf sizes) (DD T) a) (by omega),Kl,vR (i:=4) (xs:=W) (j:=a) (by omega)]
  refine⟨_,rfl,k+1,_,_,_,_,rfl,by omega,c3.symm,by simpa using Wl,λi hi=>?_,?_⟩
  ·rw[qA (by omega)]
   split
   ·rename_i z;subst z
    have h1:=Int.emod_nonneg (-(iQ sizes.length (vf sizes) (R sizes) (vf W) (DD T i)%R sizes/(R sizes/iN (vf sizes) (DD T) i))) (show iN (vf sizes) (DD T) i≠0 by omega)
    have h2:=Int.emod_lt_of_pos (-(iQ sizes.length (vf sizes) (R sizes) (vf W) (DD T i)%R sizes/(R sizes/iN (vf sizes) (DD T) i))) fa.1
    omega
   ·exact W0 i hi
  ·rw[show d-(k+1)=a by omega]
   refine Wk.next g q0 qd hd (w:=vf W) (by rw[show a+1=d-k by omega];exact Wt) (by omega) ?_ λi hi Qj=>?_
   ·rw[qA (by omega),if_pos rfl]
   ·rw[qA (by omega),if_neg Qj]
 ·rintro env ⟨c,W,y5,y6,y7,rfl,hc,hz,Wl,W0,Wt⟩
  have:c=d:=by
   have:=congrArg List.length hz
   rw[List.length_drop,List.length_range] at this
   simp at this;omega
  subst this
  rw[Nat.sub_self] at Wt
  exact⟨_,rfl,W,rfl,Wl,W0,Wt⟩
end
theorem zD(i j:Nat)(env:af)(p q:PV):HG i j env [p,q]=M.ok (.nx ((env.set i (some (.sh p))).set j (some (.sh q)))):=rfl
section
variable{ns:List Int}{sizes:List Int}{Oe Ls:List (List Int)}{T:List Row}{idle:List (List Int)}
theorem KH:t4 az "levers" aZ (du sizes Ls) (M.ok [])=M.ok (.tup (Ls.map tI)):=(lU (fl:=n6 sizes Ls) rfl).trans (uj sizes Ls)
def ad(sizes xs ys:List Int)(t:Int):List Int:=xD ((xs.zip ys).map λz=>z.1+t*z.2) sizes
theorem wM{xs ys:List Int}{t:Int}(S:Sz sizes)(h1:xs.length=sizes.length)(h2:ys.length=sizes.length):(ad sizes xs ys t).length=sizes.length/\∀ i,i<sizes.length->vf (ad sizes xs ys t) i=(vf xs i+t*vf ys i)%vf sizes i:=by
 have hl:((xs.zip ys).map λz=>z.1+t*z.2).length=sizes.length:=by simp;omega
 refine⟨by rw[ad,uW,jM,hl];simp,λi hi=>?_⟩
 rw[ad,uW,ka (by rw[hl];exact hi) hi,aL (by rw[hl];exact hi),aL (xs:=xs) (by omega),aL (xs:=ys) (by omega)]
 simp
theorem t5{xs ys:List Int}{t:Int}(S:Sz sizes)(h1:xs.length=sizes.length)(hy:Bd 200 ys)(ht:t.natAbs<2^200):mT [du sizes Ls,tI xs,tI ys,.int t]=M.ok (tI (ad sizes xs ys t)):=by
 have l6:=S.h6
 have k1:bP (bx 0 1) none (aj eR (ae 0) (aj cv (ae 2) (ae 1))) ((xs.zip ys).map λz=>.tup [.int z.1,.int z.2]) [none,none,some (.sh (.int t))]=M.ok ((xs.zip ys).map λz=>.int (z.1+t*z.2)):=by
  refine jY (p:=λz:Int×Int=>PV.int z.1) (q:=λz:Int×Int=>PV.int z.2) (xs.zip ys) λz hz=>?_
  dsimp? [aN (k:=200) (l:=200) ht (hy _ (jV hz).2)]
 have z1:(xs.zip ys).length<=sizeLine:=by rw[List.length_zip];exact aJ (Nat.le_trans (Nat.min_le_left _ _) (by omega))
 have e0:bR (.lst ((xs.zip ys).map λz=>PV.int (z.1+t*z.2)))=some (((xs.zip ys).map λz=>z.1+t*z.2).map PV.int):=by
  rw[qI,List.map_map];rfl
 have r:=nV (.lst ((xs.zip ys).map λz=>PV.int (z.1+t*z.2))) (tI sizes) _ sizes e0 rfl (mw S) (by rw[List.length_map,List.length_zip];omega)
 unfold mT nQ
 dsimp? [cN (p:=tI xs) (q:=tI ys) xs ys rfl rfl,List.length_map,av z1,k1,bT,GF,r]
 rfl
structure Ws (sizes:List Int) (T:List Row) (d:Nat) (W:List Int):Prop where
 len:W.length=sizes.length
 iO:∀ i,i<sizes.length->0<=vf W i/\vf W i<vf sizes i
 wk:Wk sizes.length (vf sizes) (DD T) (R sizes) d 0 (vf W)
theorem Ws.sm{d:Nat}{W:List Int}(S:Sz sizes)(h:Ws sizes T d W):∀ x∈W,0<=x/\x<360:=λx hx=>by
 obtain⟨i,hi,rfl⟩:=List.mem_iff_getElem.mp hx
 have Q4:i<sizes.length:=by have:=h.len;omega
 have a:=h.iO i Q4
 have b:=pf S i Q4
 rw[aL hi] at a
 omega
theorem Ws.kill(Q:uV ns sizes Oe Ls T idle){d:Nat}{W:List Int}(h:Ws sizes T d W){v:cu}(g:G sizes.length (vf sizes) (DD T) sizes.length 0 v):R sizes∣iQ sizes.length (vf sizes) (R sizes) (vf W) v :=
 Ck (Ii Q.S) sizes.length 0 v (by omega) (λb _ hb=>h.wk.kill b (Nat.zero_le _) hb) g
def Sl(sizes:List Int)(Ls:List (List Int))(u:List Int):Prop:=∀ l,l<Ls.length->R sizes∣iQ sizes.length (vf sizes) (R sizes) (vf u) (AA Ls l)
theorem Az(Q:uV ns sizes Oe Ls T idle){u:List Int}(hl:u.length=sizes.length)(h0:∀ i,i<sizes.length->0<=vf u i/\vf u i<vf sizes i):∃ b:Bool,dz [du sizes Ls,tI u]=M.ok (.bl b)/\(b=true ↔ Sl sizes Ls u):=by
 have m8:=Q.m8
 have key:bP (cj 0) none (aj l7 (ai ke (aa (ae 1) (aa (ae 2) (aa (ae 0) ao)))) (λ_=>M.ok (.int 0))) (Ls.map tI) [none,some (.sh (du sizes Ls)),some (.sh (tI u))]=M.ok (Ls.map λl=>.bl (decide (CI sizes u l=0))):=by
  refine gC (inj:=tI) Ls λl hm=>?_
  obtain⟨k,hk,ek⟩:=List.mem_iff_getElem.mp hm
  have eg:Ls.getD k []=l:=by rw[List.getD_eq_getElem?_getD,List.getElem?_eq_getElem hk,Option.getD_some,ek]
  have a1:=Q.LL.at_ k hk
  have a2:=Q.LL.iO k hk
  unfold AA at a2
  rw[eg] at a1 a2
  dsimp? [qu (levers:=Ls) Q.S (iL hl h0) (iL a1 a2)]
 have e1:sy [.lst (Ls.map λl=>PV.bl (decide (CI sizes u l=0)))]=M.ok (.bl ((Ls.map λl=>decide (CI sizes u l=0)).all id)):=by
  have:=qV (Ls.map λl=>decide (CI sizes u l=0))
  rw[List.map_map] at this
  exact this
 refine⟨(Ls.map λl=>decide (CI sizes u l=0)).all id,?_,?_⟩
 ·unfold dz dD
  dsimp? [bT,KH,List.length_map,av (aJ (show Ls.length<=1000 by omega)),key,e1]
 ·rw[List.all_eq_true]
  have at_:∀ k (hk:k<Ls.length),CI sizes u Ls[k]=iQ sizes.length (vf sizes) (R sizes) (vf u) (AA Ls k)%R sizes:=λk hk=>by
   have eg:Ls.getD k []=Ls[k]:=by rw[List.getD_eq_getElem?_getD,List.getElem?_eq_getElem hk,Option.getD_some]
   have a1:=Q.LL.at_ k hk
   rw[eg] at a1
   rw[vo hl a1]
   unfold AA
   rw[eg]
  constructor
  ·intro h k hk
   have:=h (decide (CI sizes u Ls[k]=0)) (List.mem_map.mpr ⟨_,List.getElem_mem hk,rfl⟩)
   rw[at_ k hk] at this
   exact Int.dvd_of_emod_eq_zero (by simpa using this)
  ·intro h b hb
   obtain⟨l,hm,rfl⟩:=List.mem_map.mp hb
   obtain⟨k,hk,rfl⟩:=List.mem_iff_getElem.mp hm
   rw[at_ k hk]
   simpa using Int.emod_eq_zero_of_dvd (h k hk)
end
section
variable{ns:List Int}{sizes:List Int}{Oe Ls:List (List Int)}{T:List Row}{idle:List (List Int)}
def Kp(sizes xs:List Int):Prop:=xs.length=sizes.length/\∀ i,i<sizes.length->0<=vf xs i/\vf xs i<vf sizes i
theorem Kp.GI{xs:List Int}(h:Kp sizes xs):EN sizes xs:=iL h.1 h.2
theorem Kp.bd(S:Sz sizes){xs:List Int}(h:Kp sizes xs):Bd 200 xs:=jP S h.1 h.2
theorem l9(S:Sz sizes){xs ys:List Int}{t:Int}(h1:xs.length=sizes.length)(h2:ys.length=sizes.length):Kp sizes (ad sizes xs ys t)/\∀ i,i<sizes.length->vf sizes i∣vf (ad sizes xs ys t) i-(vf xs i+t*vf ys i):=by
 obtain⟨a,b⟩:=wM (t:=t) S h1 h2
 refine⟨⟨a,λi hi=>?_⟩,λi hi=>?_⟩
 ·have:=pf S i hi
  rw[b i hi]
  exact⟨Int.emod_nonneg _ (by omega),Int.emod_lt_of_pos _ this.1⟩
 ·rw[b i hi]
  have:=Int.emod_def (vf xs i+t*vf ys i) (vf sizes i)
  exact⟨-((vf xs i+t*vf ys i)/vf sizes i),by rw[this];grind⟩
theorem qO(S:Sz sizes){one other:List Int}(h1:Kp sizes one)(h2:Kp sizes other):dS [du sizes Ls,tI one,tI other]=M.ok (tI (ad sizes other one (-1))):=by
 unfold dS fX
 dsimp? [gQ (levers:=Ls) S h1.GI,gQ (levers:=Ls) S h2.GI,t5 (Ls:=Ls) S h2.1 (h1.bd S) (show (-1:Int).natAbs<2^200 by decide)]
theorem rE{P:List Int}(hP:P.length=Ls.length)(m8:Ls.length<=8):iz [du sizes Ls,tI P]=M.ok (.bl true):=by
 unfold iz iK
 dsimp? [bT,KH,List.length_map,Cj P Ls.length (aJ (by omega)),hP,decide_true]
theorem v9(Q:uV ns sizes Oe Ls T idle){xs P:List Int}(hx:Kp sizes xs)(hP:P.length=Ls.length)(hb:Bd 200 P):kE (kJ [du sizes Ls,tI xs,tI P]) λp=>∃ F:List Int,p=tI F/\Kp sizes F/\Led sizes.length (vf sizes) Ls.length (AA Ls) (λi=>vf F i-vf xs i) (vf P):=by
 have S:=Q.S
 have m8:=Q.m8
 have np:hU [du sizes Ls,tI P]=M.ok .b_:=by
  unfold hU ib
  dsimp? [rE hP m8]
 unfold kJ nL
 dsimp? [gQ (levers:=Ls) S hx.GI,np,bT,KH,cN (p:=.tup (Ls.map tI)) (q:=tI P) (f:=tI) (g:=PV.int) Ls P rfl rfl]
 refine kE.loop (xs:=Ls.zip P) (inj:=λz=>.tup [tI z.1,.int z.2]) (λzs env=>∃ (c:Nat) (F:List Int) (y4 y5:Option SV),env=[some (.sh (du sizes Ls)),some (.sh (tI xs)),some (.sh (tI P)),some (.sh (tI F)),y4,y5]/\zs=(Ls.zip P).drop c/\c<=Ls.length/\Kp sizes F/\∀ i,i<sizes.length->vf sizes i∣(vf F i-vf xs i)-bN c λl=>vf P l*AA Ls l i) ⟨0,xs,_,_,rfl,rfl,by omega,hx,λi hi=>⟨0,by simp[bN]⟩⟩ ?_ ?_
 ·rintro z r env ⟨c,F,y4,y5,rfl,hz,hc,hF,Fd⟩
  obtain⟨c1,c2,c3⟩:=drop_cons hz.symm
  have RA:c<Ls.length:=by rw[List.length_zip] at c1;omega
  rw[List.getElem?_eq_getElem c1] at c2
  have c2:=Option.some.inj c2
  rw[List.getElem_zip] at c2
  have eA:Ls.getD c []=z.1:=by rw[List.getD_eq_getElem?_getD,List.getElem?_eq_getElem RA,Option.getD_some,← c2]
  have et:vf P c=z.2:=by rw[aL (by omega),← c2]
  have a1:=Q.LL.at_ c RA
  have a2:=Q.LL.iO c RA
  have eV:AA Ls c=vf z.1:=by unfold AA;rw[eA]
  rw[eV] at a2
  rw[eA] at a1
  have zb:z.2.natAbs<2^200:=hb z.2 (by rw[← c2];exact List.getElem_mem _)
  obtain⟨k1,k2⟩:=l9 (t:=z.2) S hF.1 a1
  dsimp? [bx,t5 (Ls:=Ls) (xs:=F) (ys:=z.1) (t:=z.2) S hF.1 (jP S a1 a2) zb]
  refine⟨_,rfl,c+1,_,_,_,rfl,c3.symm,by omega,k1,λi hi=>?_⟩
  obtain⟨x,hx⟩:=Fd i hi
  obtain⟨y,hy⟩:=k2 i hi
  exact⟨x+y,by rw[bN,et,eV,Int.mul_add,← hx,← hy];omega⟩
 ·rintro env ⟨c,F,y4,y5,rfl,hz,hc,hF,Fd⟩
  have ec:c=Ls.length:=by
   have:=congrArg List.length hz
   rw[List.length_drop,List.length_zip] at this
   simp at this;omega
  subst ec
  dsimp? []
  exact⟨_,rfl,F,rfl,hF,Fd⟩
def Hr(P:List Int):List (Str×PV):=[("pulls", tI P)]
def JG(W:List Int):List (Str×PV):=[("weights", tI W)]
def way(P:List Int):PV:=.obj bf (Hr P)
def bar(W:List Int):PV:=.obj bg (JG W)
theorem JN(P:List Int):eh bf mq [] [tI P]=M.ok (way P):=by
 have key:∀ a,mq a ([tI P]++[])=M.ok (Hr P):=by
  intro a
  unfold mq mK
  simp only[mW]
  rw[av (show ([tI P]++([]:List PV)).length+1=2 from rfl)]
  simp only[rY,u6]
  dsimp? [iM]
  rw[dU _ _ _ _ _ _ (by simp)]
  dsimp? []
  show cD _ _=_
  rw[av ⟨rfl,rfl⟩]
  rfl
 unfold eh
 rw[qY key];rfl
theorem JJ(W:List Int):eh bg k8 [] [tI W]=M.ok (bar W):=by
 have key:∀ a,k8 a ([tI W]++[])=M.ok (JG W):=by
  intro a
  unfold k8 mO
  simp only[mW]
  rw[av (show ([tI W]++([]:List PV)).length+1=2 from rfl)]
  simp only[rY,u6]
  dsimp? [iM]
  rw[dU _ _ _ _ _ _ (by simp)]
  dsimp? []
  show cD _ _=_
  rw[av ⟨rfl,rfl⟩]
  rfl
 unfold eh
 rw[qY key];rfl
theorem B6{L:List Int}(hl:L.length<=1000){c:Nat}(hc:c<L.length)(h0:∀ i,i<c->vf L i=0)(h1:vf L c≠0):ff [tI L]=M.ok (.int (c:Int)):=by
 have key:bP (cj 0) none (aj nY (ae 0) (λ_=>M.ok (.int 0))) (L.map PV.int) [none]=M.ok ((L.map λx=>!decide (x=0)).map PV.bl):=by
  rw[List.map_map]
  refine gC (inj:=PV.int) L λx _=>?_
  dsimp? []
  rfl
 have ef:(L.map λx=>!decide (x=0)).findIdx? (·==true)=some c:=by
  rw[List.findIdx?_eq_some_iff_getElem]
  refine⟨by simpa using hc,?_,λj hj=>?_⟩
  ·rw[aL hc] at h1
   simpa using h1
  ·have:=h0 j hj
   rw[aL (by omega)] at this
   simpa using this
 have e1:GP (.lst ((L.map λx=>!decide (x=0)).map PV.bl)) (.bl true)=M.ok (.int (c:Int)):=by
  show dZ ((ye ((L.map λx=>!decide (x=0)).map PV.bl)).bind λbs=>(bs.findIdx? (·==true)).map λ(j:Nat)=>PV.int (j:Int))=_
  rw[rB,Option.bind_some,ef];rfl
 unfold ff fF
 dsimp? [Dy,List.length_map,av (aJ hl),key,J9,e1]
theorem wz(Q:uV ns sizes Oe Ls T idle){one other:List Int}(h1:Kp sizes one)(h2:Kp sizes other) :
  (G sizes.length (vf sizes) (DD T) sizes.length 0 (vf (ad sizes other one (-1)))/\c8 [du sizes Ls,tI one,tI other]=M.ok (way (told sizes Ls T idle (ad sizes other one (-1)))))
  \/ (¬ G sizes.length (vf sizes) (DD T) sizes.length 0 (vf (ad sizes other one (-1)))/\∃ (c:Nat) (W:List Int),c<sizes.length/\Ws sizes T c W/\c8 [du sizes Ls,tI one,tI other]=M.ok (bar W)/\¬ R sizes∣iQ sizes.length (vf sizes) (R sizes) (vf W) (vf (ad sizes other one (-1)))):=by
 have S:=Q.S
 have m8:=Q.m8
 have l6:=S.h6
 have bt:=qO (Ls:=Ls) S h1 h2
 obtain⟨⟨dl,d0⟩,_⟩:=l9 (t:=-1) S h2.1 h1.1
 generalize ad sizes other one (-1)=d at *
 obtain⟨b1,b2,b3,b4⟩:=Ax Q.st dl d0
 by_cases z:lst sizes Ls T d=List.replicate sizes.length 0
 ·have gx:G sizes.length (vf sizes) (DD T) sizes.length 0 (vf d):=G.ext (by omega) (λi hi=>by rw[z,jS];omega) b4
  obtain⟨et,_⟩:=xm (k:=Ls.length+1) S m8 Q.st (by omega) Q.I (iL dl d0) d0 gx
  refine .inl ⟨gx,?_⟩
  unfold c8 gU
  dsimp? [bt,Q.Ku,bT,wQ (m := "pulls_to") rfl,et,show ∀ xs:List Int,lA (tI xs) .b_=M.ok (.bl true) from λ_=>rfl,JN]
 ·have ng:¬ G sizes.length (vf sizes) (DD T) sizes.length 0 (vf d):=λgx=>z (by
   refine rH (by simpa using b1) λi hi=>?_
   have g:=Q.st.gd.sub (by omega) gx b4
   have:=G.diff Q.st.gd sizes.length 0 (λi=>vf (lst sizes Ls T d) i) (by omega) (λi hi=>by have:=b3 i hi;omega) (λi _ hi=>by have:=b2 i hi;omega) (G.ext (by omega) (λi _=>by omega) g) i (by omega)
   rw[jS];exact this)
  have ex:∃ c,c<sizes.length/\(∀ i,i<c->vf (lst sizes Ls T d) i=0)/\vf (lst sizes Ls T d) c≠0:=by
   have:¬ ∀ c,c<=sizes.length->∀ i,i<c->vf (lst sizes Ls T d) i=0:=λh=>z (rH (by simpa using b1) λi hi=>by rw[jS];exact h sizes.length (Nat.le_refl _) i (by omega))
   apply Classical.byContradiction
   intro no
   refine this λc=>?_
   induction c with
   | zero=>intro _ i hi;omega
   | succ c ih =>
    intro hc i hi
    have ih:=ih (by omega)
    rcases Nat.lt_succ_iff_lt_or_eq.mp hi with q | q
    ·exact ih i q
    ·subst q
     apply Classical.byContradiction
     intro Qj
     exact no ⟨i,by omega,ih,Qj⟩
  obtain⟨c,hc,c0,c1⟩:=ex
  obtain⟨_,e,W,rfl,w1,w2,w3⟩:=xS Q hc
  have w:Ws sizes T c W:=⟨w1,w2,w3⟩
  refine .inr ⟨ng,c,W,hc,w,?_,λhd=>?_⟩
  ·unfold c8 gU
   dsimp? [bt,Q.Ku,bT,wQ (m := "pulls_to") rfl,Ce S m8 Q.st (show Ls.length+1<=9 by omega) dl d0 z,show lA .b_ .b_=M.ok (.bl false) from rfl,wQ (m := "least") rfl,C8 (idle:=idle) S m8 Q.st (show Ls.length+1<=9 by omega) dl d0,B6 (L:=lst sizes Ls T d) (by omega) (c:=c) (by omega) c0 c1,wQ (m := "weights_at") rfl,e,JJ]
  ·have a:=b2 c hc
   have sp:=uL (n:=sizes.length) (s:=vf sizes) (Q:=R sizes) (w:=vf W) 1 1 (x:=vf d) (v:=λi=>vf d i-vf (lst sizes Ls T d) i) (u:=vf (lst sizes Ls T d)) λi _=>by omega
   rw[sp,Int.one_mul,Int.one_mul] at hd
   exact Wk.first Q.st.gd (xB S) (Ii S) hc w3 c0 (by omega) a.2 ((Int.dvd_add_right (w.kill Q b4)).mp hd)
end
theorem uQ{sizes xs ys:List Int}{t:Int}{q:PV}(hs:∀ s∈sizes,0<s)(hl:sizes.length<=6)(h1:xs.length=sizes.length)(hq:bR q=some (ys.map PV.int))(hy:Bd 200 ys)(ht:t.natAbs<2^200):bo [tI sizes,tI xs,q,.int t]=M.ok (tI (kO sizes xs ys t)):=by
 have k1:bP (nK 0 1 2) none (aj cw (aj eR (ae 0) (aj cv (ae 3) (ae 1))) (ae 2)) ((xs.zip (ys.zip sizes)).map λz=>.tup [.int z.1,.int z.2.1,.int z.2.2]) [none,none,none,some (.sh (.int t))]=M.ok ((xs.zip (ys.zip sizes)).map λz=>.int ((z.1+t*z.2.1)%z.2.2)):=by
  refine CC (p:=λz:Int×Int×Int=>PV.int z.1) (q:=λz:Int×Int×Int=>PV.int z.2.1) (s:=λz:Int×Int×Int=>PV.int z.2.2) (xs.zip (ys.zip sizes)) λz hz=>?_
  obtain⟨m1,m2⟩:=List.of_mem_zip (a:=z.1) (b:=z.2) hz
  obtain⟨m3,m4⟩:=List.of_mem_zip (a:=z.2.1) (b:=z.2.2) m2
  dsimp? [aN (k:=200) (l:=200) ht (hy _ m3),aF (i:=z.1+t*z.2.1) (hs _ m4)]
 have z1:(xs.zip (ys.zip sizes)).length<=sizeLine:=by rw[List.length_zip];exact aJ (Nat.le_trans (Nat.min_le_left _ _) (by omega))
 unfold bo cy
 dsimp? [rN (p:=tI xs) (q:=q) (r:=tI sizes) xs ys sizes rfl hq rfl,List.length_map,av z1,k1]
 rw[tI,kO,List.map_map];rfl
theorem BW{sizes xs P:List Int}{Oe:List (List Int)}{q:PV}(hs:∀ s∈sizes,0<s)(hl:sizes.length<=6)(h1:xs.length=sizes.length)(hq:bR q=some (xs.map PV.int))(hk:∀ i,i<sizes.length->0<=vf xs i/\vf xs i<vf sizes i)
  (hr:∀ l∈Oe,l.length=sizes.length/\Bd 200 l) (hP:Bd 200 P) (hm:P.length=Oe.length) {p2:PV} (Bk:bR p2=some (P.map PV.int)):∃ F:List Int,bK [tI sizes,.tup (Oe.map tI),q,p2]=M.ok (tI F)/\F.length=sizes.length/\(∀ i,i<sizes.length->0<=vf F i/\vf F i<vf sizes i)/\∀ i,i<sizes.length->vf sizes i∣vf F i-(vf xs i+bN Oe.length λl=>vf P l*vf (Oe.getD l []) i):=by
 have sp:∀ i,i<sizes.length->0<vf sizes i:=λi hi=>by rw[aL hi];exact hs _ (List.getElem_mem hi)
 suffices h:∃ N_:af,jA (bx 5 6) (aq (aY 4 (ai bo (aa (ae 0) (aa (ae 4) (aa (ae 5) (aa (ae 6) ao)))))) ar) ((Oe.zip P).map λz=>.tup [tI z.1,.int z.2]) [some (.sh (tI sizes)),some (.sh (.tup (Oe.map tI))),some (.sh q),some (.sh p2),some (.sh (tI xs)),none,none]=M.ok (.nx N_)/\∃ (c:Nat) (F:List Int) (y z:Option SV),N_=[some (.sh (tI sizes)),some (.sh (.tup (Oe.map tI))),some (.sh q),some (.sh p2),some (.sh (tI F)),y,z]/\c<=Oe.length/\(Oe.zip P).drop c=[]/\F.length=sizes.length/\(∀ i,i<sizes.length->0<=vf F i/\vf F i<vf sizes i)/\∀ i,i<sizes.length->vf sizes i∣vf F i-(vf xs i+bN c λl=>vf P l*vf (Oe.getD l []) i) by
  obtain⟨N_,e,c,F,y,z,rfl,hc,hd,fl,fk,fd⟩:=h
  have:c=Oe.length:=by
   have:=congrArg List.length hd
   rw[List.length_drop,List.length_zip] at this
   simp at this
   omega
  subst this
  refine⟨F,?_,fl,fk,fd⟩
  have e0:zip2 [.tup (Oe.map tI),p2]=M.ok ((Oe.zip P).map λz=>.tup [tI z.1,.int z.2]):=cN (p:=.tup (Oe.map tI)) (q:=p2) Oe P rfl Bk
  unfold bK dm
  dsimp? [hq,e0]
  rw[show (PV.tup (xs.map PV.int))=tI xs from rfl,e]
  dsimp? []
 refine kN (λzs env=>∃ (c:Nat) (F:List Int) (y z:Option SV),env=[some (.sh (tI sizes)),some (.sh (.tup (Oe.map tI))),some (.sh q),some (.sh p2),some (.sh (tI F)),y,z]/\c<=Oe.length/\(Oe.zip P).drop c=zs/\F.length=sizes.length/\(∀ i,i<sizes.length->0<=vf F i/\vf F i<vf sizes i)/\∀ i,i<sizes.length->vf sizes i∣vf F i-(vf xs i+bN c λl=>vf P l*vf (Oe.getD l []) i)) ?_ (Oe.zip P) _ ⟨0,xs,none,none,rfl,Nat.zero_le _,rfl,h1,hk,λi hi=>by rw[bN];exact⟨0,by omega⟩⟩
 rintro⟨l,t⟩ r env ⟨c,F,y,z,rfl,hc,hd,fl,fk,fd⟩
 obtain⟨c1,c2,c3⟩:=drop_cons hd
 rw[List.length_zip] at c1
 have hcr:c<Oe.length:=by omega
 have hcp:c<P.length:=by omega
 have el:l=Oe[c]/\t=P[c]:=by
  rw[List.getElem?_eq_getElem (by rw[List.length_zip];omega),List.getElem_zip] at c2
  have:=Option.some.inj c2
  injection this with a b
  exact⟨a.symm,b.symm⟩
 have lr:=hr l (by rw[el.1];exact List.getElem_mem _)
 have tb:t.natAbs<2^200:=by rw[el.2];exact hP _ (List.getElem_mem _)
 refine⟨_,[some (.sh (tI sizes)),some (.sh (.tup (Oe.map tI))),some (.sh q),some (.sh p2),some (.sh (tI (kO sizes F l t))),some (.sh (tI l)),some (.sh (.int t))],rfl,?_,c+1,kO sizes F l t,_,_,rfl,by omega,c3,jw fl lr.1,λi hi=>?_,λi hi=>?_⟩
 ·dsimp? [uQ (q:=tI l) hs hl fl rfl lr.2 tb]
 ·rw[mx fl lr.1 hi]
  have:=sp i hi
  exact⟨Int.emod_nonneg _ (by omega),Int.emod_lt_of_pos _ this⟩
 ·rw[mx fl lr.1 hi,bN]
  obtain⟨a,ha⟩:=fd i hi
  obtain⟨b,hb⟩:=dc (vf F i+t*vf l i) (vf sizes i)
  have e1:vf P c=t:=by rw[aL hcp,el.2]
  have e2:Oe.getD c []=l:=by rw[List.getD_eq_getElem?_getD,List.getElem?_eq_getElem hcr,el.1];rfl
  rw[e1,e2]
  exact⟨a+b,by rw[Int.mul_add];omega⟩
theorem F6(sizes:List Int)(h:Sz sizes):gY [tI sizes]=M.ok (.int (R sizes)):=by
 unfold gY g_
 dsimp? []
 refine dq sizes (λr env=>∃ acc x y z,env=[some (.sh (tI sizes)),some (.sh (.int (acc:Nat))),x,y,z]/\Acc sizes r acc) ⟨1,_,_,_,rfl,.start h⟩ ?_ ?_
 ·rintro a r env ⟨acc,x,y,z,rfl,A⟩
  obtain⟨A2,e1,e2,e3⟩:=A.turn
  have l1:=A.lt
  have ha:=A.iO a List.mem_cons_self
  have g1:Int.gcd acc a<=acc:=Nat.le_of_dvd A.pos (Int.ofNat_dvd.mp (Int.gcd_dvd_left ..))
  have d0:0<=(acc:Int)/(Int.gcd acc a:Nat):=Int.ediv_nonneg (by omega) (by omega)
  refine⟨_,[some (.sh (tI sizes)),some (.sh (.int (Nat.lcm acc a.toNat:Nat))),some (.sh (.int a)),some (.sh (.int (Int.gcd acc a:Nat))),some (.sh (.int 0))],rfl,?_,_,_,_,_,rfl,A2⟩
  dsimp? [wj,zD]
  refine yR (λenv=>∃ p q:Nat,env=[some (.sh (tI sizes)),some (.sh (.int (acc:Nat))),some (.sh (.int a)),some (.sh (.int p)),some (.sh (.int q))]/\Nat.gcd p q=Int.gcd acc a) (λenv=>match env with
   | [_,_,_,_,some (.sh (.int q))]=>q.toNat
   | _=>0) ⟨acc,a.toNat,by rw[Int.toNat_of_nonneg (by omega)],?_⟩ ?_ ?_
  ·obtain⟨n,rfl⟩:=Int.eq_ofNat_of_zero_le (show 0<=a by omega)
   rfl
  ·rintro env ⟨p,q,rfl,hg⟩
   by_cases h0:(q:Int)=0
   ·exact .inl (by dsimp? [h0,decide_true])
   ·have h0':(0:Int)<q:=by omega
    refine .inr ⟨by dsimp? [h0,decide_false],[some (.sh (tI sizes)),some (.sh (.int (acc:Nat))),some (.sh (.int a)),some (.sh (.int q)),some (.sh (.int ((p%q:Nat):Int)))],?_,⟨q,p%q,rfl,?_⟩,?_⟩
    ·dsimp? [wj,zD,aF (i:=(p:Int)) h0']
     rfl
    ·rw[← hg,Nat.gcd_comm p q,Nat.gcd_rec q p,Nat.gcd_comm]
    ·show ((p%q:Nat):Int).toNat<(q:Int).toNat
     have:=Nat.mod_lt p (show 0<q by omega)
     omega
  ·rintro N_ ⟨p,q,rfl,hg⟩ hu
   have hq:q=0:=by
    revert hu
    dsimp? []
    intro hu
    have:(!decide ((q:Int)=0))=false:=by injection hu with hu;injection hu
    simp at this
    exact this
   subst hq
   rw[Nat.gcd_zero_right] at hg
   subst hg
   dsimp? [aD (i:=(acc:Int)) (show (0:Int)<(Int.gcd acc a:Nat) by omega) (show ((Int.gcd acc a:Nat):Int)<2^64 by omega),aN (k:=64) (l:=64) (show ((acc:Int)/(Int.gcd acc a:Nat)).natAbs<2^64 by omega) (show a.natAbs<2^64 by omega),e1]
   rfl
 ·rintro N_ ⟨acc,x,y,z,rfl,A⟩
  dsimp? []
  have:=A.val
  rw[R,← this];rfl
theorem qc{sizes W ys:List Int}{q:PV}(S:Sz sizes)(Wl:W.length=sizes.length)(W0:∀ x∈W,0<=x/\x<360)(yl:ys.length=sizes.length)(yb:Bd 200 ys)(hq:bR q=some (ys.map PV.int)):dO [tI sizes,tI W,q]=M.ok (.int (iQ sizes.length (vf sizes) (R sizes) (vf W) (vf ys)%R sizes)):=by
 have l6:=S.h6
 let tm:Int×Int×Int->Int:=λz=>z.1*z.2.1*(R sizes/z.2.2)
 have et:((W.zip (ys.zip sizes)).map tm).sum=iQ sizes.length (vf sizes) (R sizes) (vf W) (vf ys):=by
  have hl:((W.zip (ys.zip sizes)).map tm).length=sizes.length:=by simp;omega
  rw[wW,hl]
  refine gu λi hi=>?_
  rw[aL (by rw[hl];exact hi),aL (by omega),aL (by omega),aL (by omega)]
  simp[tm]
 rw[← et]
 refine kE.eq ?_
 unfold dO fy
 dsimp? [F6 sizes S,rN (p:=tI W) (q:=q) (r:=tI sizes) W ys sizes rfl hq rfl]
 refine kE.loop (xs:=W.zip (ys.zip sizes)) (inj:=λz=>.tup [.int z.1,.int z.2.1,.int z.2.2]) (λzs env=>∃ (t:Int) (y5 y6 y7:Option SV),env=[some (.sh (tI sizes)),some (.sh (tI W)),some (.sh q),some (.sh (.int (R sizes))),some (.sh (.int t)),y5,y6,y7]/\t+(zs.map tm).sum=((W.zip (ys.zip sizes)).map tm).sum/\∀ z∈zs,z∈W.zip (ys.zip sizes)) ⟨0,_,_,_,rfl,by omega,λz h=>h⟩ ?_ ?_
 ·rintro z r env ⟨t,y5,y6,y7,rfl,ht,hz⟩
  obtain⟨m1,m2⟩:=List.of_mem_zip (a:=z.1) (b:=z.2) (hz z List.mem_cons_self)
  obtain⟨m3,m4⟩:=List.of_mem_zip (a:=z.2.1) (b:=z.2.2) m2
  have a1:=W0 _ m1;have a2:=yb _ m3;have a3:=qG S m4;have a4:=S.hx _ m4
  have a5:(z.1*z.2.1).natAbs<2^210:=by
   rw[Int.natAbs_mul]
   have:z.1.natAbs*z.2.1.natAbs<=2^9*2^200:=Nat.mul_le_mul (by omega) (by omega)
   exact Nat.lt_of_le_of_lt this (by decide)
  dsimp? [nK,aD (i:=R sizes) (j:=z.2.2) (by omega) (by omega),aN (k:=64) (l:=200) (show z.1.natAbs<2^64 by omega) a2,aN (k:=210) (l:=64) a5 (show (R sizes/z.2.2).natAbs<2^64 by omega)]
  refine⟨_,rfl,t+tm z,_,_,_,rfl,?_,λz h=>hz z (List.mem_cons_of_mem _ h)⟩
  rw[← ht,List.map_cons,List.sum_cons];omega
 ·rintro env ⟨t,y5,y6,y7,rfl,ht,_⟩
  dsimp? [aF (i:=t) (j:=R sizes) (xB S)]
  simp at ht
  subst ht
  exact⟨_,rfl,rfl⟩
theorem Kj:PyData.strOk (Str.ofString "pulls")=true:=by unfold PyData.strOk;rw[← Array.all_toList];rfl
theorem Kf:PyData.strOk (Str.ofString "weights")=true:=by unfold PyData.strOk;rw[← Array.all_toList];rfl
theorem p6(x:Str)(h:PyData.strOk x=true)(P:List Int):nY (.tup [.str x,tI P]) (.tup [.str x,tI P])=M.ok (.bl false):=by
 simp only[nY,ql,dat,pL,tI,oJ,Option.map_some,Option.bind_some,Gq]
 rw[av (by simp[SeqAt.shaped,PyData.canLay0,PyData.canLayAll0,PyData.depth,PyData.depthAll,ly,mG,SeqAt.noMix,SeqAt.noMixAll,L2.noMix_ints,h])]
 unfold Spec.same
 simp[Spec.sameAll,Spec.same,L2.same_ints]
 rfl
section
variable{ns:List Int}{sizes:List Int}{Oe Ls:List (List Int)}{T:List Row}{idle:List (List Int)}{P W:List Int}{m:Str}{s1 s2:List PV->M PV}{x:M (List PV)}
theorem dr(L:List (Addr×(List PV->M PV)))(m:Str)(g:af->M PV)(fs:af->M (List PV))(env:af):fg L m g fs env=(g env).bind λp=>oB L m p (fs env):=rfl
theorem uf{L:List (Addr×(List PV->M PV))}{C:Addr}{fl:List (Str×PV)}(e:L.lookup C=some s1)(h:fl.lookup m=none):oB L m (.obj C fl) x=x.bind λps=>s1 (.obj C fl::ps):=by
 show cD _ _=_
 rw[av ⟨by rw[e];rfl,h⟩]
 unfold Mz
 rw[e]
theorem p7(h:(Hr P).lookup m=none):oB [(bf,s1),(bg,s2)] m (way P) x=x.bind λps=>s1 (way P::ps):=uf rfl h
theorem p4(h:(JG W).lookup m=none):oB [(bf,s1),(bg,s2)] m (bar W) x=x.bind λps=>s2 (bar W::ps):=uf rfl h
theorem LN:Ar (λc=>c==bf) "pulls" (way P)=M.ok (tI P):=nU (beq_self_eq_true _) rfl
theorem LZ:Ar (λc=>c==bg) "weights" (bar W)=M.ok (tI W):=nU (beq_self_eq_true _) rfl
theorem Ff:y0 (λ_=>false) (mi jr jj) (mi nZ ou) (way P)=M.ok (.bl false):=by
 show dZ ((mi jr jj bf).map .bl)=_
 rw[show mi jr jj bf=some false by decide];rfl
theorem F8:y0 (λ_=>false) (mi jr jj) (mi nZ ou) (bar W)=M.ok (.bl true):=by
 show dZ ((mi jr jj bg).map .bl)=_
 rw[show mi jr jj bg=some true by decide];rfl
theorem EH:y0 (λ_=>false) (mi kb j3) (mi rT qL) (way P)=M.ok (.bl true):=by
 show dZ ((mi kb j3 bf).map .bl)=_
 rw[show mi kb j3 bf=some true by decide];rfl
theorem FD:y0 (λ_=>false) (mi kb j3) (mi rT qL) (bar W)=M.ok (.bl false):=by
 show dZ ((mi kb j3 bg).map .bl)=_
 rw[show mi kb j3 bg=some false by decide];rfl
theorem NZ:e_ [way P]=M.ok (.bl true):=by
 unfold e_ fD
 dsimp? []
theorem NK(p:PV):dQ [p]=M.ok (.bl false):=by
 unfold dQ dN
 dsimp? []
theorem Nw:cU [way P]=M.ok (.tup [.str "pulls", tI P]):=by
 unfold cU eT
 dsimp? [eI,LN]
theorem bwd:cV [bar W]=M.ok (.tup [.str "weights", tI W]):=by
 unfold cV eX
 dsimp? [eI,LZ]
theorem xi(Q:uV ns sizes Oe Ls T idle){one other:List Int}(h1:Kp sizes one)(h2:Kp sizes other)(hP:P.length=Ls.length)(hb:Bd 200 P)(led:Led sizes.length (vf sizes) Ls.length (AA Ls) (vf (ad sizes other one (-1))) (vf P)):kJ [du sizes Ls,tI one,tI P]=M.ok (tI other):=by
 obtain⟨_,e,F,rfl,hF,ld⟩:=v9 Q h1 hP hb
 obtain⟨_,ac⟩:=l9 (t:=-1) Q.S h2.1 h1.1
 rw[e,zB hF.1 h2.1 hF.2 h2.2 λi hi=>by
  obtain⟨a,ha⟩:=ld i hi
  simp only at ha
  obtain⟨b,hb⟩:=led i hi
  obtain⟨c,hc⟩:=ac i hi
  exact⟨a-b+c,by rw[Int.mul_add,Int.mul_sub,← ha,← hb,← hc];omega⟩]
theorem uU(Q:uV ns sizes Oe Ls T idle){one other:List Int}(h1:Kp sizes one)(h2:Kp sizes other)(hP:P.length=Ls.length)(hb:Bd 200 P)(led:Led sizes.length (vf sizes) Ls.length (AA Ls) (vf (ad sizes other one (-1))) (vf P)):bK [tI sizes,.tup (Ls.map tI),tI one,tI P]=M.ok (tI other):=by
 have hr:∀ l∈Ls,l.length=sizes.length/\Bd 200 l:=λl hl=>by
  obtain⟨k,hk,ek⟩:=List.mem_iff_getElem.mp hl
  have eg:Ls.getD k []=l:=by rw[List.getD_eq_getElem?_getD,List.getElem?_eq_getElem hk,Option.getD_some,ek]
  have a1:=Q.LL.at_ k hk
  have a2:=Q.LL.iO k hk
  unfold AA at a2
  rw[eg] at a1 a2
  exact⟨a1,jP Q.S a1 a2⟩
 obtain⟨F,e,F1,F2,ld⟩:=BW (q:=tI one) (p2:=tI P) (mw Q.S) Q.S.h6 h1.1 rfl h1.2 hr hb hP rfl
 obtain⟨_,ac⟩:=l9 (t:=-1) Q.S h2.1 h1.1
 rw[e,zB F1 h2.1 F2 h2.2 λi hi=>by
  obtain⟨a,ha⟩:=ld i hi
  obtain⟨b,hb⟩:=led i hi
  obtain⟨c,hc⟩:=ac i hi
  unfold AA at hb
  exact⟨a-b+c,by rw[Int.mul_add,Int.mul_sub,← ha,← hb,← hc];omega⟩]
theorem Ih(Q:uV ns sizes Oe Ls T idle){one other:List Int}(h1:Kp sizes one)(h2:Kp sizes other)(hP:P.length=Ls.length)(hb:Bd 200 P)(led:Led sizes.length (vf sizes) Ls.length (AA Ls) (vf (ad sizes other one (-1))) (vf P)):i6 [way P,du sizes Ls,tI one,tI other]=M.ok (.bl true):=by
 unfold i6 jb
 dsimp? [gQ (levers:=Ls) Q.S h1.GI,gQ (levers:=Ls) Q.S h2.GI,eI,LN,rE hP Q.m8,xi Q h1 h2 hP hb led,yv,decide_true]
theorem Ws.sl(Q:uV ns sizes Oe Ls T idle){d:Nat}(w:Ws sizes T d W):Sl sizes Ls W:=λl hl=>w.kill Q (Q.st.cl l (by omega))
theorem Iq(Q:uV ns sizes Oe Ls T idle){one other:List Int}(h1:Kp sizes one)(h2:Kp sizes other){c:Nat}(w:Ws sizes T c W)(nd:¬ R sizes∣iQ sizes.length (vf sizes) (R sizes) (vf W) (vf (ad sizes other one (-1)))):i9 [bar W,du sizes Ls,tI one,tI other]=M.ok (.bl true):=by
 obtain⟨b,eb,hb⟩:=Az Q w.len w.iO
 obtain rfl:=hb.mpr (w.sl Q)
 obtain⟨ak,_⟩:=l9 (t:=-1) Q.S h2.1 h1.1
 have l6:=Q.S.h6
 have is:aW [du sizes Ls,tI W]=M.ok (.bl true):=by
  rw[mB Q.S W (by rw[w.len];omega),uu.mpr (iL w.len w.iO)]
 have we:=qu (levers:=Ls) Q.S (iL w.len w.iO) ak.GI
 rw[vo w.len ak.1] at we
 have ne:¬ iQ sizes.length (vf sizes) (R sizes) (vf W) (vf (ad sizes other one (-1)))%R sizes=0:=λe=>nd (Int.dvd_of_emod_eq_zero e)
 unfold i9 i4
 dsimp? [qO (Ls:=Ls) Q.S h1 h2,eI,LZ,is,eb,we,ne,decide_false]
end
section
variable{ns:List Int}{sizes:List Int}{Oe Ls:List (List Int)}{T:List Row}{idle:List (List Int)}{P W:List Int}
theorem Cc(Q:uV ns sizes Oe Ls T idle){one other:List Int}(h1:Kp sizes one)(h2:Kp sizes other)(hP:P.length=Ls.length)(hb:Bd 200 P)(p0:∀ l,l<Ls.length->0<=vf P l)(led:Led sizes.length (vf sizes) Ls.length (AA Ls) (vf (ad sizes other one (-1))) (vf P)):eE [way P,tI sizes,.tup (Ls.map tI),tI one,tI other]=M.ok (.bl true):=by
 refine kE.eq ?_
 unfold eE eG
 dsimp? [eI,LN,hP,List.length_map,decide_true,Ff]
 refine kE.loop (xs:=P) (inj:=PV.int) (λzs env=>∃ (y6:Option SV),env=[some (.sh (way P)),some (.sh (tI sizes)),some (.sh (.tup (Ls.map tI))),some (.sh (tI one)),some (.sh (tI other)),some (.sh (tI P)),y6]/\∀ z∈zs,0<=z) ⟨_,rfl,λz hz=>?_⟩ ?_ ?_
 ·obtain⟨i,hi,rfl⟩:=List.mem_iff_getElem.mp hz
  have:=p0 i (by omega)
  rw[aL hi] at this
  exact this
 ·rintro z r env ⟨y6,rfl,hz⟩
  have h:=hz z List.mem_cons_self
  have h':¬ z<0:=by omega
  dsimp? [cj,h',decide_false]
  exact⟨_,rfl,_,rfl,λz h=>hz z (List.mem_cons_of_mem _ h)⟩
 ·rintro env ⟨y6,rfl,_⟩
  dsimp? [dr,p7 (m := "brings") rfl,p7 (m := "words") rfl,NZ,Nw,show dW (.bl true) (.bl true)=M.ok (.bl false) from rfl,p6 _ Kj,uU Q h1 h2 hP hb led,yv,decide_true]
  exact⟨_,rfl,rfl⟩
theorem zO{one other:List Int}(h1:one.length=sizes.length)(h2:other.length=sizes.length)(S:Sz sizes):kO sizes other one (-1)=ad sizes other one (-1):=by
 obtain⟨a1,a2⟩:=wM (t:=-1) S h2 h1
 refine rH (by rw[jw h2 h1,a1]) λi hi=>?_
 rw[jw h2 h1] at hi
 rw[mx h2 h1 hi,a2 i hi]
theorem CZ(Q:uV ns sizes Oe Ls T idle){one other:List Int}(h1:Kp sizes one)(h2:Kp sizes other){c:Nat}(w:Ws sizes T c W)(nd:¬ R sizes∣iQ sizes.length (vf sizes) (R sizes) (vf W) (vf (ad sizes other one (-1)))):eK [bar W,tI sizes,.tup (Ls.map tI),tI one,tI other]=M.ok (.bl true):=by
 have S:=Q.S
 have l6:=S.h6
 obtain⟨ak,_⟩:=l9 (t:=-1) S h2.1 h1.1
 have ea:=uQ (sizes:=sizes) (xs:=other) (ys:=one) (t:=-1) (q:=tI one) (mw S) l6 h2.1 rfl (h1.bd S) (by decide)
 rw[zO h1.1 h2.1 S] at ea
 have lw:=qc (q:=tI (ad sizes other one (-1))) S w.len (w.sm S) ak.1 (ak.bd S) rfl
 have ne:¬ iQ sizes.length (vf sizes) (R sizes) (vf W) (vf (ad sizes other one (-1)))%R sizes=0:=λe=>nd (Int.dvd_of_emod_eq_zero e)
 refine kE.eq ?_
 unfold eK eD
 dsimp? [eI,LZ,w.len,decide_true,cN (p:=tI W) (q:=tI sizes) W sizes rfl rfl]
 refine kE.loop (xs:=W.zip sizes) (inj:=λz=>.tup [.int z.1,.int z.2]) (λzs env=>∃ (y6 y7 y8:Option SV),env=[some (.sh (bar W)),some (.sh (tI sizes)),some (.sh (.tup (Ls.map tI))),some (.sh (tI one)),some (.sh (tI other)),some (.sh (tI W)),y6,y7,y8]/\∀ z∈zs,0<=z.1/\z.1<z.2) ⟨_,_,_,rfl,(iL w.len w.iO).iO⟩ ?_ ?_
 ·rintro⟨a,b⟩ r env ⟨y6,y7,y8,rfl,hz⟩
  have h:=hz (a,b) List.mem_cons_self
  dsimp? [bx,h.1,h.2,decide_true]
  exact⟨_,rfl,_,_,_,rfl,λz h=>hz z (List.mem_cons_of_mem _ h)⟩
 rintro env ⟨y6,y7,y8,rfl,_⟩
 dsimp? []
 refine kE.loop (xs:=Ls) (inj:=tI) (λzs env=>∃ (y8:Option SV),env=[some (.sh (bar W)),some (.sh (tI sizes)),some (.sh (.tup (Ls.map tI))),some (.sh (tI one)),some (.sh (tI other)),some (.sh (tI W)),y6,y7,y8]/\∀ z∈zs,z∈Ls) ⟨_,rfl,λz h=>h⟩ ?_ ?_
 ·rintro z r env ⟨y8,rfl,hz⟩
  obtain⟨k,hk,ek⟩:=List.mem_iff_getElem.mp (hz z List.mem_cons_self)
  have eg:Ls.getD k []=z:=by rw[List.getD_eq_getElem?_getD,List.getElem?_eq_getElem hk,Option.getD_some,ek]
  have a1:=Q.LL.at_ k hk
  have a2:=Q.LL.iO k hk
  have eV:AA Ls k=vf z:=by unfold AA;rw[eg]
  rw[eg] at a1
  rw[eV] at a2
  have l0:=qc (q:=tI z) S w.len (w.sm S) a1 (jP S a1 a2) rfl
  have s0:=w.sl Q k hk
  rw[eV] at s0
  rw[Int.emod_eq_zero_of_dvd s0] at l0
  dsimp? [cj,l0,decide_true]
  exact⟨_,rfl,_,rfl,λz h=>hz z (List.mem_cons_of_mem _ h)⟩
 ·rintro env ⟨y8,rfl,_⟩
  dsimp? [dr,p4 (m := "brings") rfl,p4 (m := "words") rfl,NK,bwd,show dW (.bl false) (.bl false)=M.ok (.bl false) from rfl,p6 _ Kf,ea,lw,ne,decide_false]
  exact⟨_,rfl,rfl⟩
theorem wO(i j:Nat)(env:af)(p q:PV):HG i j env [p,q]=M.ok (.nx ((env.set i (some (.sh p))).set j (some (.sh q)))):=rfl
theorem tf(Q:uV ns sizes Oe Ls T idle){one other:List Int}(h1:Kp sizes one)(h2:Kp sizes other):∃ b:Bool,bY [du sizes Ls,pT sizes Ls T idle,tI one,tI other]=M.ok (.bl b)/\(b=true ↔ G sizes.length (vf sizes) (DD T) sizes.length 0 (vf (ad sizes other one (-1)))):=by
 have S:=Q.S
 have l6:=S.h6
 have m8:=Q.m8
 obtain⟨ak,_⟩:=l9 (t:=-1) S h2.1 h1.1
 have ea:=uQ (sizes:=sizes) (xs:=other) (ys:=one) (t:=-1) (q:=tI one) (mw S) l6 h2.1 rfl (h1.bd S) (by decide)
 rw[zO h1.1 h2.1 S] at ea
 rcases wz Q h1 h2 with ⟨g,eb⟩ | ⟨ng,c,W,hc,w,eb,nd⟩
 ·obtain⟨et,tl,led,tn⟩:=xm (k:=Ls.length+1) S m8 Q.st (by omega) Q.I ak.GI ak.2 g
  have tb:=KA Q.I tl tn
  refine⟨true,?_,⟨λ_=>g,λ_=>rfl⟩⟩
  unfold bY cO
  dsimp? [bT,GF,KH,wj,wO,eb,dr,p7 (m := "shows") rfl,Ih Q h1 h2 tl tb led,show dW (.bl true) (.bl true)=M.ok (.bl false) from rfl,EH,Cc Q h1 h2 tl tb (λl hl=>(tn l hl).1) led,eI,LN,wQ (m := "pulls_to") rfl,ea,et,yv,decide_true]
 ·refine⟨false,?_,⟨λh=>(by cases h),λh=>(ng h).elim⟩⟩
  unfold bY cO
  dsimp? [bT,GF,KH,wj,wO,eb,dr,p4 (m := "shows") rfl,Iq Q h1 h2 w nd,show dW (.bl true) (.bl true)=M.ok (.bl false) from rfl,FD,F8,CZ Q h1 h2 w nd]
theorem back(Q:uV ns sizes Oe Ls T idle){one other:List Int}(h1:Kp sizes one)(h2:Kp sizes other)(g:G sizes.length (vf sizes) (DD T) sizes.length 0 (vf (ad sizes other one (-1)))):G sizes.length (vf sizes) (DD T) sizes.length 0 (vf (ad sizes one other (-1))):=by
 obtain⟨_,a⟩:=l9 (t:=-1) Q.S h2.1 h1.1
 obtain⟨_,b⟩:=l9 (t:=-1) Q.S h1.1 h2.1
 refine Q.st.gd.qP (by omega) (λi hi=>?_) (Lg Q.st g)
 obtain⟨x,hx⟩:=a i hi
 obtain⟨y,hy⟩:=b i hi
 exact⟨x+y,by rw[Int.mul_add,← hx,← hy];omega⟩
theorem NW:mi hZ gW bu=some true:=by decide
theorem yi(S:Sz sizes){one:List Int}(h1:Kp sizes one){p:PV}(h:aW [du sizes Ls,p]=M.ok (.bl false)):c8 [du sizes Ls,tI one,p]=some (.error (bu,none)):=by
 have e:dS [du sizes Ls,tI one,p]=some (.error (bu,none)):=by
  unfold dS fX
  dsimp? [gQ (levers:=Ls) S h1.GI,vO h]
 unfold c8 gU
 dsimp? [e]
theorem yZ{p q:PV}(h:aW [du sizes Ls,p]=M.ok (.bl false)):c8 [du sizes Ls,p,q]=some (.error (bu,none)):=by
 have e:dS [du sizes Ls,p,q]=some (.error (bu,none)):=by
  unfold dS fX
  dsimp? [vO h]
 unfold c8 gU
 dsimp? [e]
theorem qU{p q:PV}(h:c8 [du sizes Ls,p,q]=some (.error (bu,none))):dI [du sizes Ls,p,q]=M.ok (.bl true):=by
 unfold dI fj
 dsimp? [Ga,h,yx,yw,NW,HB,Dh]
end
theorem vP{sizes xs:List Int}(h:xs.length≠sizes.length):vh sizes xs=false:=by
 unfold vh
 rw[decide_eq_false (by omega),Bool.false_and]
theorem zZ{sizes:List Int}(h:1<=sizes.length):vh sizes sizes=false:=by
 cases e:vh sizes sizes with
 | false=>rfl
 | true =>
  have q:=uu.mp e
  cases sizes with
  | nil=>simp at h
  | cons a r=>have:=q.iO (a,a) (by simp);omega
theorem jz(xs:List Int)(h:1<=xs.length):J3 (tI xs) none (some (-1))=M.ok (tI (xs.take (xs.length-1))):=by
 have e1:HT.dF (xs.map PV.int).length (xs.map PV.int).length (some (-1))=xs.length-1:=by
  rw[List.length_map]
  unfold HT.dF
  simp
  omega
 have e0:HT.dF (xs.map PV.int).length 0 none=0:=rfl
 show M.ok (PV.tup (pA (xs.map PV.int) none (some (-1))))=_
 rw[pA,e1,e0,List.drop_zero,Nat.sub_zero,tI,List.map_take]
theorem Ms{l:List PV}{c:Int}(h:l.length=5):∃ (i:Nat) (hi:i<5),aQ (.lst l) (.int (c%5))=M.ok (l[i]'(by omega)):=by
 obtain⟨j,hj⟩:=Int.eq_ofNat_of_zero_le (show 0<=c%5 by omega)
 have hj':j<5:=by omega
 exact⟨j,hj',by rw[hj];exact ck (p:=.lst l) (j:=j) rfl (List.getElem?_eq_getElem _)⟩
theorem three{c:Int}:c%3=0\/c%3=1\/c%3=2:=by omega
section
variable{ns:List Int}{sizes:List Int}{Oe Ls:List (List Int)}{T:List Row}{idle:List (List Int)}
theorem Cv(Q:uV ns sizes Oe Ls T idle){one other:List Int}(h1:Kp sizes one)(h2:Kp sizes other):∃ p w,c8 [du sizes Ls,tI one,tI other]=M.ok p/\oB [(bf,cU),(bg,cV)] "words" p (M.ok [])=M.ok w/\nY w w=M.ok (.bl false):=by
 rcases wz Q h1 h2 with ⟨_,eb⟩ | ⟨_,c,W,_,_,eb,_⟩
 ·exact⟨_,_,eb,(p7 (m := "words") rfl).trans Nw,p6 _ Kj _⟩
 ·exact⟨_,_,eb,(p4 (m := "words") rfl).trans bwd,p6 _ Kf _⟩
theorem yJ(Q:uV ns sizes Oe Ls T idle)(k:Nat)(hk:k<100)(a:Int){one:List Int}(h1:Kp sizes one):∃ o0 o1 o2:List Int,Kp sizes o0/\Kp sizes o1/\Kp sizes o2/\G sizes.length (vf sizes) (DD T) sizes.length 0 (vf (ad sizes o0 one (-1)))
  /\ (∃ P:List Int,fw [.int (a/5+(k:Int)),.int (Oe.length:Int)]=M.ok (tI P)/\bK [lI sizes,.lst (Oe.map lI),tI one,tI P]=M.ok (tI o0))
  /\ (∃ c,cA [.kH (ns.map PV.int),.int (40+(k:Int))]=M.ok (.int c)/\cS [.int c,lI sizes]=M.ok (tI o1))
  /\ (∃ us:List PV,bP (cj 0) none (ai t9 (aa (aj l7 (ae 0) (aj cw (aj bq (ae 2) (λ_=>M.ok (.int 3))) (ai dE (aa (ae 1) ao)))) ao)) ((List.range sizes.length).map λ(i:Nat)=>.int (i:Int)) [none,some (.sh (lI sizes)),some (.sh (.int a))]=M.ok us/\bo [lI sizes,tI o0,.lst us,.int 1]=M.ok (tI o2)):=by
 have S:=Q.S
 have l6:=S.h6
 have l1:=S.h1
 have m8:=Q.m8
 have hm:=Q.hm
 obtain⟨_,ep,P,rfl,Pl,Pb⟩:=Bg (a/5+(k:Int)) Oe.length (by omega)
 have Pb:=Pb.mono (show 199<=200 by omega)
 obtain⟨F,eF,Fl,F0,Fd⟩:=Aa (q:=tI one) (p2:=tI P) (mw S) l6 h1.1 rfl h1.2 Q.hr Pb Pl rfl
 obtain⟨c,ec⟩:=pY ns (40+k)
 rw[Int.natCast_add,show ((40:Nat):Int)=40 from rfl] at ec
 obtain⟨_,e1,o1,rfl,o1l,o10⟩:=pv S c
 have hF:Kp sizes F:=⟨Fl,F0⟩
 obtain⟨j,hj⟩:=Int.eq_ofNat_of_zero_le (Int.emod_nonneg (a/3) (show (sizes.length:Int)≠0 by omega))
 have em:cw (.int (a/3)) (.int (sizes.length:Int))=M.ok (.int (j:Int)):=by rw[aF (by omega),hj]
 have ku:bP (cj 0) none (ai t9 (aa (aj l7 (ae 0) (aj cw (aj bq (ae 2) (λ_=>M.ok (.int 3))) (ai dE (aa (ae 1) ao)))) ao)) ((List.range sizes.length).map λ(i:Nat)=>.int (i:Int)) [none,some (.sh (lI sizes)),some (.sh (.int a))]=M.ok ((List.range sizes.length).map λ(i:Nat)=>.int (if (i:Int)=(j:Int) then 1 else 0)):=by
  refine gC (inj:=λ(i:Nat)=>PV.int (i:Int)) (List.range sizes.length) λi hi=>?_
  have e:t9 [.bl (decide ((i:Int)=(j:Int)))]=M.ok (.int (if (i:Int)=(j:Int) then 1 else 0)):=by
   by_cases q:(i:Int)=(j:Int)
   ·rw[decide_eq_true q,if_pos q];rfl
   ·rw[decide_eq_false q,if_neg q];rfl
  dsimp? [aD (i:=a) (j:=3) (by decide) (by decide),em,e]
 let us:=(List.range sizes.length).map λ(i:Nat)=>(if (i:Int)=(j:Int) then (1:Int) else 0)
 have ul:us.length=sizes.length:=by simp[us]
 have ub:Bd 200 us:=λx hx=>by
  obtain⟨i,_,rfl⟩:=List.mem_map.mp hx
  split <;> decide
 have eu:PV.lst ((List.range sizes.length).map λ(i:Nat)=>PV.int (if (i:Int)=(j:Int) then 1 else 0))=lI us:=by rw[lI,List.map_map];rfl
 have ea:=wy (sizes:=sizes) (xs:=F) (ys:=us) (t:=1) (q:=lI us) (mw S) l6 Fl rfl ub (by decide)
 obtain⟨k1,k2,_⟩:=yD S (t:=1) Fl ul
 obtain⟨_,ac⟩:=l9 (t:=-1) S Fl h1.1
 have led:Led sizes.length (vf sizes) Ls.length (AA Ls) (λi=>vf F i-vf one i) (vf P):=λi hi=>by
  obtain⟨x,hx⟩:=Fd i hi
  obtain⟨y,hy⟩:=E7 (m:=Ls.length) (P:=vf P) (B:=λl=>vf (Oe.getD l []) i) (C:=λl=>AA Ls l i) (s:=vf sizes i) λl hl=>by
   rw[Q.eA l (by omega) i hi];exact tY _ _
  rw[hm] at hx
  exact⟨x+y,by rw[Int.mul_add,← hx,← hy];show vf F i-vf one i-_=_;omega⟩
 have g:G sizes.length (vf sizes) (DD T) sizes.length 0 (vf (ad sizes F one (-1))):=Q.st.gd.qP (by omega) (λi hi=>by
  obtain⟨y,hy⟩:=ac i hi
  exact⟨y,by omega⟩) (Ko Q.st (by omega) led)
 exact⟨F,o1,_,hF,⟨o1l,o10⟩,⟨k1,k2⟩,g,⟨P,ep,eF⟩,⟨c,ec,e1⟩,⟨_,ku,by rw[eu];exact ea⟩⟩
theorem G1(ns:List Int):tQ [.kH (ns.map PV.int)]=M.ok (.bl true):=by
 obtain⟨c0,ec⟩:=pY ns 0
 rw[show ((0:Nat):Int)=0 from rfl] at ec
 obtain⟨_,es,sizes,rfl,S⟩:=AH c0
 obtain⟨_,el,Oe,rfl,r8,hr⟩:=ya ns S
 obtain⟨Ls,T,idle,Q⟩:=uV.get ns S r8 hr
 have l6:=S.h6
 have l1:=S.h1
 have Rp:=BY sizes Oe S r8 λl h=>(hr l h).1
 rw[← Q.eL] at Rp
 refine kE.eq ?_
 unfold tQ DR
 dsimp? [ec,es,el,Q.MM,Q.Ku,jv,iE,w8,show J3 (.kH (ns.map PV.int)) (some 10) (some 16)=M.ok (.lst ((rF ns 10 16).map PV.int)) from El ns 10 16,An (rF ns 10 16) (by have:=t6 ns 10 16;omega),Ca]
 refine kE.loop (xs:=(rF ns 10 16++[0]).zipIdx) (inj:=λz=>.tup [.int (z.2:Int),.int z.1]) (λzs env=>∃ (y5 y6 y7 y8 y9 y10 y11:Option SV),env=[some (.sh (.kH (ns.map PV.int))),some (.sh (lI sizes)),some (.sh (.lst (Oe.map lI))),some (.sh (du sizes Ls)),some (.sh (pT sizes Ls T idle)),y5,y6,y7,y8,y9,y10,y11]/\∀ z∈zs,z.2<100) ⟨_,_,_,_,_,_,_,rfl,λz hz=>by have:=xV hz;have:=t6 ns 10 16;simp at *;omega⟩ ?_ ?_
 ·rintro⟨a,k⟩ r env ⟨y5,y6,y7,y8,y9,y10,y11,rfl,hz⟩
  have hk:=hz (a,k) List.mem_cons_self
  have PZ:∀ z∈r,z.2<100:=λz h=>hz z (List.mem_cons_of_mem _ h)
  simp only at hk
  obtain⟨_,ex,one,rfl,xl,x0⟩:=pv S (a/3+48271*(k:Int))
  have h1:Kp sizes one:=⟨xl,x0⟩
  obtain⟨o0,o1,o2,k0,k1,k2,g0,⟨P,ep,e0⟩,⟨c,ec1,e1⟩,us,ku,e2⟩:=yJ Q k hk a h1
  obtain⟨o,ho,hg,he⟩:∃ o:List Int,Kp sizes o/\(a%3=0->G sizes.length (vf sizes) (DD T) sizes.length 0 (vf (ad sizes o one (-1))))/\o=(if a%3=0 then o0 else if a%3=1 then o1 else o2):=by
   rcases three (c:=a) with q | q | q
   ·exact⟨o0,k0,λ_=>g0,by rw[if_pos q]⟩
   ·exact⟨o1,k1,λh=>by omega,by rw[if_neg (by omega),if_pos q]⟩
   ·exact⟨o2,k2,λh=>by omega,by rw[if_neg (by omega),if_neg (by omega)]⟩
  obtain⟨b1,p1,i1⟩:=tf Q h1 ho
  obtain⟨b2,p2,i2⟩:=tf Q ho h1
  have eb:b2=b1:=by
   rw[Bool.eq_iff_iff,i1,i2]
   exact⟨back Q ho h1,back Q h1 ho⟩
  obtain⟨pw,w,ew,tw,nw⟩:=Cv Q h1 ho
  obtain⟨j,hj,ej⟩:=Ms (l:=[lI one,tI (one.take (one.length-1)),tI sizes,.b_,tI (one++[0])]) (c:=a) rfl
  have bad:aW [du sizes Ls,[lI one,tI (one.take (one.length-1)),tI sizes,.b_,tI (one++[0])][j]]=M.ok (.bl false):=by
   have:j=0\/j=1\/j=2\/j=3\/j=4:=by omega
   rcases this with rfl | rfl | rfl | rfl | rfl
   ·exact Fw _
   ·exact yS S (by simp;omega) (vP (by simp;omega))
   ·exact yS S (by omega) (zZ l1)
   ·exact E_
   ·exact yS S (by simp;omega) (vP (by simp;omega))
  generalize [lI one,tI (one.take (one.length-1)),tI sizes,.b_,tI (one++[0])][j]=pb at *
  have r1:=qU (yi S h1 bad)
  have r2:=qU (q:=tI one) (yZ bad)
  have Ru:eR (tI one) (.tup [.int 0])=M.ok (tI (one++[0])):=by
   rw[tI,eR,av (aJ (by simp;omega)),tI,List.map_append];rfl
  have n1:yc (.bl b1) .b_=M.ok (.bl false):=rfl
  have zr:(List.range sizes.length).length<=sizeLine:=by rw[List.length_range];exact aJ (by omega)
  obtain⟨bb,zb⟩:∃ bb:Bool,decide ((k:Int)=0)=bb:=⟨_,rfl⟩
  rcases three (c:=a) with q | q | q
  ·rw[if_pos q] at he
   subst he
   obtain rfl:=i1.mpr (hg q)
   cases bb with
   | true =>
    dsimp? [bx,aD (i:=a) (j:=3) (by decide) (by decide),aN (i:=48271) (j:=(k:Int)) (k:=31) (l:=31) (by decide) (by omega),ex,aD (i:=a) (j:=5) (by decide) (by decide),List.length_map,ep,e0,aF (i:=a) (j:=3) (by decide),q,decide_true,decide_false,show ¬ (0:Int)=1 by decide,show ¬ (0:Int)=2 by decide,show dW (.bl true) (.bl true)=M.ok (.bl false) from rfl,p1,n1,p2,eb,zb,Rp,show PV.tup (sizes.map PV.int)=tI sizes from rfl,dr,ew,tw,nw,show PV.lst (one.map PV.int)=lI one from rfl,jv,vZ,iE,w8,jz one (by omega),Ru,aF (i:=a) (j:=5) (by decide),ej,r1,r2]
    exact⟨_,rfl,_,_,_,_,_,_,_,rfl,PZ⟩
   | false =>
    dsimp? [bx,aD (i:=a) (j:=3) (by decide) (by decide),aN (i:=48271) (j:=(k:Int)) (k:=31) (l:=31) (by decide) (by omega),ex,aD (i:=a) (j:=5) (by decide) (by decide),List.length_map,ep,e0,aF (i:=a) (j:=3) (by decide),q,decide_true,decide_false,show ¬ (0:Int)=1 by decide,show ¬ (0:Int)=2 by decide,show dW (.bl true) (.bl true)=M.ok (.bl false) from rfl,p1,n1,p2,eb,zb,Rp,show PV.tup (sizes.map PV.int)=tI sizes from rfl,dr,ew,tw,nw,show PV.lst (one.map PV.int)=lI one from rfl,jv,vZ,iE,w8,jz one (by omega),Ru,aF (i:=a) (j:=5) (by decide),ej,r1,r2]
    exact⟨_,rfl,_,_,_,_,_,_,_,rfl,PZ⟩
  ·rw[if_neg (by omega),if_pos q] at he
   subst he
   cases bb with
   | true =>
    dsimp? [bx,aD (i:=a) (j:=3) (by decide) (by decide),aN (i:=48271) (j:=(k:Int)) (k:=31) (l:=31) (by decide) (by omega),ex,aD (i:=a) (j:=5) (by decide) (by decide),List.length_map,ep,e0,aF (i:=a) (j:=3) (by decide),q,decide_true,decide_false,show ¬ (1:Int)=0 by decide,show ¬ (1:Int)=2 by decide,ec1,e1,p1,n1,p2,eb,zb,Rp,show PV.tup (sizes.map PV.int)=tI sizes from rfl,dr,ew,tw,nw,show PV.lst (one.map PV.int)=lI one from rfl,jv,vZ,iE,w8,jz one (by omega),Ru,aF (i:=a) (j:=5) (by decide),ej,r1,r2]
    exact⟨_,rfl,_,_,_,_,_,_,_,rfl,PZ⟩
   | false =>
    dsimp? [bx,aD (i:=a) (j:=3) (by decide) (by decide),aN (i:=48271) (j:=(k:Int)) (k:=31) (l:=31) (by decide) (by omega),ex,aD (i:=a) (j:=5) (by decide) (by decide),List.length_map,ep,e0,aF (i:=a) (j:=3) (by decide),q,decide_true,decide_false,show ¬ (1:Int)=0 by decide,show ¬ (1:Int)=2 by decide,ec1,e1,p1,n1,p2,eb,zb,Rp,show PV.tup (sizes.map PV.int)=tI sizes from rfl,dr,ew,tw,nw,show PV.lst (one.map PV.int)=lI one from rfl,jv,vZ,iE,w8,jz one (by omega),Ru,aF (i:=a) (j:=5) (by decide),ej,r1,r2]
    exact⟨_,rfl,_,_,_,_,_,_,_,rfl,PZ⟩
  ·rw[if_neg (by omega),if_neg (by omega)] at he
   subst he
   cases bb with
   | true =>
    dsimp? [bx,aD (i:=a) (j:=3) (by decide) (by decide),aN (i:=48271) (j:=(k:Int)) (k:=31) (l:=31) (by decide) (by omega),ex,aD (i:=a) (j:=5) (by decide) (by decide),List.length_map,ep,e0,aF (i:=a) (j:=3) (by decide),q,decide_true,decide_false,show ¬ (2:Int)=0 by decide,show ¬ (2:Int)=1 by decide,iy (n:=(sizes.length:Int)) (by omega) (by omega),Int.toNat_natCast,av zr,ku,e2,p1,n1,p2,eb,zb,Rp,show PV.tup (sizes.map PV.int)=tI sizes from rfl,dr,ew,tw,nw,show PV.lst (one.map PV.int)=lI one from rfl,jv,vZ,iE,w8,jz one (by omega),Ru,aF (i:=a) (j:=5) (by decide),ej,r1,r2]
    exact⟨_,rfl,_,_,_,_,_,_,_,rfl,PZ⟩
   | false =>
    dsimp? [bx,aD (i:=a) (j:=3) (by decide) (by decide),aN (i:=48271) (j:=(k:Int)) (k:=31) (l:=31) (by decide) (by omega),ex,aD (i:=a) (j:=5) (by decide) (by decide),List.length_map,ep,e0,aF (i:=a) (j:=3) (by decide),q,decide_true,decide_false,show ¬ (2:Int)=0 by decide,show ¬ (2:Int)=1 by decide,iy (n:=(sizes.length:Int)) (by omega) (by omega),Int.toNat_natCast,av zr,ku,e2,p1,n1,p2,eb,zb,Rp,show PV.tup (sizes.map PV.int)=tI sizes from rfl,dr,ew,tw,nw,show PV.lst (one.map PV.int)=lI one from rfl,jv,vZ,iE,w8,jz one (by omega),Ru,aF (i:=a) (j:=5) (by decide),ej,r1,r2]
    exact⟨_,rfl,_,_,_,_,_,_,_,rfl,PZ⟩
 ·rintro env ⟨y5,y6,y7,y8,y9,y10,y11,rfl,_⟩
  dsimp? []
  exact⟨_,rfl,rfl⟩
end
end xH
theorem PySem.Challenge.cw_dialvault_k27_whole_one_paper_holds : PySem.Challenge.rw_dialvault_k27_whole_one_paper.Holds :=
  xH.hold HD.said λns _ _ => xH.G1 ns
end