import PyProof.Rows.All
import Wide.All
import OpenK.AllK
import Wide.FinOn
import Lean
import PyProof.EqAt
import PyProof.EqKinds
import PyProof.TupleCall
import PySem.Challenge.RW_dialvault_k25_step_weights
set_option Elab.async false
set_option linter.all false
set_option maxRecDepth 100000
set_option maxHeartbeats 0
noncomputable section
namespace L2
open PySem PySem.Spec PyProof.Rows
abbrev Key:=Sum Int Str
def FF:Key->Value->Bool
 | .inl k,v=>Value.isInt k v
 | .inr x,v=>Value.isStrOf x v
def Qr (w:World):Key->Int
 | .inl k=>hashInt k
 | .inr x=>hashStr w x
theorem bU:∀ {k:Key} {v:Value},FF k v=true->(∃ i t,k=Sum.inl i/\v=Value.int i t)\/(∃ x t,k=Sum.inr x/\v=Value.str x t)
 | .inl i,v,h=>by
  obtain ⟨t,e⟩:=Value.isInt_shape (k:=i) (v:=v) h
  exact .inl ⟨i,t,rfl,e⟩
 | .inr x,v,h=>by
  obtain ⟨t,e⟩:=Value.isStrOf_shape (x:=x) (v:=v) h
  exact .inr ⟨x,t,rfl,e⟩
theorem Ge (a b:Int):decide ((Sum.inl a:Key)=Sum.inl b)=(a==b):=by
 by_cases e:a=b
 ·subst e;simp
 ·have h:¬ (Sum.inl a:Key)=Sum.inl b:=fun q=>e (Sum.inl.inj q)
  rw [decide_eq_false h]
  exact (beq_eq_false_iff_ne.mpr e).symm
theorem G0 (a b:Str):decide ((Sum.inr a:Key)=Sum.inr b)=decide (a=b):=by
 by_cases e:a=b
 ·subst e;simp
 ·have h:¬ (Sum.inr a:Key)=Sum.inr b:=fun q=>e (Sum.inr.inj q)
  rw [decide_eq_false h,decide_eq_false e]
theorem GS (a:Int) (b:Str):decide ((Sum.inl a:Key)=Sum.inr b)=false:=decide_eq_false (fun q=>nomatch q)
theorem HK (a:Str) (b:Int):decide ((Sum.inr a:Key)=Sum.inl b)=false:=decide_eq_false (fun q=>nomatch q)
def yq (prog:Program) (w:World):PySem.KeyKind prog w Key where
 is:=FF
 hash:=Qr w
 inj:=fun v a b ha hb=>by
  rcases bU ha with ⟨i,t,rfl,rfl⟩ | ⟨x,t,rfl,rfl⟩
  ·rcases bU hb with ⟨j,u,rfl,e⟩ | ⟨y,u,rfl,e⟩
   ·injection e with e1 _;rw [e1]
   ·exact nomatch e
  ·rcases bU hb with ⟨j,u,rfl,e⟩ | ⟨y,u,rfl,e⟩
   ·exact nomatch e
   ·injection e with e1 _;rw [e1]
 byValue:=fun k v h=>by
  rcases bU h with ⟨i,t,rfl,rfl⟩ | ⟨x,t,rfl,rfl⟩ <;> rfl
 pyHash:=fun hv h=>by
  rcases bU hv with ⟨i,t,rfl,rfl⟩ | ⟨x,t,rfl,rfl⟩
  ·exact wpAny_pyHash_int h
  ·exact wpAny_pyHash_str h
 eqBool:=fun hu hv h=>by
  rcases bU hu with ⟨i,t,rfl,rfl⟩ | ⟨x,t,rfl,rfl⟩
  ·rcases bU hv with ⟨j,u,rfl,rfl⟩ | ⟨y,u,rfl,rfl⟩
   ·rw [Ge] at h;exact wpAny_eqBool_int h
   ·rw [GS] at h;exact SeqAt.EqAt.int_str i t y u _ _ _ _ h
  ·rcases bU hv with ⟨j,u,rfl,rfl⟩ | ⟨y,u,rfl,rfl⟩
   ·rw [HK] at h;exact SeqAt.EqAt.str_int x t j u _ _ _ _ h
   ·rw [G0] at h;exact wpAny_eqBool_str h
 «strs»:=fun k x t v h=>by
  rcases bU h with ⟨i,u,rfl,e⟩ | ⟨y,u,rfl,e⟩
  ·exact nomatch e
  ·injection e with e1 _
   subst e1
   cases v <;> rfl
end L2
namespace L2
open PySem PySem.Spec PyProof.Rows
inductive V where
 | cS | bl (b:Bool) | int (i:Int) | str (x:Str) | byt (b:Array UInt8) | FG (b:UInt64) | ref (a:Addr) | ty (n:String)
 deriving DecidableEq
def RelV:V->Value->Prop
 | .cS,u=>u=Value.none
 | .bl b,u=>u=Value.bool b
 | .int i,u=>∃ t,u=Value.int i t
 | .str x,u=>∃ t,u=Value.str x t
 | .byt b,u=>∃ t,u=Value.bytes b t
 | .FG b,u=>∃ t,u=Value.float b t
 | .ref a,u=>u=Value.ref a
 | .ty n,u=>u=Value.type n
abbrev Vals:List V->List Value->Prop:=Paired RelV
theorem Vals.length {xs:List V} {us:List Value} (r:Vals xs us):xs.length=us.length:=Paired.length r
theorem Vals.get:∀ {xs:List V} {us:List Value} {i:Nat} {x:V},Vals xs us->xs[i]?=some x->∃ u,us[i]?=some u/\RelV x u
 | _,_,_,_,.nil,e=>by simp at e
 | _,_,0,_,.cons r _,e=>by simp at e;subst e;exact ⟨_,rfl,r⟩
 | _,_,i+1,x,.cons _ t,e=>by
  obtain ⟨u,h1,h2⟩:=Vals.get (i:=i) (x:=x) t (by simpa using e)
  exact ⟨u,by simpa using h1,h2⟩
theorem Vals.set {x:V} {u:Value} (r:RelV x u):∀ {xs:List V} {us:List Value} (i:Nat),Vals xs us->Vals (xs.set i x) (us.set i u)
 | _,_,_,.nil=>.nil
 | _,_,0,.cons _ t=>.cons r t
 | _,_,i+1,.cons q t=>.cons q (Vals.set r i t)
theorem Vals.append:∀ {xs ys:List V} {us ws:List Value},Vals xs us->Vals ys ws->Vals (xs++ys) (us++ws)
 | _,_,_,_,.nil,s=>s
 | _,_,_,_,.cons r t,s=>.cons r (Vals.append t s)
theorem Vals.take:∀ {xs:List V} {us:List Value} (n:Nat),Vals xs us->Vals (xs.take n) (us.take n)
 | _,_,0,_=>.nil
 | _,_,_+1,.nil=>.nil
 | _,_,n+1,.cons r t=>.cons r (Vals.take n t)
theorem Vals.drop:∀ {xs:List V} {us:List Value} (n:Nat),Vals xs us->Vals (xs.drop n) (us.drop n)
 | _,_,0,r=>r
 | _,_,_+1,.nil=>.nil
 | _,_,n+1,.cons _ t=>Vals.drop n t
def l_:Option V->Option Value->Prop
 | some v,some u=>RelV v u
 | none,none=>True
 | _,_=>False
def KV {κ:Type}:List (κ×V)->List (κ×Value)->Prop:=Paired fun (p:κ×V) (q:κ×Value)=>p.1=q.1/\RelV p.2 q.2
def kV:Key->V
 | .inl i=>.int i
 | .inr x=>.str x
inductive HO where
 | lst (xs:List V)
 | tup (xs:List V)
 | dK (kvs:List (Key×V)) | dT (kvs:List (List Key×V))
 | set (S:Int->Bool) (n:Nat)
 | ins (C dx:Addr) (fs:List (Str×V))
 | own (x:Addr)
 | xd (fs:List (Str×V))
 | met (f x:Addr)
 | kz (lo hi:Int)
 | rK (o:Obj) (u:HO)
 | Fp (ps:Array Value)
 | ext (φ:Heap->Prop)
abbrev Hp:=Addr->Option HO
def upd (H:Hp) (a:Addr) (o:HO):Hp:=fun b=>if b=a then some o else H b
theorem aC {H:Hp} {a:Addr} {o:HO}:upd H a o a=some o:=by unfold upd;rw [if_pos rfl]
theorem ar {H:Hp} {a b:Addr} {o:HO} (h:b≠a):upd H a o b=H b:=by unfold upd;rw [if_neg h]
theorem yI {H:Hp} {a:Addr} {o u:HO}:upd (upd H a o) a u=upd H a u:=by
 funext b;unfold upd;split <;> rfl
theorem aS {H:Hp} {a b:Addr} {o:HO} (h:H a=some o) (h':H b=none):a≠b:=by
 intro e;subst e;rw [h] at h';cases h'
section
variable (P:Program) (w:World)
def bP (H:Hp) (h:Heap) (a:Addr):HO->Prop
 | .lst xs=>xs.length<=sizeLine/\∃ (its:List Value) (n:Nat),Vals xs its/\h.get? a=some { cls:=.type "list", data:=.seq its.toArray n }
 | .tup xs=>xs.length<=sizeLine/\∃ its:List Value,Vals xs its/\IsTup h a its.toArray
 | .dK kvs=>kvs.length<=sizeLine/\(a==sysModules)=false/\∃ vs,KV kvs vs/\h.DictOf (yq P w) a vs
 | .dT kvs=>kvs.length<=sizeLine/\(a==sysModules)=false/\∃ xs:List (List Key×Addr×Value),
   Paired (fun (p:List Key×V) (q:List Key×Addr×Value)=>p.1=q.1/\H q.2.1=some (.tup (p.1.map kV))/\RelV p.2 q.2.2) kvs xs ∧
   ∃ o es ep,h.get? a=some o/\o.ExactDict/\o.data=.dict es ep/\es.toList=xs.map (entryOfKey (tupleKind (yq P w)))/\(xs.map (·.1)).Nodup
 | .set S n=>h.SetOf (intKind P w) a S n
 | .ins C dx fs=>H dx=some (.own a)/\fs.length<=1000/\dx≠a/\h.get? a=some (PySem.W.instObj C dx) ∧
   ∃ mA,h.Ns1 dx mA/\(∀ f,l_ (fs.lookup f) (mA f))/\PySem.Within mA (fs.map (·.1))
 | .own _=>∃ o,h.get? a=some o
 | .xd fs=>∃ mA,h.Ns1 a mA/\∀ f,l_ (fs.lookup f) (mA f)
 | .kz lo hi=>∃ t u v,h.get? a=some { cls:=.type "range", data:=.fields #[.int lo t,.int hi u,.int 1 v] }
 | .rK o u=>h.get? a=some o/\bP H h a u
 | .Fp ps=>h.get? a=some { cls:=.none,data:=.fields ps }
 | .met f x=>h.get? a=some (PySem.W.methodObj (.ref f) (.ref x))
 | .ext φ=>φ h/\(∃ o,h.get? a=some o)/\∀ h1 h2:Heap,φ h1->(∀ o,h1.get? a=some o->h2.get? a=some o)->φ h2
def mV (H:Hp) (h:Heap):Prop:=∀ a o,H a=some o->bP P w H h a o
end
section
variable {P:Program} {w:World} {H H':Hp} {h h':Heap} {a:Addr} {o:HO}
theorem bP.lt (x:bP P w H h a o):a<h.objs.size:=by
 cases o with
 | lst xs=>obtain ⟨_,_,_,_,e⟩:=x;exact Heap.lt_size e
 | tup xs=>obtain ⟨_,_,_,p⟩:=x;exact p.lt
 | dK kvs=>obtain ⟨_,_,_,_,o,_,_,e,_⟩:=x;exact Heap.lt_size e
 | dT kvs=>obtain ⟨_,_,_,_,o,_,_,e,_⟩:=x;exact Heap.lt_size e
 | set S n=>obtain ⟨o,_,_,_,e,_⟩:=x;exact Heap.lt_size e
 | ins C dx fs=>obtain ⟨_,_,_,e,_⟩:=x;exact Heap.lt_size e
 | own y=>obtain ⟨_,e⟩:=x;exact Heap.lt_size e
 | xd fs=>obtain ⟨_,⟨_,_,_,e,_⟩,_⟩:=x;exact Heap.lt_size e
 | kz lo hi=>obtain ⟨_,_,_,e⟩:=x;exact Heap.lt_size e
 | rK ob u=>obtain ⟨e,_⟩:=x;exact Heap.lt_size e
 | Fp ps=>exact Heap.lt_size (show h.get? a=some _ from x)
 | met f y=>exact Heap.lt_size (show h.get? a=some _ from x)
 | ext φ=>obtain ⟨_,⟨_,e⟩,_⟩:=x;exact Heap.lt_size e
theorem Paired.JC {α β:Type} {F G:α->β->Prop}:∀ {l₁:List α} {l₂:List β},Paired F l₁ l₂->(∀ a b,F a b->G a b)->Paired G l₁ l₂
 | _,_,.nil,_=>.nil
 | _,_,.cons r t,f=>.cons (f _ _ r) (Paired.JC t f)
theorem bP.lN (x:bP P w H h a o) (k:∀ b u,(b=a\/H b=some (.own a))->h.get? b=some u->h'.get? b=some u)
  (ho:∀ b,H b=some (.own a)->H' b=some (.own a)) (ht:∀ b xs,H b=some (.tup xs)->H' b=some (.tup xs)):bP P w H' h' a o:=by
 induction o with
 | lst xs=>obtain ⟨z,its,n,r,e⟩:=x;exact ⟨z,its,n,r,k _ _ (.inl rfl) e⟩
 | tup xs=>obtain ⟨z,its,r,ob,e,c⟩:=x;exact ⟨z,its,r,ob,k _ _ (.inl rfl) e,c⟩
 | dK kvs=>obtain ⟨z,y,vs,r,ob,es,ep,e,c⟩:=x;exact ⟨z,y,vs,r,ob,es,ep,k _ _ (.inl rfl) e,c⟩
 | dT kvs =>
  obtain ⟨z,y,xs,r,ob,es,ep,e,c⟩:=x
  exact ⟨z,y,xs,Paired.JC r fun p q z=>⟨z.1,ht _ _ z.2.1,z.2.2⟩,ob,es,ep,k _ _ (.inl rfl) e,c⟩
 | set S n=>obtain ⟨ob,es,ep,t,e,c⟩:=x;exact ⟨ob,es,ep,t,k _ _ (.inl rfl) e,c⟩
 | ins C dx fs =>
  obtain ⟨d,z,ne,e,mA,⟨od,es,ep,e2,c⟩,r⟩:=x
  exact ⟨ho _ d,z,ne,k _ _ (.inl rfl) e,mA,⟨od,es,ep,k _ _ (.inr d) e2,c⟩,r⟩
 | own y=>obtain ⟨ob,e⟩:=x;exact ⟨ob,k _ _ (.inl rfl) e⟩
 | xd fs=>obtain ⟨mA,⟨od,es,ep,e,c⟩,r⟩:=x;exact ⟨mA,⟨od,es,ep,k _ _ (.inl rfl) e,c⟩,r⟩
 | kz lo hi=>obtain ⟨t,u,v,e⟩:=x;exact ⟨t,u,v,k _ _ (.inl rfl) e⟩
 | rK ob u ih=>obtain ⟨e,q⟩:=x;exact ⟨k _ _ (.inl rfl) e,ih q⟩
 | Fp ps =>
  have e:h.get? a=some { cls:=.none,data:=.fields ps }:=x
  show h'.get? a=some { cls:=.none,data:=.fields ps }
  exact k a _ (.inl rfl) e
 | met f y =>
  have e:h.get? a=some (PySem.W.methodObj (.ref f) (.ref y)):=x
  show h'.get? a=some (PySem.W.methodObj (.ref f) (.ref y))
  exact k a _ (.inl rfl) e
 | ext φ=>obtain ⟨p,⟨o,e⟩,st⟩:=x;exact ⟨st _ _ p fun o q=>k _ _ (.inl rfl) q,⟨o,k _ _ (.inl rfl) e⟩,st⟩
theorem mV.lt (x:mV P w H h) (e:H a=some o):a<h.objs.size:=(x a o e).lt
theorem mV.fresh (x:mV P w H h) (e:h.objs.size<=a):H a=none:=by
 cases q:H a with
 | none=>rfl
 | some u=>exact absurd (Nat.lt_of_lt_of_le (x.lt q) e) (Nat.lt_irrefl _)
theorem mV.kept (x:mV P w H h) (k:∀ b u,h.get? b=some u->h'.get? b=some u):mV P w H h':=fun a o e =>
 (x a o e).lN (fun b u _ q=>k b u q) (fun _ q=>q) fun _ _ q=>q
theorem mV.laid (x:mV P w H h) (k:∀ b u,h.get? b=some u->h'.get? b=some u) (hp:h.objs.size<=a) (new:bP P w (upd H a o) h' a o):mV P w (upd H a o) h':=fun b u e=>by
 have hn:=x.fresh hp
 by_cases hb:b=a
 ·subst hb;rw [aC] at e;cases e;exact new
 ·rw [ar hb] at e
  exact (x b u e).lN (fun c v _ q=>k c v q) (fun c q=>by rw [ar (aS q hn)];exact q) fun c xs q=>by rw [ar (aS q hn)];exact q
end
def Rd (H:Hp) (a:Addr) (u:HO):Prop:=H a=some u\/∃ o,H a=some (.rK o u)
theorem Rd.ok {P:Program} {w:World} {H:Hp} {h:Heap} {a:Addr} {u:HO} (r:Rd H a u) (x:mV P w H h):bP P w H h a u:=by
 rcases r with r | ⟨o,r⟩
 ·exact x a u r
 ·obtain ⟨_,q⟩:=x a _ r
  exact q
def Ko:Option HO->Prop
 | some (.lst _)=>True
 | some (.dK _)=>True
 | some (.dT _)=>True
 | some (.set _ _)=>True
 | some (.ins _ _ _)=>True
 | some (.ext _)=>True
 | _=>False
section
variable {P:Program} {w:World} {H:Hp} {h h':Heap} {x e:Addr} {o':HO}
theorem mV.write (ok:mV P w H h) (mu:Ko (H x)) (he:e=x\/H e=some (.own x)) (k:∀ b u,b≠e->h.get? b=some u->h'.get? b=some u) (heo:∃ u,h'.get? e=some u)
  (new:bP P w (upd H x o') h' x o'):mV P w (upd H x o') h':=fun b u q=>by
 have nown:∀ c y,H c=some (.own y)->c≠x:=fun c y r z=>by subst z;rw [r] at mu;exact mu
 have ntup:∀ c xs,H c=some (.tup xs)->c≠x:=fun c xs r z=>by subst z;rw [r] at mu;exact mu
 by_cases hb:b=x
 ·subst hb;rw [aC] at q;cases q;exact new
 ·rw [ar hb] at q
  by_cases hbe:b=e
  ·have q':H b=some (.own x):=by
    rcases he with z | z
    ·exact absurd (hbe.trans z) hb
    ·rw [hbe];exact z
   rw [q] at q';cases q'
   obtain ⟨v,hv⟩:=heo
   exact ⟨v,by rw [hbe];exact hv⟩
  ·refine (ok b u q).lN (fun c v hc r=>k c v ?_ r) (fun c r=>by rw [ar (nown c b r)];exact r) fun c xs r=>by rw [ar (ntup c xs r)];exact r
   rcases hc with rfl | hc
   ·exact hbe
   ·rintro rfl
    rcases he with z | z
    ·exact nown c b hc z
    ·rw [hc] at z;cases z;exact hb rfl
end
structure Un (fs ex:List Addr) (H H':Hp) (h h':Heap):Prop where
 keep:∀ b o,h.get? b=some o->H b=none->b ∉ fs->b ∉ ex->h'.get? b=some o
 slot:∀ b o,h.get? b=some o->H b=none->b∈fs->b ∉ ex->∃ sl,h'.get? b=some { o with slots:=sl }
 free:∀ b o,h.get? b=some o->H b=none->b ∉ ex->H' b=none
 there:∀ b o,h.get? b=some o->b ∉ ex->∃ o',h'.get? b=some o'
 oJ:∀ b xs,H b=some (.tup xs)->H' b=some (.tup xs)
 lh:∀ b o u,H b=some (.rK o u)->H' b=some (.rK o u)
 oI:∀ b ps,H b=some (.Fp ps)->∃ more,H' b=some (.Fp (ps++more))
section
variable {fs fs' ex ex':List Addr} {H H1 H2:Hp} {h h1 h2 h':Heap} {a x e:Addr} {o:HO}
theorem Un.any (u:Un fs ex H H1 h h1) {b:Addr} {ob:Obj} (q:h.get? b=some ob) (n:H b=none) (hx:b ∉ ex):∃ sl,h1.get? b=some { ob with slots:=sl }:=by
 by_cases hb:b∈fs
 ·exact u.slot b ob q n hb hx
 ·exact ⟨ob.slots,u.keep b ob q n hb hx⟩
theorem Un.kept (k:∀ b u,h.get? b=some u->h'.get? b=some u):Un fs ex H H h h' :=
 ⟨fun b ob q _ _ _=>k b ob q,fun b ob q _ _ _=>⟨ob.slots,k b ob q⟩,fun _ _ _ n _=>n,fun b ob q _=>⟨ob,k b ob q⟩,fun _ _ q=>q,fun _ _ _ q=>q,fun _ ps q=>⟨#[],by rw [q];simp⟩⟩
theorem Un.refl:Un fs ex H H h h:=Un.kept fun _ _ q=>q
theorem Un.laid (k:∀ b u,h.get? b=some u->h'.get? b=some u) (hp:h.objs.size<=a) (hn:H a=none):Un fs ex H (upd H a o) h h' where
 keep:=fun b u q _ _ _=>k b u q
 slot:=fun b u q _ _ _=>⟨u.slots,k b u q⟩
 free:=fun b u q n _=>by rw [ar (Nat.ne_of_lt (Nat.lt_of_lt_of_le (Heap.lt_size q) hp))];exact n
 there:=fun b u q _=>⟨u,k b u q⟩
 oJ:=fun b xs q=>by rw [ar (aS q hn)];exact q
 lh:=fun b u xs q=>by rw [ar (aS q hn)];exact q
 oI:=fun b ps q=>⟨#[],by rw [ar (aS q hn),q];simp⟩
theorem Un.write (mu:Ko (H x)) (he:e=x\/H e=some (.own x)) (k:∀ b u,b≠e->h.get? b=some u->h'.get? b=some u) (heo:∃ u,h'.get? e=some u):Un fs ex H (upd H x o) h h':=by
 have hx:∀ b,H b=none->b≠x:=fun b n z=>by subst z;rw [n] at mu;exact mu
 have hb:∀ b,H b=none->b≠e:=fun b n z=>by
  subst z
  rcases he with r | r
  ·exact hx b n r
  ·rw [n] at r;cases r
 have hm:∀ b u,H b=some u->¬ Ko (some u)->b≠x:=fun b u q nm z=>by subst z;rw [q] at mu;exact nm mu
 refine ⟨fun b u q n _ _=>k b u (hb b n) q,fun b u q n _ _=>⟨u.slots,k b u (hb b n) q⟩,fun b u q n _=>by rw [ar (hx b n)];exact n,fun b u q _=>?_,
  fun b xs q=>by rw [ar (hm b _ q fun z=>z)];exact q,fun b u xs q=>by rw [ar (hm b _ q fun z=>z)];exact q,fun b ps q=>⟨#[],by rw [ar (hm b _ q fun z=>z),q];simp⟩⟩
 by_cases hbe:b=e
 ·subst hbe;exact heo
 ·exact ⟨u,k b u hbe q⟩
end
def Kk (h:Heap) (H:Hp):List Addr:=(List.range h.objs.size).filter fun a=>(H a).isSome
def uk (h:Heap) (H:Hp):Heap:=PySem.W.hideAll h (Kk h H)
theorem zN (h:Heap) (H:Hp):(uk h H).objs.size=h.objs.size:=PySem.W.hideAll_size _ _
theorem BZ {h:Heap} {H:Hp} {b:Addr} {o:Obj} (e:h.get? b=some o) (n:H b=none):(uk h H).get? b=some o :=
 PySem.W.hideAll_get _ e fun hm=>by
  have q:(H b).isSome=true:=(List.mem_filter.mp hm).2
  rw [n] at q;simp at q
theorem EL {h:Heap} {H:Hp} {b:Addr} {o:Obj} (e:(uk h H).get? b=some o):h.get? b=some o/\H b=none:=by
 have e':h.get? b=some o:=PySem.W.of_hideAll (Kk h H) e
 refine ⟨e',?_⟩
 cases q:H b with
 | none=>rfl
 | some x =>
  have hm:b∈Kk h H:=List.mem_filter.mpr ⟨List.mem_range.mpr (Heap.lt_size e'),by simp [q]⟩
  have z:(uk h H).get? b=none:=PySem.W.hideAll_none (Kk h H) hm
  rw [z] at e;cases e
def Ez (g h:Heap) (L:Addr):List (Addr×Obj):=(List.range h.objs.size).filterMap fun a=>if a=L\/(g.get? a).isSome=true then none else (h.get? a).map fun o=>(a,o)
def rest (g h:Heap) (L d:Addr):List (Addr×Obj):=(Ez g h L).filter fun p=>decide (p.1≠d)
end L2
namespace L2
open PySem PySem.Spec PyProof.Rows
structure Mod (K:PySem.W.Frag) (mg:Str->Option Value) (base:Heap):Prop where
 E_:K.In base
 glob:base.Ns mainGlobals mg
 blt:∃ mb,base.Ns builtinsNs mb/\∀ x:Str,x ≠ "__name__" -> mb x=bootBuiltins x
 nolimit:base.NoLimit
structure Cx where
 prog:Program
 w:World
 K:PySem.W.Frag
 mg:Str->Option Value
 base:Heap
 A:Around
 N:List Str
 s₀:Shared
 H₀:Hp
 env:Env
 outer:List Env
 stack:List Env
 ex:List Addr
 fn:Str->Bool
 calm:Bool
 pn:List (Addr×Obj)
 xe:Value->Shared->Prop
def wu (l:List Env):List Addr:=l.filterMap (·.frame)
abbrev Cx.fs (X:Cx):List Addr:=wu X.outer
def BB (sc:Scope) (x:Str):Prop:=sc.names.lookup x=some .local\/sc.names.lookup x=some .cell\/sc.names.lookup x=some .free
def Loc (sc:Scope) (x:Str):Prop:=sc.names.lookup x=some .local\/sc.names.lookup x=some .cell
def Look (env:Env) (h:Heap) (m:Str->Option Value) (x:Str) (u:Value):Prop :=
 (env.kindOf x=some .local/\m x=some u)\/((env.kindOf x=some .cell\/env.kindOf x=some .free)/\∃ c,env.cells.lookup x=some c/\h.IsCell c (some u))
structure Cx.Ok (X:Cx):Prop where
 mod:Mod X.K X.mg X.base
 kind:X.env.scope.kind=.function
 glob:X.env.globals=mainGlobals
 blt:X.env.builtins=builtinsNs
 above:X.s₀.heap.objs.size<=X.env.locals
 inj:∀ x y c,X.env.cells.lookup x=some c->X.env.cells.lookup y=some c->x=y
 has:∀ x,(X.env.kindOf x=some .cell\/X.env.kindOf x=some .free)->∃ c,X.env.cells.lookup x=some c
 Fe:∀ x c,X.fn x=true->X.env.cells.lookup x=some c->X.s₀.heap.objs.size<=c
 hd:X.calm=true->X.A.handled=none
 frames:X.A.frames=some X.stack
 Ht:X.stack=X.outer\/(X.stack=X.env::X.outer/\X.env.frame=some X.env.locals)
 FJ:∀ b∈X.ex,b≠X.env.locals/\∀ x c,X.env.cells.lookup x=some c->c≠b
 bs:∀ b o,X.base.get? b=some o->X.s₀.heap.get? b=some o/\X.H₀ b=none
 Ao:X.base.objs.size<=X.s₀.heap.objs.size
 rG:∀ b o,X.base.get? b=some o->b ∉ X.ex
 tF:∀ b∈X.ex,b ∉ X.fs
 lW:X.s₀.heap.FunFrames X.base X.outer
 Dl:∀ b∈X.fs,X.H₀ b=none
structure Inv (X:Cx) (pins:List (Addr×Obj)) (σ:List (Option V)) (H:Hp) (s:Shared):Prop where
 ok:X.Ok
 os:s.os=X.s₀.os
 bare:AllBare s.gens
 base:Un X.fs X.ex X.H₀ H X.s₀.heap s.heap
 loc:∃ m,s.heap.Ns X.env.locals m/\∀ (i:Nat) (x:Str) (v:V),X.N[i]?=some x->σ[i]?=some (some v)->BB X.env.scope x->∃ u,RelV v u/\Look X.env s.heap m x u
 cell:∀ x c,X.env.cells.lookup x=some c->∃ v,s.heap.IsCell c v
 free:H X.env.locals=none
 fx:∀ x c,X.env.cells.lookup x=some c->H c=none
 pin:∀ p∈X.pn++pins,s.heap.get? p.1=some p.2/\H p.1=none/\p.1≠X.env.locals/\p.1 ∉ X.fs/\∀ v,p.2.data≠.cell v
 a_:mV X.prog X.w H s.heap
 len:σ.length=X.N.length
section
variable {X:Cx} {pins:List (Addr×Obj)} {σ:List (Option V)} {H H':Hp} {s:Shared} {h':Heap}
theorem Cx.Ok.Mv (ok:X.Ok) {b:Addr} {o:Obj} (e:X.base.get? b=some o):b ∉ X.fs:=fun hb=>by
 have:=(ok.lW.mem hb).1
 rw [e] at this;cases this
theorem Inv.bs (I:Inv X pins σ H s):∀ b o,X.base.get? b=some o->s.heap.get? b=some o/\H b=none:=fun b o e =>
 ⟨I.base.keep b o (I.ok.bs b o e).1 (I.ok.bs b o e).2 (I.ok.Mv e) (I.ok.rG b o e),I.base.free b o (I.ok.bs b o e).1 (I.ok.bs b o e).2 (I.ok.rG b o e)⟩
theorem Inv.bk (I:Inv X pins σ H s):∀ b o,X.base.get? b=some o->s.heap.get? b=some o:=fun b o e=>(I.bs b o e).1
theorem Inv.mod (I:Inv X pins σ H s):Mod X.K X.mg X.base:=I.ok.mod
theorem Inv.jx (I:Inv X pins σ H s):X.K.In s.heap:=I.ok.mod.E_.keeps I.bk
theorem Inv.lt (I:Inv X pins σ H s):X.env.locals<s.heap.objs.size:=let ⟨_,hn,_⟩:=I.loc;hn.lt
theorem Inv.sz (I:Inv X pins σ H s):X.s₀.heap.objs.size<=s.heap.objs.size:=Nat.le_trans I.ok.above (Nat.le_of_lt I.lt)
theorem Inv.Ks (I:Inv X pins σ H s) {a:Addr} (h:s.heap.objs.size<=a):a ∉ X.fs:=fun hb=>by
 obtain ⟨_,o,ho,_⟩:=I.ok.lW.mem hb
 exact absurd (Nat.lt_of_lt_of_le (Heap.lt_size ho) (Nat.le_trans I.sz h)) (Nat.lt_irrefl _)
theorem Inv.Aw (I:Inv X pins σ H s):∀ x c,X.env.cells.lookup x=some c->c≠X.env.locals:=fun x c e z=>by
 obtain ⟨v,o,ho,hd⟩:=I.cell x c e
 obtain ⟨m,⟨o',es,ep,ho',hd',_⟩,_⟩:=I.loc
 rw [z,ho'] at ho;cases ho;rw [hd'] at hd;cases hd
theorem Inv.lW (I:Inv X pins σ H s):s.heap.FunFrames X.base X.outer:=by
 have all:∀ (l:List Env),(∀ b∈wu l,b∈X.fs)->X.s₀.heap.FunFrames X.base l->s.heap.FunFrames X.base l:=by
  intro l
  induction l with
  | nil=>intro _ _;trivial
  | cons env r ih =>
   intro hs hl
   obtain ⟨hk,⟨L,o,hf,hn,ho,hd⟩,hr⟩:=hl
   have hL:L∈X.fs:=hs L (by unfold wu;rw [List.filterMap_cons,hf];exact List.mem_cons_self)
   obtain ⟨sl,e⟩:=I.base.slot L o ho (I.ok.Dl L hL) hL fun z=>I.ok.tF L z hL
   exact ⟨hk,⟨L,_,hf,hn,e,hd⟩,ih (fun b hb=>hs b (by unfold wu;rw [List.filterMap_cons,hf];exact List.mem_cons_of_mem _ hb)) hr⟩
 exact all X.outer (fun _ hb=>hb) I.ok.lW
theorem Inv.stack (I:Inv X pins σ H s):s.heap.FunFrames X.base X.stack:=by
 rcases I.ok.Ht with e | ⟨e,hf⟩
 ·rw [e];exact I.lW
 ·rw [e]
  obtain ⟨m,hn,_⟩:=I.loc
  refine .cons (by rw [I.ok.kind];decide) hf hn ?_ I.lW
  exact Heap.get?_none_of_le (Nat.le_trans I.ok.Ao I.ok.above)
theorem Inv.nM (I:Inv X pins σ H s):∀ b∈wu X.stack,b∈X.env.locals::X.fs:=fun b hb=>by
 rcases I.ok.Ht with e | ⟨e,hf⟩
 ·rw [e] at hb;exact List.mem_cons_of_mem _ hb
 ·rw [e] at hb
  unfold wu at hb
  rw [List.filterMap_cons,hf] at hb
  exact hb
theorem Inv.o_ (I:Inv X pins σ H s):∀ b∈wu X.stack,H b=none:=fun b hb=>by
 rcases List.mem_cons.mp (I.nM b hb) with e | hb
 ·rw [e];exact I.free
 ·obtain ⟨_,o,ho,_⟩:=I.ok.lW.mem hb
  exact I.base.free b o ho (I.ok.Dl b hb) fun z=>I.ok.tF b z hb
theorem Inv.step {g':Array GenState} {t':Nat} {d':Drawn} {ch:List Addr} (I:Inv X pins σ H s)
  (hch:∀ b∈ch,(b∈X.ex\/X.s₀.heap.objs.size<=b)/\b≠X.env.locals/\(∀ x c,X.env.cells.lookup x=some c->c≠b)/\∀ p∈X.pn++pins,p.1≠b)
  (keep:∀ b o,b≠X.env.locals->b ∉ X.fs->b ∉ ch->s.heap.get? b=some o->H b=none->h'.get? b=some o)
  (slot:∀ b o,b≠X.env.locals->b∈X.fs->b ∉ ch->s.heap.get? b=some o->H b=none->∃ sl,h'.get? b=some { o with slots:=sl }) (free:∀ b o,b ∉ ch->s.heap.get? b=some o->H b=none->H' b=none)
  (there:∀ b o,b ∉ ch->s.heap.get? b=some o->∃ o',h'.get? b=some o')
  (oJ:∀ b xs,H b=some (.tup xs)->H' b=some (.tup xs)) (lh:∀ b o u,H b=some (.rK o u)->H' b=some (.rK o u)) (oI:∀ b ps,H b=some (.Fp ps)->∃ more,H' b=some (.Fp (ps++more)))
  (ns:∀ m,s.heap.Ns X.env.locals m->h'.Ns X.env.locals m) (a_:mV X.prog X.w H' h') (hg:AllBare g') :
  Inv X pins σ H' { s with heap:=h',gens:=g',drawn:=d',toks:=t' }:=by
 have neL:∀ b o,X.s₀.heap.get? b=some o->b≠X.env.locals:=fun b o e=>Nat.ne_of_lt (Nat.lt_of_lt_of_le (Heap.lt_size e) I.ok.above)
 have neC:∀ b o,X.s₀.heap.get? b=some o->b ∉ X.ex->b ∉ ch:=fun b o e hx hb=>by
  rcases (hch b hb).1 with z | z
  ·exact hx z
  ·exact absurd (Nat.lt_of_lt_of_le (Heap.lt_size e) z) (Nat.lt_irrefl _)
 have cellK:∀ x c,X.env.cells.lookup x=some c->∀ v,s.heap.IsCell c v->h'.IsCell c v:=fun x c e v ⟨o,ho,hd⟩=>by
  have nch:c ∉ ch:=fun z=>(hch c z).2.2.1 x c e rfl
  by_cases hc:c∈X.fs
  ·obtain ⟨sl,q⟩:=slot c o (I.Aw x c e) hc nch ho (I.fx x c e)
   exact ⟨_,q,hd⟩
  ·exact ⟨o,keep c o (I.Aw x c e) hc nch ho (I.fx x c e),hd⟩
 refine ⟨I.ok,I.os,hg,⟨fun b o e n hb hx=>?_,fun b o e n hb hx=>?_,fun b o e n hx=>?_,fun b o e hx=>?_,fun b xs e=>oJ b xs (I.base.oJ b xs e),fun b o xs e=>lh b o xs (I.base.lh b o xs e),fun b ps e=>?_⟩,?_,fun x c e=>?_,?_,fun x c e=>?_,fun p hp=>?_,a_,I.len⟩
 ·exact keep b o (neL b o e) hb (neC b o e hx) (I.base.keep b o e n hb hx) (I.base.free b o e n hx)
 ·obtain ⟨sl,e1⟩:=I.base.slot b o e n hb hx
  obtain ⟨sl',e2⟩:=slot b _ (neL b o e) hb (neC b o e hx) e1 (I.base.free b o e n hx)
  exact ⟨sl',e2⟩
 ·obtain ⟨o',e1⟩:=I.base.there b o e hx
  exact free b o' (neC b o e hx) e1 (I.base.free b o e n hx)
 ·obtain ⟨o',e1⟩:=I.base.there b o e hx
  exact there b o' (neC b o e hx) e1
 ·obtain ⟨m1,e1⟩:=I.base.oI b ps e
  obtain ⟨m2,e2⟩:=oI b _ e1
  exact ⟨m1++m2,by rw [e2,Array.append_assoc]⟩
 ·obtain ⟨m,hn,hl⟩:=I.loc
  refine ⟨m,ns m hn,fun i x v e1 e2 e3=>?_⟩
  obtain ⟨u,r,l⟩:=hl i x v e1 e2 e3
  refine ⟨u,r,?_⟩
  rcases l with l | ⟨k,c,e,z⟩
  ·exact .inl l
  ·exact .inr ⟨k,c,e,cellK x c e _ z⟩
 ·obtain ⟨v,z⟩:=I.cell x c e
  exact ⟨v,cellK x c e v z⟩
 ·obtain ⟨m,⟨o,_,_,ho,_⟩,_⟩:=I.loc
  exact free _ o (fun z=>(hch _ z).2.1 rfl) ho I.free
 ·obtain ⟨v,o,ho,hd⟩:=I.cell x c e
  exact free c o (fun z=>(hch c z).2.2.1 x c e rfl) ho (I.fx x c e)
 ·obtain ⟨e,n,ne,nf,d⟩:=I.pin p hp
  have nch:p.1 ∉ ch:=fun z=>(hch p.1 z).2.2.2 p hp rfl
  exact ⟨keep p.1 p.2 ne nf nch e n,free p.1 p.2 nch e n,ne,nf,d⟩
theorem Inv.un {t':Nat} (I:Inv X pins σ H s) (u:Un X.fs [] H H' s.heap h') (a_:mV X.prog X.w H' h'):Inv X pins σ H' { s with heap:=h',toks:=t' }:=by
 obtain ⟨m,⟨o,es,ep,ho,r⟩,_⟩:=id I.loc
 obtain ⟨sl,hL⟩:=u.any ho I.free (by simp)
 exact I.step (g':=s.gens) (d':=s.drawn) (ch:=[]) (fun _ z=>nomatch z) (fun b o _ hb _ e n=>u.keep b o e n hb (by simp)) (fun b o _ hb _ e n=>u.slot b o e n hb (by simp)) (fun b o _ e n=>u.free b o e n (by simp)) (fun b o _ e=>u.there b o e (by simp)) u.oJ u.lh u.oI (fun m' hm=>by
  obtain ⟨o',es',ep',ho',r'⟩:=hm
  rw [ho] at ho';cases ho'
  exact ⟨_,es',ep',hL,r'⟩) a_ I.bare
theorem Inv.call {g':Array GenState} {t':Nat} {d':Drawn} {ch:List Addr} (I:Inv X pins σ H s) (u:Un (wu X.stack) ch H H' s.heap h') (a_:mV X.prog X.w H' h') (hg:AllBare g')
  (hch:∀ b∈ch,(b∈X.ex\/X.s₀.heap.objs.size<=b)/\b≠X.env.locals/\(∀ x c,X.env.cells.lookup x=some c->c≠b)/\∀ p∈X.pn++pins,p.1≠b) :
  Inv X pins σ H' { s with heap:=h',gens:=g',drawn:=d',toks:=t' }:=by
 obtain ⟨m,⟨o,es,ep,ho,r⟩,_⟩:=id I.loc
 obtain ⟨sl,hL⟩:=u.any ho I.free fun z=>(hch _ z).2.1 rfl
 exact I.step (ch:=ch) hch (fun b o hL hb hc e n=>u.keep b o e n (fun z=>(List.mem_cons.mp (I.nM b z)).elim hL hb) hc) (fun b o _ _ hc e n=>u.any e n hc) (fun b o hc e n=>u.free b o e n hc) (fun b o hc e=>u.there b o e hc) u.oJ u.lh u.oI (fun m' hm=>by
  obtain ⟨o',es',ep',ho',r'⟩:=hm
  rw [ho] at ho';cases ho'
  exact ⟨_,es',ep',hL,r'⟩) a_ hg
theorem Inv.turned {t':Nat} {it:Addr} (I:Inv X pins σ H s) (k:∀ b o,b≠it->s.heap.get? b=some o->h'.get? b=some o) (hn:H it=none) (hL:it≠X.env.locals)
  (h1:it∈X.ex\/X.s₀.heap.objs.size<=it) (h2:∀ x c,X.env.cells.lookup x=some c->c≠it) (h3:∀ p∈X.pn++pins,p.1≠it):Inv X pins σ H { s with heap:=h',toks:=t' }:=by
 have nit:∀ b u,H b=some u->b≠it:=fun b u e z=>by rw [z,hn] at e;cases e
 refine I.step (g':=s.gens) (d':=s.drawn) (ch:=[it]) (fun b hb=>?_) (fun b o _ _ hc e _=>k b o (fun z=>hc (by simp [z])) e) (fun b o _ _ hc e _=>⟨o.slots,k b o (fun z=>hc (by simp [z])) e⟩) (fun _ _ _ _ n=>n)
  (fun b o hc e=>⟨o,k b o (fun z=>hc (by simp [z])) e⟩) (fun _ _ e=>e) (fun _ _ _ e=>e) (fun b ps e=>⟨#[],by rw [e];simp⟩) (fun m hm=>?_) (fun b u e=>?_) I.bare
 ·have e:b=it:=by simpa using hb
  subst e
  exact ⟨h1,hL,h2,h3⟩
 ·obtain ⟨o,es,ep,ho,r⟩:=hm
  exact ⟨o,es,ep,k _ o (Ne.symm hL) ho,r⟩
 ·refine (I.a_ b u e).lN (fun c v hc q=>k c v ?_ q) (fun _ q=>q) fun _ _ q=>q
  rcases hc with z | z
  ·rw [z];exact nit b u e
  ·exact nit c _ z
theorem Inv.tok (I:Inv X pins σ H s) (t:Nat):Inv X pins σ H { s with toks:=t }:=I.un (h':=s.heap) (t':=t) Un.refl I.a_
theorem Inv.kept {t':Nat} (I:Inv X pins σ H s) (k:∀ b u,s.heap.get? b=some u->h'.get? b=some u):Inv X pins σ H { s with heap:=h',toks:=t' }:=I.un (Un.kept k) (I.a_.kept k)
theorem Inv.laid {a:Addr} {o:HO} {t':Nat} (I:Inv X pins σ H s) (k:∀ b u,s.heap.get? b=some u->h'.get? b=some u) (hp:s.heap.objs.size<=a) (new:bP X.prog X.w (upd H a o) h' a o) :
  Inv X pins σ (upd H a o) { s with heap:=h',toks:=t' }:=I.un (Un.laid k hp (I.a_.fresh hp)) (I.a_.laid k hp new)
theorem Inv.write {x e:Addr} {o:HO} {t':Nat} (I:Inv X pins σ H s) (mu:Ko (H x)) (he:e=x\/H e=some (.own x)) (k:∀ b u,b≠e->s.heap.get? b=some u->h'.get? b=some u) (heo:∃ u,h'.get? e=some u)
  (new:bP X.prog X.w (upd H x o) h' x o):Inv X pins σ (upd H x o) { s with heap:=h',toks:=t' }:=I.un (Un.write mu he k heo) (I.a_.write mu he k heo new)
theorem Inv.xX {pins':List (Addr×Obj)} (I:Inv X pins σ H s) (h:∀ p∈pins',s.heap.get? p.1=some p.2/\H p.1=none/\p.1≠X.env.locals/\p.1 ∉ X.fs/\∀ v,p.2.data≠.cell v):Inv X pins' σ H s :=
 ⟨I.ok,I.os,I.bare,I.base,I.loc,I.cell,I.free,I.fx,fun p hp=>(List.mem_append.mp hp).elim (fun z=>I.pin p (List.mem_append_left _ z)) (h p),I.a_,I.len⟩
theorem qP {N:List Str} (hN:N.Nodup) {i j:Nat} {x:Str} (a:N[i]?=some x) (b:N[j]?=some x):i=j:=by
 obtain ⟨h1,e1⟩:=List.getElem?_eq_some_iff.mp a
 obtain ⟨h2,e2⟩:=List.getElem?_eq_some_iff.mp b
 exact (List.getElem_inj hN).mp (e1.trans e2.symm)
theorem r9 {M:Model} {A:Around} {E:Value->Shared->Prop} {i:Nat} {x:Str} {v:V} {u:Value} {Q:Unit->Shared->Prop} (I:Inv X pins σ H s) (hN:X.N.Nodup) (hi:X.N[i]?=some x) (hx:Loc X.env.scope x) (r:RelV v u)
  (h:∀ s',Inv X pins (σ.set i (some v)) H s'->(∃ a,Heap.SameBut a s.heap s'.heap/\(a=X.env.locals\/X.env.cells.lookup x=some a))->Q () s') (hf:X.fn x=true\/X.env.scope.names.lookup x=some .local:=by first | exact .inl rfl | exact .inr rfl | assumption):wpAny M A (storeName X.env x u) Q E s:=by
 obtain ⟨m,hn,hl⟩:=id I.loc
 have hcls:(X.env.scope.kind==.class||(X.env.scope.kind==.module&&X.env.locals != X.env.globals))=false:=by rw [I.ok.kind];rfl
 have hiσ:i<σ.length:=by rw [I.len];exact (List.getElem?_eq_some_iff.mp hi).1
 have Aw:=I.Aw
 have tracked:∀ {a:Addr} {h':Heap},(∃ o,s.heap.get? a=some o/\H a=none)->Heap.SameBut a s.heap h'->mV X.prog X.w H h':=fun {a h'} ha hs b ob e=>by
  obtain ⟨_,_,hfree⟩:=ha
  refine (I.a_ b ob e).lN (fun c w' hc q=>(hs.2 c ?_).trans q) (fun _ q=>q) fun _ _ q=>q
  rintro rfl
  rcases hc with rfl | hc
  ·rw [hfree] at e;cases e
  ·rw [hfree] at hc;cases hc
 rcases hx with hk | hk
 ·refine wpAny_storeName_local hk hn (fun h' hn' hs=>?_) hcls
  obtain ⟨oL,_,_,hoL,_⟩:=id hn
  refine h _ ⟨I.ok,I.os,I.bare,⟨fun b o e n hb hx=>?_,fun b o e n hb hx=>?_,I.base.free,fun b o e hx=>?_,I.base.oJ,I.base.lh,I.base.oI⟩,⟨_,hn',fun j y v' e1 e2 e3=>?_⟩,fun y c e=>?_,I.free,I.fx,fun p hp=>?_,tracked ⟨oL,hoL,I.free⟩ hs,by simpa using I.len⟩ ⟨_,hs,.inl rfl⟩
  ·exact (hs.2 b (Nat.ne_of_lt (Nat.lt_of_lt_of_le (Heap.lt_size e) I.ok.above))).trans (I.base.keep b o e n hb hx)
  ·obtain ⟨sl,e1⟩:=I.base.slot b o e n hb hx
   exact ⟨sl,(hs.2 b (Nat.ne_of_lt (Nat.lt_of_lt_of_le (Heap.lt_size e) I.ok.above))).trans e1⟩
  ·obtain ⟨o',e1⟩:=I.base.there b o e hx
   exact ⟨o',(hs.2 b (Nat.ne_of_lt (Nat.lt_of_lt_of_le (Heap.lt_size e) I.ok.above))).trans e1⟩
  ·by_cases hj:j=i
   ·subst hj
    rw [hi] at e1;cases e1
    rw [List.getElem?_set_self hiσ] at e2
    cases e2
    exact ⟨u,r,.inl ⟨hk,by simp⟩⟩
   ·rw [List.getElem?_set_ne (Ne.symm hj)] at e2
    obtain ⟨u',r',q⟩:=hl j y v' e1 e2 e3
    refine ⟨u',r',?_⟩
    rcases q with ⟨k,e⟩ | ⟨k,c,e,z⟩
    ·refine .inl ⟨k,?_⟩
     have:y≠x:=fun e=>hj (qP hN e1 (e▸hi))
     simp [this,e]
    ·exact .inr ⟨k,c,e,z.sameBut hs (Aw y c e)⟩
  ·obtain ⟨w',z⟩:=I.cell y c e
   exact ⟨w',z.sameBut hs (Aw y c e)⟩
  ·obtain ⟨e,n,ne,nf,d⟩:=I.pin p hp
   exact ⟨(hs.2 p.1 ne).trans e,n,ne,nf,d⟩
 ·have hfn:X.fn x=true:=by
   rcases hf with z | z
   ·exact z
   ·rw [z] at hk;cases hk
  obtain ⟨c,hc⟩:=I.ok.has x (.inl hk)
  obtain ⟨w',z⟩:=I.cell x c hc
  refine wpAny_storeName_cell I.ok.kind hk hc z (fun h' hc' hs=>?_)
  obtain ⟨oc,hoc,hocd⟩:=id z
  refine h { s with heap:=h' } ⟨I.ok,I.os,I.bare,⟨fun b o e n hb hx=>?_,fun b o e n hb hx=>?_,I.base.free,fun b o e hx=>?_,I.base.oJ,I.base.lh,I.base.oI⟩,⟨m,hn.sameBut hs (Ne.symm (Aw x c hc)),fun j y v' e1 e2 e3=>?_⟩,fun y c' e=>?_,I.free,I.fx,fun p hp=>?_,tracked ⟨oc,hoc,I.fx x c hc⟩ hs,by simpa using I.len⟩ ⟨c,hs,.inr hc⟩
  ·exact (hs.2 b (Nat.ne_of_lt (Nat.lt_of_lt_of_le (Heap.lt_size e) (I.ok.Fe x c hfn hc)))).trans (I.base.keep b o e n hb hx)
  ·obtain ⟨sl,e1⟩:=I.base.slot b o e n hb hx
   exact ⟨sl,(hs.2 b (Nat.ne_of_lt (Nat.lt_of_lt_of_le (Heap.lt_size e) (I.ok.Fe x c hfn hc)))).trans e1⟩
  ·obtain ⟨o',e1⟩:=I.base.there b o e hx
   exact ⟨o',(hs.2 b (Nat.ne_of_lt (Nat.lt_of_lt_of_le (Heap.lt_size e) (I.ok.Fe x c hfn hc)))).trans e1⟩
  ·by_cases hj:j=i
   ·subst hj
    rw [hi] at e1;cases e1
    rw [List.getElem?_set_self hiσ] at e2
    cases e2
    exact ⟨u,r,.inr ⟨.inl hk,c,hc,hc'⟩⟩
   ·rw [List.getElem?_set_ne (Ne.symm hj)] at e2
    obtain ⟨u',r',q⟩:=hl j y v' e1 e2 e3
    refine ⟨u',r',?_⟩
    rcases q with q | ⟨k,c',e,z'⟩
    ·exact .inl q
    ·refine .inr ⟨k,c',e,z'.sameBut hs ?_⟩
     rintro rfl
     exact hj (qP hN e1 (I.ok.inj _ _ _ e hc▸hi))
  ·by_cases hcc:c'=c
   ·subst hcc;exact ⟨_,hc'⟩
   ·obtain ⟨w2,z2⟩:=I.cell y c' e
    exact ⟨w2,z2.sameBut hs hcc⟩
  ·obtain ⟨e,n,ne,nf,d⟩:=I.pin p hp
   refine ⟨(hs.2 p.1 ?_).trans e,n,ne,nf,d⟩
   intro q
   rw [q,hoc] at e
   have q':oc=p.2:=Option.some.inj e
   exact d w' (by rw [← q'];exact hocd)
theorem j5 {M:Model} {A:Around} {E:Value->Shared->Prop} {i:Nat} {x:Str} {v:V} {u:Value} {Q:Unit->Shared->Prop} (I:Inv X pins σ H s) (hN:X.N.Nodup) (hi:X.N[i]?=some x) (hx:Loc X.env.scope x) (r:RelV v u)
  (h:∀ s',Inv X pins (σ.set i (some v)) H s'->Q () s') (hf:X.fn x=true\/X.env.scope.names.lookup x=some .local:=by first | exact .inl rfl | exact .inr rfl | assumption):wpAny M A (storeName X.env x u) Q E s :=
 r9 I hN hi hx r (fun s' I' _=>h s' I') hf
theorem Inv.x_ {s':Shared} {ch:List Addr} (I:Inv X pins σ H s) (ho:s'.os=s.os) (u:Un (wu X.stack) ch H H' s.heap s'.heap) (a_:mV X.prog X.w H' s'.heap) (hg:AllBare s'.gens)
  (hch:∀ b∈ch,(b∈X.ex\/X.s₀.heap.objs.size<=b)/\b≠X.env.locals/\(∀ x c,X.env.cells.lookup x=some c->c≠b)/\∀ p∈X.pn++pins,p.1≠b):Inv X pins σ H' s':=by
 obtain ⟨h',g',d',t',o'⟩:=s'
 have e:o'=s.os:=ho
 subst e
 exact I.call (g':=g') (t':=t') (d':=d') u a_ hg hch
end
abbrev XK:=Value->Option Addr->Hp->Prop
abbrev St:=List (Option V)
abbrev VK:=V->Hp->Prop
abbrev TE:=St->Hp->VK->Prop
abbrev TT:=St->Hp->(Bool->Hp->Prop)->Prop
abbrev TA:=St->Hp->(List V->Hp->Prop)->Prop
structure Ends where
 nx:St->Hp->Prop
 rt:VK
 bk:St->Hp->Prop:=fun _ _=>False
 ct:St->Hp->Prop:=fun _ _=>False
abbrev TS:=Ends->St->Hp->Prop
def EP (X:Cx) (pins:List (Addr×Obj)) (σ:St) (Q:VK) (u:Value) (s':Shared):Prop:=∃ v H',Inv X pins σ H' s'/\RelV v u/\Q v H'
def TP (X:Cx) (pins:List (Addr×Obj)) (σ:St) (Q:Bool->Hp->Prop) (b:Bool) (s':Shared):Prop:=∃ H',Inv X pins σ H' s'/\Q b H'
def AP (X:Cx) (pins:List (Addr×Obj)) (σ:St) (Q:List V->Hp->Prop) (us:List Value) (s':Shared):Prop:=∃ vs H',Inv X pins σ H' s'/\Vals vs us/\Q vs H'
def SP (X:Cx) (pins:List (Addr×Obj)) (D:Ends) (f:Flow) (s':Shared):Prop :=
 match f with
 | .next=>∃ σ' H',Inv X pins σ' H' s'/\D.nx σ' H'
 | .brk=>∃ σ' H',Inv X pins σ' H' s'/\D.bk σ' H'
 | .cont=>∃ σ' H',Inv X pins σ' H' s'/\D.ct σ' H'
 | .ret u=>∃ v σ' H',Inv X pins σ' H' s'/\RelV v u/\D.rt v H'
def PE (X:Cx) (e:Expr) (t:TE):Prop :=
 ∀ (pins:List (Addr×Obj)) (s:Shared) (σ:St) (H:Hp) (Q:VK),Inv X pins σ H s->t σ H Q->wpAny (model X.prog X.w) X.A (eval e X.env) (EP X pins σ Q) X.xe s
def PT (X:Cx) (e:Expr) (t:TT):Prop :=
 ∀ (pins:List (Addr×Obj)) (s:Shared) (σ:St) (H:Hp) (Q:Bool->Hp->Prop),Inv X pins σ H s->t σ H Q->wpAny (model X.prog X.w) X.A (isTrue e X.env (eval e X.env)) (TP X pins σ Q) X.xe s
def PW (X:Cx) (e:Expr) (t:TT):Prop :=
 ∀ (whole:Sem Value) (pins:List (Addr×Obj)) (s:Shared) (σ:St) (H:Hp) (Q:Bool->Hp->Prop),Inv X pins σ H s->t σ H Q->wpAny (model X.prog X.w) X.A (isTrue e X.env whole) (TP X pins σ Q) X.xe s
theorem PW.pt {X:Cx} {e:Expr} {t:TT} (h:PW X e t):PT X e t:=h _
def PA (X:Cx) (es:List Expr) (t:TA):Prop :=
 ∀ (pos:Pos) (pins:List (Addr×Obj)) (s:Shared) (σ:St) (H:Hp) (Q:List V->Hp->Prop),Inv X pins σ H s->t σ H Q->wpAny (model X.prog X.w) X.A (spliced (backTo pos (starEach es X.env))) (AP X pins σ Q) X.xe s
def PS (X:Cx) (st:Stmt) (t:TS):Prop :=
 ∀ (pins:List (Addr×Obj)) (s:Shared) (σ:St) (H:Hp) (D:Ends),Inv X pins σ H s->t D σ H->wpAny (model X.prog X.w) X.A (exec st X.env) (SP X pins D) X.xe s
def lZ (X:Cx) (st:List Stmt) (t:TS):Prop :=
 ∀ (pins:List (Addr×Obj)) (s:Shared) (σ:St) (H:Hp) (D:Ends),Inv X pins σ H s->t D σ H->wpAny (model X.prog X.w) X.A (execs st X.env) (SP X pins D) X.xe s
theorem bJ {α:Type} {t:Sem α} {Q Q':α->Shared->Prop} {M:Model} {A:Around} {E:Value->Shared->Prop} {s:Shared} (h:wpAny M A t Q E s) (hQ:∀ a s,Q a s->Q' a s):wpAny M A t Q' E s:=wpAny_mono h hQ fun _ _ x=>x
end L2
namespace L2
open PySem PySem.Spec PyProof.Rows
section
variable {X:Cx}
def OU (i:Nat):TE:=fun σ H Q=>∃ v,σ[i]?=some (some v)/\Q v H
def tC (v:V):TE:=fun _ H Q=>Q v H
theorem mX {i:Nat} {x:Str} {pos:Pos} (hN:X.N[i]?=some x) (hv:BB X.env.scope x) (hd:(x==("__debug__" : Str))=false:=by decide) (hcd:(x==("__classdict__" : Str))=false:=by decide):PE X (.Name x pos) (OU i):=by
 intro pins s σ H Q I h
 obtain ⟨v,e,h⟩:=h
 obtain ⟨m,hn,hl⟩:=I.loc
 obtain ⟨u,r,l⟩:=hl i x v hN e hv
 have fin:EP X pins σ Q u s:=⟨v,H,I,r,h⟩
 rcases l with ⟨hk,hm⟩ | ⟨hk,c,hc,hcell⟩
 ·exact wpAny_Name (wpAny_loadName_local I.ok.kind hk hn hm fin) hd
 ·rcases hk with hk | hk
  ·exact wpAny_Name (wpAny_loadName_cell I.ok.kind hk hc hcell fin) hd
  ·exact wpAny_Name (wpAny_loadName_free I.ok.kind hk hc hcell fin hcd) hd
theorem G7 {i j pos}:PE X (.Constant (.int i) j pos) (tC (.int i)):=fun _ _ _ H _ I h=>wpAny_Constant_int ⟨.int i,H,I.tok _,⟨_,rfl⟩,h⟩
theorem JK {b j pos}:PE X (.Constant (.bool b) j pos) (tC (.bl b)):=fun _ _ _ H _ I h=>Constant_bool ⟨.bl b,H,I,rfl,h⟩
theorem GG {j pos}:PE X (.Constant .none j pos) (tC .cS):=fun _ _ _ H _ I h=>Constant_none ⟨.cS,H,I,rfl,h⟩
theorem FK {x j pos}:PE X (.Constant (.str x) j pos) (tC (.str x)):=fun _ _ _ H _ I h=>Calls.Constant_str ⟨.str x,H,I.tok _,⟨_,rfl⟩,h⟩
def Gl (X:Cx) (x:Str):Prop:=X.env.kindOf x=some .globalImplicit
theorem jj {E:Value->Shared->Prop} {pins:List (Addr×Obj)} {s:Shared} {σ:St} {H:Hp} {x:Str} {u:Value} {pos:Pos} {Q:Value->Shared->Prop} (I:Inv X pins σ H s) (hg:Gl X x) (hm:X.mg x=some u) (h:Q u s)
  (hd:(x==("__debug__" : Str))=false:=by decide):wpAny (model X.prog X.w) X.A (eval (.Name x pos) X.env) Q E s :=
 Calls.Name_function_global I.ok.kind hg (Calls.loadGlobal_global (by rw [I.ok.glob];exact I.mod.glob.keeps I.bk) hm h) hd
theorem i5 {E:Value->Shared->Prop} {pins:List (Addr×Obj)} {s:Shared} {σ:St} {H:Hp} {x:Str} {u:Value} {pos:Pos} {Q:Value->Shared->Prop} (I:Inv X pins σ H s) (hg:Gl X x) (hm:X.mg x=none) (hv:bootBuiltins x=some u) (h:Q u s)
  (hn:x ≠ "__name__" := by decide) (hd:(x==("__debug__" : Str))=false:=by decide):wpAny (model X.prog X.w) X.A (eval (.Name x pos) X.env) Q E s:=by
 obtain ⟨mb,h1,h2⟩:=I.mod.blt
 exact Calls.Name_function_global I.ok.kind hg (Calls.loadGlobal_builtin (by rw [I.ok.glob];exact I.mod.glob.keeps I.bk) hm (by rw [I.ok.blt];exact h1.keeps I.bk) ((h2 x hn).trans hv) h) hd
theorem EG {x:Str} {v:V} {u:Value} {pos:Pos} (hg:Gl X x) (hm:X.mg x=some u) (r:RelV v u) (hd:(x==("__debug__" : Str))=false:=by decide):PE X (.Name x pos) (tC v) :=
 fun _ _ _ H _ I h=>jj I hg hm ⟨v,H,I,r,h⟩ hd
theorem fg {x:Str} {v:V} {u:Value} {pos:Pos} (hg:Gl X x) (hm:X.mg x=none) (hv:bootBuiltins x=some u) (r:RelV v u) (hn:x ≠ "__name__" := by decide) (hd:(x==("__debug__" : Str))=false:=by decide):PE X (.Name x pos) (tC v) :=
 fun _ _ _ H _ I h=>i5 I hg hm hv ⟨v,H,I,r,h⟩ hn hd
variable {a b:Expr} {ta tb:TE} {pos:Pos}
def tB (t:TE):TT:=fun σ H Q=>t σ H fun x H1=>∃ c,x=.bl c/\Q c H1
theorem Ih {e:Expr} {t:TE} (h:PE X e t) (he:∀ whole,isTrue e X.env whole=(do let v ← whole;standAt e.pos;holding [v] (truthy v)):=by intro _;rfl):PT X e (tB t):=by
 intro pins s σ H Q I hw
 refine isTrue_plain (bJ (h pins s σ H _ I hw) fun v s1 ⟨x,H1,I1,r1,q1⟩=>?_) (he _)
 obtain ⟨d,rfl,q⟩:=q1
 cases r1
 exact wpAny_truthy_bool ⟨H1,I1,q⟩
variable {tA tB':TT} {rest:List Expr}
def N4 (t u:TT):TT:=fun σ H Q=>t σ H fun c H1=>if c=true then u σ H1 Q else Q false H1
def QT (t u:TT):TT:=fun σ H Q=>t σ H fun c H1=>if c=true then Q true H1 else u σ H1 Q
def Ot (t:TT):TT:=fun σ H Q=>t σ H fun c H1=>Q (!c) H1
theorem pw_and1 (ha:PT X a tA):PW X (.BoolOp .And [a] pos) tA:=by
 intro wh pins s σ H Q I h
 refine isTrue_and (bJ (ha pins s σ H Q I h) fun c s1 e=>?_)
 cases c with
 | true=>exact isTrue_and_nil e
 | false=>exact e
theorem pw_or1 (ha:PT X a tA):PW X (.BoolOp .Or [a] pos) tA:=by
 intro wh pins s σ H Q I h
 refine isTrue_or (bJ (ha pins s σ H Q I h) fun c s1 e=>?_)
 cases c with
 | false=>exact isTrue_or_nil e
 | true=>exact e
theorem pw_and (ha:PT X a tA) (hb:PW X (.BoolOp .And (b::rest) pos) tB'):PW X (.BoolOp .And (a::b::rest) pos) (N4 tA tB'):=by
 intro wh pins s σ H Q I h
 refine isTrue_and (bJ (ha pins s σ H _ I h) fun c s1 ⟨H1,I1,q1⟩=>?_)
 cases c with
 | true=>exact hb wh pins s1 σ H1 Q I1 q1
 | false=>exact ⟨H1,I1,q1⟩
theorem pw_or (ha:PT X a tA) (hb:PW X (.BoolOp .Or (b::rest) pos) tB'):PW X (.BoolOp .Or (a::b::rest) pos) (QT tA tB'):=by
 intro wh pins s σ H Q I h
 refine isTrue_or (bJ (ha pins s σ H _ I h) fun c s1 ⟨H1,I1,q1⟩=>?_)
 cases c with
 | true=>exact ⟨H1,I1,q1⟩
 | false=>exact hb wh pins s1 σ H1 Q I1 q1
theorem Im (ha:PT X a tA):PT X (.UnaryOp .Not a pos) (Ot tA):=by
 intro pins s σ H Q I h
 exact isTrue_not (ha pins s σ H (fun c H1=>Q (!c) H1) I h)
def Jh (ta tb:TE):TE:=fun σ H Q=>ta σ H fun x H1=>∃ c,x=.bl c/\if c=true then tb σ H1 Q else Q (.bl false) H1
def I0 (ta:TE):TE:=fun σ H Q=>ta σ H fun x H1=>∃ c,x=.bl c/\Q (.bl (!c)) H1
theorem CY {op} {t:TE} (h:PE X a t):PE X (.BoolOp op [a] pos) t:=fun pins s σ H Q I hw=>BoolOp_one (h pins s σ H Q I hw)
theorem Ik (ha:PE X a ta) (hb:PE X (.BoolOp .And (b::rest) pos) tb):PE X (.BoolOp .And (a::b::rest) pos) (Jh ta tb):=by
 intro pins s σ H Q I h
 refine BoolOp_and (bJ (ha pins s σ H _ I h) fun v s1 ⟨x,H1,I1,r1,q1⟩=>?_)
 obtain ⟨c,rfl,q1⟩:=q1
 cases r1
 refine wpAny_truthy_bool ?_
 cases c with
 | true=>exact hb pins s1 σ H1 Q I1 q1
 | false=>exact ⟨.bl false,H1,I1,rfl,q1⟩
theorem GL (ha:PE X a ta):PE X (.UnaryOp .Not a pos) (I0 ta):=by
 intro pins s σ H Q I h
 refine UnaryOp_ (bJ (ha pins s σ H _ I h) fun v s1 ⟨x,H1,I1,r1,q1⟩=>?_)
 obtain ⟨c,rfl,q1⟩:=q1
 cases r1
 exact not_of (wpAny_truthy_bool ⟨.bl (!c),H1,I1,rfl,q1⟩)
def Rp (t:TT) (ta tb:TE):TE:=fun σ H Q=>t σ H fun c H1=>if c=true then ta σ H1 Q else tb σ H1 Q
theorem AH {c:Expr} (hc:PT X c tA) (ha:PE X a ta) (hb:PE X b tb):PE X (.IfExp c a b pos) (Rp tA ta tb):=by
 intro pins s σ H Q I h
 refine wpAny_IfExp (bJ (hc pins s σ H _ I h) fun d s1 ⟨H1,I1,q1⟩=>?_)
 cases d with
 | true=>exact ha pins s1 σ H1 Q I1 q1
 | false=>exact hb pins s1 σ H1 Q I1 q1
end
end L2
namespace L2
open PySem PySem.Spec PyProof.Rows
def i4 (K:PySem.W.Frag) (H:Hp) (a:Addr) (xs:List V):Prop :=
 Rd H a (.lst xs) ∨
  ∃ (o:Obj) (its:Array Value) (n:Nat),K.lookup a=some o/\o.cls=.type "list" /\ o.dict=none/\o.data=.seq its n/\its.size<=sizeLine/\Vals xs its.toList
def gT (K:PySem.W.Frag) (H:Hp) (a:Addr) (xs:List V):Prop :=
 Rd H a (.tup xs) ∨
  ∃ (o:Obj) (its:Array Value) (n:Nat),K.lookup a=some o/\o.cls=.type "tuple" /\ o.data=.seq its n/\its.size<=sizeLine/\Vals xs its.toList
def Kt:Value->Option V
 | .none=>some .cS
 | .bool b=>some (.bl b)
 | .int i _=>some (.int i)
 | .str x _=>some (.str x)
 | .bytes b _=>some (.byt b)
 | .float b _=>some (.FG b)
 | .ref a=>some (.ref a)
 | .type n=>some (.ty n)
 | _=>none
theorem RelV.abs {x:V} {u:Value} (r:RelV x u):Kt u=some x:=by
 cases x with
 | cS=>cases r;rfl
 | bl _=>cases r;rfl
 | int _=>obtain ⟨t,rfl⟩:=r;rfl
 | str _=>obtain ⟨t,rfl⟩:=r;rfl
 | byt _=>obtain ⟨t,rfl⟩:=r;rfl
 | FG _=>obtain ⟨t,rfl⟩:=r;rfl
 | ref _=>cases r;rfl
 | ty _=>cases r;rfl
theorem RelV.inj {x y:V} {u:Value} (r:RelV x u) (q:RelV y u):x=y:=Option.some.inj (r.abs.symm.trans q.abs)
theorem Vals.inj:∀ {xs ys:List V} {us:List Value},Vals xs us->Vals ys us->xs=ys
 | _,_,_,.nil,.nil=>rfl
 | _,_,_,.cons r t,.cons r' t'=>by rw [r.inj r',Vals.inj t t']
section
variable {X:Cx} {pins:List (Addr×Obj)} {σ:St} {H:Hp} {s:Shared} {a:Addr} {xs ys:List V}
theorem i4.of {K:PySem.W.Frag} (h:H a=some (.lst xs)):i4 K H a xs:=.inl (.inl h)
theorem gT.of {K:PySem.W.Frag} (h:H a=some (.tup xs)):gT K H a xs:=.inl (.inl h)
theorem Inv.list (I:Inv X pins σ H s) (h:i4 X.K H a xs):∃ its:List Value,Vals xs its/\PlainL s.heap a its.toArray/\xs.length<=sizeLine:=by
 rcases h with h | ⟨o,its,n,hk,hc,hd,hs,hz,r⟩
 ·obtain ⟨z,its,n,r,e⟩:=h.ok I.a_
  exact ⟨its,r,⟨_,n,e,rfl,rfl,rfl⟩,z⟩
 ·refine ⟨its.toList,r,⟨o,n,I.jx a o hk,hc,hd,by simpa using hs⟩,?_⟩
  have e:=r.length
  simp only [Array.length_toList] at e
  omega
theorem Inv.tuple (I:Inv X pins σ H s) (h:gT X.K H a xs):∃ its:List Value,Vals xs its/\IsTup s.heap a its.toArray/\xs.length<=sizeLine:=by
 rcases h with h | ⟨o,its,n,hk,hc,hs,hz,r⟩
 ·obtain ⟨z,its,r,p⟩:=h.ok I.a_
  exact ⟨its,r,p,z⟩
 ·refine ⟨its.toList,r,⟨o,I.jx a o hk,hc,n,by simpa using hs⟩,?_⟩
  have e:=r.length
  simp only [Array.length_toList] at e
  omega
theorem Inv.ql (I:Inv X pins σ H s) (h:i4 X.K H a xs) (h':i4 X.K H a ys):xs=ys:=by
 obtain ⟨its,r,⟨o,n,e,_,_,d⟩,_⟩:=I.list h
 obtain ⟨its',r',⟨o',n',e',_,_,d'⟩,_⟩:=I.list h'
 rw [e] at e';cases e'
 rw [d] at d'
 injection d' with d1 _
 have:its=its':=by simpa using congrArg Array.toList d1
 subst this
 exact r.inj r'
theorem Inv.nA (I:Inv X pins σ H s) (h:gT X.K H a xs) (h':gT X.K H a ys):xs=ys:=by
 obtain ⟨its,r,⟨o,e,_,n,d⟩,_⟩:=I.tuple h
 obtain ⟨its',r',⟨o',e',_,n',d'⟩,_⟩:=I.tuple h'
 rw [e] at e';cases e'
 rw [d] at d'
 injection d' with d1 _
 have:its=its':=by simpa using congrArg Array.toList d1
 subst this
 exact r.inj r'
end
abbrev Cx.pR (X:Cx) (E:Value->Shared->Prop):Cx:={ X with xe:=E }
theorem Cx.Ok.pR {X:Cx} (ok:X.Ok) (E:Value->Shared->Prop):(X.pR E).Ok :=
 ⟨ok.mod,ok.kind,ok.glob,ok.blt,ok.above,ok.inj,ok.has,ok.Fe,ok.hd,ok.frames,ok.Ht,ok.FJ,ok.bs,ok.Ao,ok.rG,ok.tF,ok.lW,ok.Dl⟩
theorem Cx.Ok.eB {X:Cx} {E:Value->Shared->Prop} (ok:(X.pR E).Ok):X.Ok :=
 ⟨ok.mod,ok.kind,ok.glob,ok.blt,ok.above,ok.inj,ok.has,ok.Fe,ok.hd,ok.frames,ok.Ht,ok.FJ,ok.bs,ok.Ao,ok.rG,ok.tF,ok.lW,ok.Dl⟩
section
variable {X:Cx} {pins:List (Addr×Obj)} {σ:St} {H:Hp} {s:Shared} {E:Value->Shared->Prop}
theorem Inv.pR (I:Inv X pins σ H s) (E:Value->Shared->Prop):Inv (X.pR E) pins σ H s:=⟨I.ok.pR E,I.os,I.bare,I.base,I.loc,I.cell,I.free,I.fx,I.pin,I.a_,I.len⟩
theorem Inv.eB (I:Inv (X.pR E) pins σ H s):Inv X pins σ H s:=⟨I.ok.eB,I.os,I.bare,I.base,I.loc,I.cell,I.free,I.fx,I.pin,I.a_,I.len⟩
theorem SP.eB {D:Ends} {f:Flow} {s':Shared} (h:SP (X.pR E) pins D f s'):SP X pins D f s':=by
 cases f with
 | next=>obtain ⟨σ',H',I,q⟩:=h;exact ⟨σ',H',I.eB,q⟩
 | brk=>obtain ⟨σ',H',I,q⟩:=h;exact ⟨σ',H',I.eB,q⟩
 | cont=>obtain ⟨σ',H',I,q⟩:=h;exact ⟨σ',H',I.eB,q⟩
 | ret u=>obtain ⟨v,σ',H',I,r,q⟩:=h;exact ⟨v,σ',H',I.eB,r,q⟩
end
section
variable {X:Cx} {st:Stmt} {rest:List Stmt} {t u:TS} {e:Expr} {te:TE} {pos:Pos}
def IC:TS:=fun D σ H=>D.nx σ H
def Px (t u:TS):TS:=fun D σ H=>t { D with nx:=u D } σ H
theorem yw:lZ X [] IC:=fun _ _ σ H _ I h=>wpAny_execs_nil ⟨σ,H,I,h⟩
theorem wm (h1:PS X st t) (h2:lZ X rest u):lZ X (st::rest) (Px t u):=by
 intro pins s σ H D I h
 refine wpAny_execs_cons (bJ (h1 pins s σ H { D with nx:=u D } I h) fun f s1 q=>?_)
 cases f with
 | next =>
  obtain ⟨σ',H',I',q⟩:=q
  exact h2 pins s1 σ' H' D I' q
 | ret v=>exact q
 | brk=>exact q
 | cont=>exact q
theorem DW (h1:PS X st t):lZ X [st] t:=by
 intro pins s σ H D I h
 refine wpAny_execs_cons (bJ (h1 pins s σ H D I h) fun f s1 q=>?_)
 cases f with
 | next=>exact wpAny_execs_nil q
 | ret v=>exact q
 | brk=>exact q
 | cont=>exact q
theorem Inv.quiet {pins:List (Addr×Obj)} {σ:St} {H:Hp} {s:Shared} (I:Inv X pins σ H s):interactive X.env=false:=by simp [interactive,I.ok.kind]
def Ja (te:TE):TS:=fun D σ H=>te σ H fun _ H1=>D.nx σ H1
theorem tj (he:PE X e te) (hs:swapsWith e none pos.line X.env=pure false:=by rfl):PS X (.Expr e pos) (Ja te):=by
 intro pins s σ H D I h
 exact wpAny_Expr_any (bJ (he pins s σ H _ I h) fun v s1 ⟨x,H1,I1,r1,q1⟩=>⟨σ,H1,I1,q1⟩) I.quiet hs
def KQ (te:TE):TS:=fun D σ H=>te σ H D.rt
theorem HA (he:PE X e te):PS X (.Return (some e) pos) (KQ te):=by
 intro pins s σ H D I h
 exact wpAny_Return_some (bJ (he pins s σ H _ I h) fun v s1 ⟨x,H1,I1,r1,q1⟩=>⟨x,σ,H1,I1,r1,q1⟩)
def Oc (c:TT) (t u:TS):TS:=fun D σ H=>c σ H fun b H1=>if b=true then t D σ H1 else u D σ H1
theorem IX {c:Expr} {a b:List Stmt} {tc:TT} (hc:PT X c tc) (ha:lZ X a t) (hb:lZ X b u):PS X (.If c a b pos) (Oc tc t u):=by
 intro pins s σ H D I h
 refine wpAny_If (bJ (hc pins s σ H _ I h) fun d s1 ⟨H1,I1,q1⟩=>?_)
 cases d with
 | true=>exact ha pins s1 σ H1 D I1 q1
 | false=>exact hb pins s1 σ H1 D I1 q1
end
abbrev TG:=V->St->Hp->(St->Hp->Prop)->Prop
abbrev HP:=List V->St->Hp->(St->Hp->Prop)->Prop
def PG (X:Cx) (target:Expr) (t:TG):Prop :=
 ∀ (pins:List (Addr×Obj)) (s:Shared) (σ:St) (H:Hp) (v:V) (u:Value) (Q:St->Hp->Prop),Inv X pins σ H s->RelV v u->t v σ H Q ->
  wpAny (model X.prog X.w) X.A (assign target X.env u) (fun _ s'=>∃ σ' H',Inv X pins σ' H' s'/\Q σ' H') X.xe s
def Kd (X:Cx) (ts:List Expr) (t:HP):Prop :=
 ∀ (pins:List (Addr×Obj)) (s:Shared) (σ:St) (H:Hp) (vs:List V) (us:List Value) (Q:St->Hp->Prop),Inv X pins σ H s->Vals vs us->t vs σ H Q ->
  wpAny (model X.prog X.w) X.A (assignInOrder ((assignEach ts X.env).map (·.2)) us) (fun _ s'=>∃ σ' H',Inv X pins σ' H' s'/\Q σ' H') X.xe s
abbrev F3:=V->V->V->Hp->(Hp->Prop)->Prop
def JM (X:Cx) (t:F3):Prop :=
 ∀ (pins:List (Addr×Obj)) (s:Shared) (σ:St) (H:Hp) (o i v:V) (ov iv u:Value) (Q:Hp->Prop),Inv X pins σ H s->RelV o ov->RelV i iv->RelV v u->t o i v H Q ->
  wpAny (model X.prog X.w) X.A (setItem ov iv u) (fun _ s'=>∃ H',Inv X pins σ H' s'/\Q H') X.xe s
section
variable {X:Cx} {pos:Pos}
def aF (i:Nat):TG:=fun v σ H Q=>Q (σ.set i (some v)) H
theorem DU {i:Nat} {x:Str} (hN:X.N.Nodup) (hi:X.N[i]?=some x) (hx:Loc X.env.scope x) (hf:X.fn x=true\/X.env.scope.names.lookup x=some .local:=by first | exact .inl rfl | exact .inr rfl | assumption):PG X (.Name x pos) (aF i):=by
 intro pins s σ H v u Q I r h
 exact wpAny_assign_Name (j5 I hN hi hx r (fun s' I'=>⟨_,H,I',h⟩) hf)
def iE:HP:=fun vs σ H Q=>vs=[]/\Q σ H
def aU (t:TG) (u:HP):HP:=fun vs σ H Q=>∃ v r,vs=v::r/\t v σ H fun σ' H'=>u r σ' H' Q
theorem bO:Kd X [] iE:=by
 intro pins s σ H vs us Q I r h
 obtain ⟨e,h⟩:=h
 subst e
 cases r
 exact assignInOrder_nil ⟨σ,H,I,h⟩
theorem aD {e:Expr} {es:List Expr} {t:TG} {u:HP} (h1:PG X e t) (h2:Kd X es u)
  (hs:(assignEach (e::es) X.env).map (·.2)=assign e X.env::(assignEach es X.env).map (·.2):=by rfl):Kd X (e::es) (aU t u):=by
 intro pins s σ H vs us Q I r h
 obtain ⟨v,vr,e1,h⟩:=h
 subst e1
 cases r with
 | cons r rr =>
  rw [hs]
  refine assignInOrder_cons (bJ (h1 pins s σ H _ _ _ I r h) fun _ s1 ⟨σ1,H1,I1,q1⟩=>?_)
  exact h2 pins s1 σ1 H1 _ _ Q I1 rr q1
def iw (K:PySem.W.Frag) (n:Nat) (t:HP):TG:=fun v σ H Q=>∃ a xs,v=.ref a/\gT K H a xs/\xs.length=n/\t xs σ H Q
theorem cP {es:List Expr} {k:Nat} {t:HP} {n:Nat} (hc:X.calm=true) (h:Kd X es t)
  (hn:(assignEach es X.env).length=n:=by rfl) (hst:(assignEach es X.env).findIdx? (·.1)=none:=by rfl):PG X (.Tuple es k pos) (iw X.K n t):=by
 intro pins s σ H v u Q I r hw
 obtain ⟨a,xs,e1,hq,hl,hw⟩:=hw
 subst e1
 cases r
 obtain ⟨its,rv,ht,hz⟩:=I.tuple hq
 refine assign_Tuple_tuple (I.ok.hd hc) ht (by simp [hn,← hl,rv.length]) hst fun h' hx=>?_
 have I1:Inv X pins σ H { s with heap:=h' }:=I.kept (t':=s.toks) fun b o e=>hx b o (Nat.ne_of_lt (Heap.lt_size e)) e
 exact h pins _ σ H xs _ Q I1 (by simpa using rv) hw
def Qm (to ti:TE) (t:F3):TG:=fun v σ H Q=>to σ H fun o H1=>ti σ H1 fun i H2=>t o i v H2 fun H3=>Q σ H3
theorem H_ {o i:Expr} {to ti:TE} {t:F3} (ho:PE X o to) (hi:PE X i ti) (hs:JM X t)
  (ha:∀ v,assign (.Subscript o i pos) X.env v=(do
   let ov ← holding [v] (eval o X.env)
   let iv ← holding [v,ov] (eval i X.env)
   standAt pos
   holding [v,ov,iv] (setItem ov iv v)
   release [v,ov,iv] []):=by intro _;rfl):PG X (.Subscript o i pos) (Qm to ti t):=by
 intro pins s σ H v u Q I r h
 rw [ha]
 refine wpAny_bind (wpAny_holding (bJ (ho pins s σ H _ I h) fun ov s1 ⟨x,H1,I1,r1,q1⟩=>?_))
 refine wpAny_bind (wpAny_holding (bJ (hi pins s1 σ H1 _ I1 q1) fun iv s2 ⟨y,H2,I2,r2,q2⟩=>?_))
 refine wpAny_bind (wpAny_standAt (wpAny_bind (wpAny_holding (bJ (hs pins s2 σ H2 x y v ov iv u _ I2 r1 r2 r q2) fun _ s3 ⟨H3,I3,q3⟩=>?_))))
 exact wpAny_release ⟨σ,H3,I3,q3⟩
def Gz (te:TE) (g:TG):TS:=fun D σ H=>te σ H fun x H1=>g x σ H1 D.nx
theorem Hu {tg e:Expr} {te:TE} {g:TG} (he:PE X e te) (hg:PG X tg g) (hs:swapsWithSole [tg] e pos.line X.env=pure false:=by rfl) (hw:swappedStores [tg] e X.env=pure none:=by rfl)
  (h1:(assignEach [tg] X.env).map (·.2)=[assign tg X.env]:=by rfl):PS X (.Assign [tg] e pos) (Gz te g):=by
 intro pins s σ H D I h
 refine wpAny_Assign_stores (bJ (he pins s σ H _ I h) fun v s1 ⟨x,H1,I1,r1,q1⟩=>?_) hs hw
 rw [h1]
 exact bJ (hg pins s1 σ H1 x v _ I1 r1 q1) fun _ s2 q=>q
theorem C6 {i:Nat} {x:Str} {e:Expr} {te:TE} {pos':Pos} (hN:X.N.Nodup) (hi:X.N[i]?=some x) (hx:Loc X.env.scope x) (he:PE X e te) (hs:swapsWith e (some (.Name x pos')) pos.line X.env=pure false:=by rfl) (hf:X.fn x=true\/X.env.scope.names.lookup x=some .local:=by first | exact .inl rfl | exact .inr rfl | assumption) :
  PS X (.Assign [.Name x pos'] e pos) (Gz te (aF i)):=by
 intro pins s σ H D I h
 refine wpAny_Assign_Name (bJ (he pins s σ H _ I h) fun v s1 ⟨y,H1,I1,r1,q1⟩=>?_) hs
 exact j5 I1 hN hi hx r1 (fun s2 I2=>⟨_,H1,I2,q1⟩) hf
def Pw (i j:Nat) (ta:TA):TS:=fun D σ H=>ta σ H fun vs H1=>∃ v w,vs=[v,w]/\D.nx ((σ.set i (some v)).set j (some w)) H1
theorem Ho {i j:Nat} {x y:Str} {a b:Expr} {ta:TA} {px py pt:Pos} {kt k2 pt2} (hc:X.calm=true) (hN:X.N.Nodup) (hi:X.N[i]?=some x) (hj:X.N[j]?=some y) (hij:i≠j)
  (hx:X.env.scope.names.lookup x=some .local) (hy:X.env.scope.names.lookup y=some .local) (ha:PA X [a,b] ta)
  (hw:swappedStores [.Tuple [.Name x px,.Name y py] kt pt] (.Tuple [a,b] k2 pt2) X.env=pure (some [x,y]))
  (hs:swapsWithSole [.Tuple [.Name x px,.Name y py] kt pt] (.Tuple [a,b] k2 pt2) pos.line X.env=pure false:=by rfl) :
  PS X (.Assign [.Tuple [.Name x px,.Name y py] kt pt] (.Tuple [a,b] k2 pt2) pos) (Pw i j ta):=by
 intro pins s σ H D I h
 rw [exec_Assign_arm]
 refine wpAny_bind (wpAny_standAt ?_)
 rw [hs]
 refine wpAny_bind (wpAny_pure ?_)
 rw [if_neg (by decide)]
 refine wpAny_bind (Tuple_ (bJ (ha _ pins s σ H _ I h) fun us s1 ⟨vs,H1,I1,r1,q1⟩=>?_))
 obtain ⟨v,w,e1,q1⟩:=q1
 subst e1
 obtain ⟨u1,u2,rfl,rv,rw'⟩:∃ u1 u2,us=[u1,u2]/\RelV v u1/\RelV w u2:=by
  cases r1 with
  | cons p q =>
   cases q with
   | cons p' q' =>
    cases q'
    exact ⟨_,_,rfl,p,p'⟩
 refine wpAny_newObj_type ?_ (by show 2<=sizeLine;decide)
 have I2:Inv X pins σ H1 { s1 with heap:=s1.heap.push { cls:=.type "tuple", data:=.seq [u1,u2].toArray } }:=I1.kept (t':=s1.toks) fun b o e=>Heap.get?_push_of_some _ e
 rw [hw]
 refine wpAny_bind (wpAny_pure ?_)
 show wpAny (model X.prog X.w) X.A (do rule "assign.swapped-stores";let items ← unpackItems (.ref s1.heap.objs.size) 2 none;assignInOrder [fun v=>bindName X.env y v,fun v=>bindName X.env x v] items.reverse;pure Flow.next) _ _ _
 refine wpAny_bind (wpAny_rule (wpAny_bind (unpackItems_tuple (items:=#[u1,u2]) (I.ok.hd hc) (IsTup.new s1.heap _) fun h' hx'=>?_)))
 have I3:=I2.kept (h':=h') (t':=s1.toks) fun b o e=>hx' b o (Nat.ne_of_lt (Heap.lt_size e)) e
 show wpAny _ _ (assignInOrder [fun v=>bindName X.env y v,fun v=>bindName X.env x v] [u2,u1] >>= fun _=>pure Flow.next) _ _ _
 refine wpAny_bind (assignInOrder_cons (wpAny_bindName (j5 I3 hN hj (.inl hy) rw' (fun s2 I4=>?_) (.inr hy))))
 refine assignInOrder_cons (wpAny_bindName (j5 I4 hN hi (.inl hx) rv (fun s3 I5=>assignInOrder_nil (wpAny_pure ?_)) (.inr hx)))
 rw [List.set_comm _ _ (Ne.symm hij)] at I5
 exact ⟨_,H1,I5,q1⟩
end
section
variable {X:Cx} {pos:Pos}
def GZ (c:TT) (tb:TS):TS:=fun D σ H=>∃ W:Nat->St->Hp->Prop,(∃ m,W m σ H)/\∀ m σ H,W m σ H ->
 c σ H fun b H1=>if b=true then ∃ N:St->Hp->Prop,(∀ σ' H',N σ' H'->∃ m',m'<m/\W m' σ' H')/\tb { D with nx:=N,ct:=N,bk:=D.nx } σ H1 else D.nx σ H1
theorem Df {c:Expr} {body:List Stmt} {tc:TT} {tb:TS} (hp:PassesOwn (model X.prog X.w) X.A X.env X.xe) (hc:PT X c tc) (hb:lZ X body tb):PS X (.While c body [] pos) (GZ tc tb):=by
 intro pins s σ H D I h
 obtain ⟨W,⟨m0,w0⟩,turn⟩:=h
 refine wpAny_While (codeAny_whileLoop (fun n s'=>∃ σ' H',Inv X pins σ' H' s'/\W n σ' H') ?_ m0 ⟨σ,H,I,w0⟩)
 rintro n s1 ⟨σ1,H1,I1,w1⟩
 refine wpAny_passesOwn hp (bJ (hc pins s1 σ1 H1 _ I1 (turn n σ1 H1 w1)) fun b s2 ⟨H2,I2,q2⟩=>?_)
 cases b with
 | true =>
  obtain ⟨N,hN,q2⟩:=q2
  rw [if_pos rfl]
  refine wpAny_passesOwn hp (bJ (hb pins s2 σ1 H2 _ I2 q2) fun f s3 q3=>?_)
  cases f with
  | next =>
   obtain ⟨σ3,H3,I3,n3⟩:=q3
   obtain ⟨m',hm,w3⟩:=hN σ3 H3 n3
   exact ⟨m',hm,σ3,H3,I3,w3⟩
  | cont =>
   obtain ⟨σ3,H3,I3,n3⟩:=q3
   obtain ⟨m',hm,w3⟩:=hN σ3 H3 n3
   exact ⟨m',hm,σ3,H3,I3,w3⟩
  | brk=>exact q3
  | ret v=>exact q3
 | false =>
  rw [if_neg Bool.false_ne_true]
  exact wpAny_execs_nil ⟨σ1,H2,I2,q2⟩
end
structure It where
 go:Nat->Hp->Prop
 wy:Nat->Hp->V->Hp->Prop
 stop:Nat->Hp->Prop
def lQ (X:Cx) (pins:List (Addr×Obj)) (H:Hp) (b:Addr):Prop :=
 H b=none/\b≠X.env.locals/\b ∉ X.fs/\(b∈X.ex\/X.s₀.heap.objs.size<=b)/\(∀ x c,X.env.cells.lookup x=some c->c≠b)/\∀ p∈X.pn++pins,p.1≠b
theorem Inv.tZ {X:Cx} {pins:List (Addr×Obj)} {σ:St} {H H':Hp} {s:Shared} {b:Addr} (I:Inv X pins σ H s) (hb:s.heap.objs.size<=b) (hn:H' b=none):lQ X pins H' b:=by
 refine ⟨hn,Nat.ne_of_gt (Nat.lt_of_lt_of_le I.lt hb),I.Ks hb,.inr (Nat.le_trans I.sz hb),fun x c e z=>?_,fun p hp z=>?_⟩
 ·obtain ⟨v,q⟩:=I.cell x c e
  exact absurd (Nat.lt_of_lt_of_le q.lt (by rw [z];exact hb)) (Nat.lt_irrefl _)
 ·exact absurd (Nat.lt_of_lt_of_le (Heap.lt_size (I.pin p hp).1) (by rw [z];exact hb)) (Nat.lt_irrefl _)
structure Turn (P:Program) (w:World) (K:PySem.W.Frag) (tg:Expr) (J:It) (fp:List Addr) (it:Addr) (tn:Nat->Heap->Prop):Prop where
 mem:it∈fp
 obj:∀ i h,tn i h->∀ b∈fp,∃ o,h.get? b=some o/\∀ v,o.data≠.cell v
 keep:∀ i h h',tn i h->(∀ b∈fp,∀ o,h.get? b=some o->h'.get? b=some o)->tn i h'
 item:∀ (X:Cx),X.prog=P->X.w=w->X.K=K->X.calm=true->∀ (i:Nat) (pins:List (Addr×Obj)) (s:Shared) (σ:St) (H:Hp) (E:Value->Shared->Prop),Inv X pins σ H s->(∀ b∈fp,lQ X pins H b)->tn i s.heap->J.go i H ->
  wpAny (model P w) X.A (pyNext (.ref it)) (fun r s1=>∃ u,r=some u ∧
   wpAny (model P w) X.A (letOwnedTupleGo tg (.ref it) u) (fun _ s2=>∃ x H',Inv X pins σ H' s2/\RelV x u/\J.wy i H x H'/\tn (i+1) s2.heap/\∀ b∈fp,H' b=none) E s1) E s
 done:∀ (X:Cx),X.prog=P->X.w=w->X.K=K->X.calm=true->∀ (i:Nat) (pins:List (Addr×Obj)) (s:Shared) (σ:St) (H:Hp) (E:Value->Shared->Prop),Inv X pins σ H s->(∀ b∈fp,lQ X pins H b)->tn i s.heap->J.stop i H ->
  wpAny (model P w) X.A (pyNext (.ref it)) (fun r s1=>r=none/\Inv X pins σ H s1) E s
 self:∀ (A:Around) (i:Nat) (s:Shared) (Q:Value->Shared->Prop) (E:Value->Shared->Prop),tn i s.heap->Q (.ref it) s->wpAny (model P w) A (pyIter (.ref it)) Q E s
abbrev TI:=St->Hp->(It->Hp->Prop)->Prop
def OW (X:Cx) (pins:List (Addr×Obj)) (σ:St) (tg:Expr) (R:It->Hp->Prop) (itv:Value) (s2:Shared):Prop :=
 ∃ (it:Addr) (fp:List Addr) (tn:Nat->Heap->Prop) (J:It) (H':Hp),itv=.ref it/\Inv X pins σ H' s2/\Turn X.prog X.w X.K tg J fp it tn/\tn 0 s2.heap/\(∀ b∈fp,lQ X pins H' b)/\R J H'
def PI (X:Cx) (tg iter:Expr) (wi:TI):Prop :=
 ∀ (pins:List (Addr×Obj)) (s:Shared) (σ:St) (H:Hp) (R:It->Hp->Prop),Inv X pins σ H s->wi σ H R ->
  wpAny (model X.prog X.w) X.A (eval iter X.env) (fun v s1=>wpAny (model X.prog X.w) X.A (pyIter v) (OW X pins σ tg R) X.xe s1) X.xe s
theorem yr {M : Model} {A : Around} {E : Value -> Shared -> Prop} {s : Shared} {tg : Expr} {it : Addr} {u : Value} {o : Obj} {n : String} {vs : Array Value} {Q : Unit -> Shared -> Prop} (ho : s.heap.get? it = some o) (hc : o.cls = .type n) (hd : o.data = .fields vs)
    (hn : ["enumerate", "zip", "dict_itemiterator", "dict_reverseitemiterator", "odict_iterator", "itertools.zip_longest", "itertools.pairwise"].contains n = false) (hQ : Q () s) : wpAny M A (letOwnedTupleGo tg (.ref it) u) Q E s := by
  unfold letOwnedTupleGo
  cases tg <;> first
    | exact wpAny_pure hQ
    | (cases u <;> first
        | exact wpAny_pure hQ
        | (refine wpAny_bind (wpAny_load ho ?_)
           rw [hc, hd]
           show wpAny M A (if (["enumerate", "zip", "dict_itemiterator", "dict_reverseitemiterator", "odict_iterator", "itertools.zip_longest", "itertools.pairwise"].contains n && vs[0]? == some (rawInt _)) = true then _ else _) Q E s
           rw [if_neg (by intro h; rw [hn, Bool.false_and] at h; cases h)]
           exact wpAny_pure hQ))
def QH (K:PySem.W.Frag) (a:Addr):It :=
 ⟨fun i H=>∃ xs x,i4 K H a xs/\xs[i]?=some x,fun i H x H'=>H'=H/\∀ xs,i4 K H a xs->xs[i]?=some x,fun i H=>∃ xs,i4 K H a xs/\xs.length<=i⟩
def QF (K:PySem.W.Frag) (a:Addr):It :=
 ⟨fun i H=>∃ xs x,gT K H a xs/\xs[i]?=some x,fun i H x H'=>H'=H/\∀ xs,gT K H a xs->xs[i]?=some x,fun i H=>∃ xs,gT K H a xs/\xs.length<=i⟩
def JU (lo:Int) (n:Nat):It:=⟨fun i _=>i<n,fun i H x H'=>H'=H/\x=.int (lo+i),fun i _=>n<=i⟩
theorem yR {P:Program} {w:World} {K:PySem.W.Frag} {tg:Expr} (a it:Addr):Turn P w K tg (QH K a) [it] it (fun i h=>h.IsListIter it a i) where
 mem:=by simp
 obj:=fun i h st b hb=>by
  have e:b=it:=by simpa using hb
  subst e
  obtain ⟨o,e,c,d⟩:=st
  exact ⟨o,e,fun v z=>by rw [d] at z;cases z⟩
 keep:=fun i h h' st k=>st.at fun o e=>k it (by simp) o e
 item:=by
  intro X hP hw hK hc i pins s σ H E I hf st hg
  subst hP hw hK
  obtain ⟨xs,x,hq,hx⟩:=hg
  obtain ⟨its,rv,p,hz⟩:=I.list hq
  obtain ⟨u,hu,ru⟩:=rv.get hx
  obtain ⟨f0,f1,f2,f3,f4,f5⟩:=hf it (by simp)
  refine wpAny_pyNext_list_item st p.isList (x:=u) (by simpa using hu) fun h' st' sb=>?_
  have I1:Inv X pins σ H { s with heap:=h' }:=I.turned (t':=s.toks) (fun b o hb e=>(sb.2 b hb).trans e) f0 f1 f3 f4 f5
  obtain ⟨o,e,c,d⟩:=id st'
  exact ⟨u,rfl,yr (s:={ s with heap:=h' }) e c d (by decide) ⟨x,H,I1,ru,⟨rfl,fun ys hy=>by rw [I.ql hy hq];exact hx⟩,st',fun b hb=>(hf b hb).1⟩⟩
 done:=by
  intro X hP hw hK hc i pins s σ H E I hf st hg
  subst hP hw hK
  obtain ⟨xs,hq,hx⟩:=hg
  obtain ⟨its,rv,p,hz⟩:=I.list hq
  obtain ⟨f0,f1,f2,f3,f4,f5⟩:=hf it (by simp)
  have hl:=rv.length
  exact wpAny_pyNext_list_end (I.ok.hd hc) st p.isList (by simp;omega) fun h' eb=>⟨rfl,I.turned (t':=s.toks) (fun b o hb e=>eb b o hb e) f0 f1 f3 f4 f5⟩
 self:=fun _ _ _ _ _ st h=>wpAny_pyIter_listiter st h
theorem wZ {P:Program} {w:World} {K:PySem.W.Frag} {tg:Expr} (a it:Addr):Turn P w K tg (QF K a) [it] it (fun i h=>h.IsTupleIter it a i) where
 mem:=by simp
 obj:=fun i h st b hb=>by
  have e:b=it:=by simpa using hb
  subst e
  obtain ⟨o,e,c,d⟩:=st
  exact ⟨o,e,fun v z=>by rw [d] at z;cases z⟩
 keep:=fun i h h' st k=>st.at fun o e=>k it (by simp) o e
 item:=by
  intro X hP hw hK hc i pins s σ H E I hf st hg
  subst hP hw hK
  obtain ⟨xs,x,hq,hx⟩:=hg
  obtain ⟨its,rv,p,hz⟩:=I.tuple hq
  obtain ⟨u,hu,ru⟩:=rv.get hx
  obtain ⟨f0,f1,f2,f3,f4,f5⟩:=hf it (by simp)
  refine wpAny_pyNext_tuple_item st (show s.heap.IsTuple a its.toArray from p) (x:=u) (by simpa using hu) fun h' st' sb=>?_
  have I1:Inv X pins σ H { s with heap:=h' }:=I.turned (t':=s.toks) (fun b o hb e=>(sb.2 b hb).trans e) f0 f1 f3 f4 f5
  obtain ⟨o,e,c,d⟩:=id st'
  exact ⟨u,rfl,yr (s:={ s with heap:=h' }) e c d (by decide) ⟨x,H,I1,ru,⟨rfl,fun ys hy=>by rw [I.nA hy hq];exact hx⟩,st',fun b hb=>(hf b hb).1⟩⟩
 done:=by
  intro X hP hw hK hc i pins s σ H E I hf st hg
  subst hP hw hK
  obtain ⟨xs,hq,hx⟩:=hg
  obtain ⟨its,rv,p,hz⟩:=I.tuple hq
  obtain ⟨f0,f1,f2,f3,f4,f5⟩:=hf it (by simp)
  have hl:=rv.length
  exact wpAny_pyNext_tuple_end (I.ok.hd hc) st (show s.heap.IsTuple a its.toArray from p) (by simp;omega) fun h' eb=>⟨rfl,I.turned (t':=s.toks) (fun b o hb e=>eb b o hb e) f0 f1 f3 f4 f5⟩
 self:=fun _ _ _ _ _ st h=>wpAny_pyIter_tupleiter st h
theorem xF {P:Program} {w:World} {K:PySem.W.Frag} {tg:Expr} (it:Addr) (lo:Int) (n:Nat):Turn P w K tg (JU lo n) [it] it (fun i h=>IsRangeIter h it (lo+(i:Nat)*1) ((n:Int)-(i:Nat)) 1) where
 mem:=by simp
 obj:=fun i h st b hb=>by
  have e:b=it:=by simpa using hb
  subst e
  exact ⟨_,st,fun v z=>by
   have z':Data.fields _=Data.cell v:=z
   cases z'⟩
 keep:=fun i h h' st k=>k it (by simp) _ st
 item:=by
  intro X hP hw hK hc i pins s σ H E I hf st hg
  subst hP hw hK
  obtain ⟨f0,f1,f2,f3,f4,f5⟩:=hf it (by simp)
  have W:=Walks.range (prog:=X.prog) (w:=X.w) (I.ok.hd hc) it lo 1 n
  refine W.item i s _ _ hg st fun v h' tk hv st' kk=>?_
  obtain ⟨t,rfl⟩:=hv
  have I1:Inv X pins σ H { s with heap:=h',toks:=tk }:=I.turned (fun b o hb e=>kk b o (by simpa using hb) e) f0 f1 f3 f4 f5
  refine ⟨_,rfl,yr (s:={ s with heap:=h',toks:=tk }) (n := "range_iterator") st' rfl rfl (by decide) ⟨.int (lo+i),H,I1,⟨t,?_⟩,⟨rfl,rfl⟩,st',fun b hb=>(hf b hb).1⟩⟩
  rw [Int.mul_one]
 done:=by
  intro X hP hw hK hc i pins s σ H E I hf st hg
  subst hP hw hK
  obtain ⟨f0,f1,f2,f3,f4,f5⟩:=hf it (by simp)
  exact wpAny_pyNext_range_end (I.ok.hd hc) st (by have:n<=i:=hg;omega) fun h' eb=>⟨rfl,I.turned (t':=s.toks) (fun b o hb e=>eb b o hb e) f0 f1 f3 f4 f5⟩
 self:=fun _ _ _ _ _ st h=>wpAny_pyIter_rangeiter st h
end L2
namespace L2
open PySem PySem.Spec PyProof.Rows
section
variable {X:Cx} {tg:Expr}
theorem vq {pins:List (Addr×Obj)} {σ:St} {H:Hp} {s:Shared} {R:It->Hp->Prop} {E:Value->Shared->Prop} {lo hi:Int} {t u v:Tok} {tk:Nat} (I:Inv X pins σ H s) (h1:-(2^62)<=lo) (h2:lo<2^62) (h3:-(2^62)<=hi) (h4:hi<2^62)
  (q:R (JU lo (hi-lo).toNat) H):wpAny (model X.prog X.w) X.A (pyIter (.ref s.heap.objs.size)) (OW X pins σ tg R) E { s with heap:=s.heap.push { cls:=.type "range", data:=.fields #[.int lo t,.int hi u,.int 1 v] },toks:=tk }:=by
 refine wpAny_pyIter_range (IsRange.new ..) (small_one h1 h2 h3 h4) ?_
 have I1:Inv X pins σ H { s with heap:=s.heap.push { cls:=.type "range", data:=.fields #[.int lo t,.int hi u,.int 1 v] },toks:=tk }:=I.kept fun b o e=>Heap.get?_push_of_some _ e
 refine ⟨(s.heap.push { cls:=.type "range", data:=.fields #[.int lo t,.int hi u,.int 1 v] }).objs.size,[(s.heap.push { cls:=.type "range", data:=.fields #[.int lo t,.int hi u,.int 1 v] }).objs.size],_,_,H,rfl,
  I1.kept (t':=tk) fun b o e=>Heap.get?_push_of_some _ e,xF _ lo (hi-lo).toNat,?_,fun b hb=>?_,q⟩
 ·have e1:lo+((0:Nat):Int)*1=lo:=by simp
  have e2:(((hi-lo).toNat:Nat):Int)-((0:Nat):Int)=Builtin.Range.rangeSize lo hi 1:=by rw [rangeSize_one];split <;> omega
  show IsRangeIter _ _ (lo+((0:Nat):Int)*1) ((((hi-lo).toNat:Nat):Int)-((0:Nat):Int)) 1
  rw [e1,e2]
  exact Heap.get?_push_size _ rfl
 ·have e:b=(s.heap.push { cls:=.type "range", data:=.fields #[.int lo t,.int hi u,.int 1 v] }).objs.size:=by simpa using hb
  subst e
  exact I1.tZ (Nat.le_refl _) (I1.a_.fresh (Nat.le_refl _))
def E8 (ta:TA):TI:=fun σ H R=>ta σ H fun vs H1=>∃ j:Int,vs=[.int j]/\-(2^62)<=j/\j<2^62/\R (JU 0 j.toNat) H1
def Fg (ta:TA):TI:=fun σ H R=>ta σ H fun vs H1=>∃ i j:Int,vs=[.int i,.int j]/\(-(2^62)<=i/\i<2^62/\-(2^62)<=j/\j<2^62)/\R (JU i (j-i).toNat) H1
theorem eY {a:Expr} {ta:TA} {p pos:Pos} (hg:Gl X "range") (hm:X.mg "range" = none) (ha:PA X [a] ta) (hs:starEach [a] X.env=[(false,eval a X.env)]:=by rfl):PI X tg (.Call (.Name "range" p) [a] [] pos) (E8 ta):=by
 intro pins s σ H R I h
 refine Call_ (i5 I hg hm boot_range (PyProof.Rows.callWith_type1 (bJ (ha pos pins s σ H _ I h) fun us s1 ⟨vs,H1,I1,r1,q1⟩=>?_) hs rfl))
 obtain ⟨j,e,q1,q2,q⟩:=q1
 subst e
 cases r1 with
 | cons r rr =>
  cases rr
  obtain ⟨t,rfl⟩:=r
  exact call_range_1 (vq I1 (by omega) (by omega) q1 q2 (by simpa using q))
theorem zO {a b:Expr} {ta:TA} {p pos:Pos} (hg:Gl X "range") (hm:X.mg "range" = none) (ha:PA X [a,b] ta) (hs:starEach [a,b] X.env=[(false,eval a X.env),(false,eval b X.env)]:=by rfl) (hs2:starEach [b] X.env=[(false,eval b X.env)]:=by rfl) :
  PI X tg (.Call (.Name "range" p) [a,b] [] pos) (Fg ta):=by
 intro pins s σ H R I h
 refine Call_ (i5 I hg hm boot_range (PyProof.Rows.callWith_type1 (bJ (ha pos pins s σ H _ I h) fun us s1 ⟨vs,H1,I1,r1,q1⟩=>?_) (by rw [hs,hs2]) (by rw [hs2];rfl)))
 obtain ⟨i,j,e,⟨q1,q2,q3,q4⟩,q⟩:=q1
 subst e
 cases r1 with
 | cons r rr =>
  cases rr with
  | cons r' rr =>
   cases rr
   obtain ⟨t,rfl⟩:=r
   obtain ⟨t',rfl⟩:=r'
   exact call_range_2 (vq I1 q1 q2 q3 q4 q)
def PQ (wi:TI) (g:TG) (tb:TS):TS:=fun D σ H=>wi σ H fun J H1=>∃ W:Nat->Nat->St->Hp->Prop,(∃ m,W 0 m σ H1)/\∀ i m σ H,W i m σ H ->
 (J.stop i H/\D.nx σ H)\/(J.go i H/\∃ N:St->Hp->Prop,(∀ σ' H',N σ' H'->∃ m',m'<m/\W (i+1) m' σ' H')/\∀ x H',J.wy i H x H'->g x σ H' fun σ2 H2=>tb { D with nx:=N,ct:=N,bk:=D.nx } σ2 H2)
def jY (fp:List Addr) (h:Heap):List (Addr×Obj):=fp.filterMap fun b=>(h.get? b).map fun o=>(b,o)
theorem eX {fp:List Addr} {h:Heap} {b:Addr} {o:Obj} (hb:b∈fp) (e:h.get? b=some o):(b,o)∈jY fp h:=List.mem_filterMap.mpr ⟨b,hb,by rw [e];rfl⟩
theorem Aa {fp:List Addr} {h:Heap} {p:Addr×Obj} (hp:p∈jY fp h):p.1∈fp/\h.get? p.1=some p.2:=by
 obtain ⟨b,hb,e⟩:=List.mem_filterMap.mp hp
 cases q:h.get? b with
 | none=>rw [q] at e;cases e
 | some o =>
  rw [q] at e
  have e':(b,o)=p:=Option.some.inj e
  subst e'
  exact ⟨hb,q⟩
theorem Inv.pinned {pins:List (Addr×Obj)} {σ:St} {H:Hp} {s:Shared} {fp:List Addr} (I:Inv X pins σ H s) (hf:∀ b∈fp,lQ X pins H b) (ho:∀ b∈fp,∃ o,s.heap.get? b=some o/\∀ v,o.data≠.cell v):Inv X (pins++jY fp s.heap) σ H s :=
 I.xX fun p hp=>(List.mem_append.mp hp).elim (fun z=>I.pin p (List.mem_append_right _ z)) fun z=>by
  obtain ⟨hb,e⟩:=Aa z
  obtain ⟨f0,f1,f2,_⟩:=hf p.1 hb
  obtain ⟨o,e',d⟩:=ho p.1 hb
  rw [e] at e';cases e'
  exact ⟨e,f0,f1,f2,d⟩
theorem Inv.kx {pins pl:List (Addr×Obj)} {σ:St} {H:Hp} {s:Shared} (I:Inv X (pins++pl) σ H s):Inv X pins σ H s:=I.xX fun p hp=>I.pin p (List.mem_append_right _ (List.mem_append_left _ hp))
theorem FU {iter:Expr} {body:List Stmt} {wi:TI} {g:TG} {tb:TS} {pos:Pos} (hp:PassesOwn (model X.prog X.w) X.A X.env X.xe) (hc:X.calm=true) (hi:PI X tg iter wi) (hg:PG X tg g) (hb:lZ X body tb)
  (hs:∀ x,foldedSetIterable iter X.env x=pure x:=by intro _;rfl):PS X (.For tg iter body [] pos) (PQ wi g tb):=by
 intro pins s σ H D I h
 refine wpAny_For (bJ (hi pins s σ H _ I h) fun v s1 h1=>bJ h1 fun itv s2 h2=>?_) hs
 obtain ⟨it,fp,tn,J,H2,e,I2,T,st2,f2,W,⟨m0,w0⟩,turn⟩:=h2
 subst e
 have stat:∀ {H':Hp},(∀ b∈fp,H' b=none)->∀ b∈fp,lQ X pins H' b:=fun hn b hb=>⟨hn b hb,(f2 b hb).2⟩
 refine codeAny_forLoop_any (fun n s'=>∃ i σ' H',Inv X pins σ' H' s'/\tn i s'.heap/\(∀ b∈fp,H' b=none)/\W i n σ' H') ?_ m0 ⟨0,σ,H2,I2,st2,fun b hb=>(f2 b hb).1,w0⟩
 rintro n s3 ⟨i,σ3,H3,I3,st3,fr3,w3⟩
 rcases turn i n σ3 H3 w3 with ⟨stop,qn⟩ | ⟨go,N,hN,step⟩
 ·refine wpAny_passesOwn hp (bJ (T.done X rfl rfl rfl hc i pins s3 σ3 H3 X.xe I3 (stat fr3) st3 stop) fun r s4 ⟨hr,I4⟩=>?_)
  subst hr
  exact wpAny_execs_nil ⟨σ3,H3,I4,qn⟩
 ·refine wpAny_passesOwn hp (bJ (T.item X rfl rfl rfl hc i pins s3 σ3 H3 X.xe I3 (stat fr3) st3 go) fun r s4 ⟨u,hr,h4⟩=>?_)
  subst hr
  refine wpAny_passesOwn hp (bJ h4 fun _ s5 ⟨x,H5,I5,r5,y5,st5,fr5⟩=>?_)
  have I5':=I5.pinned (stat fr5) (T.obj _ _ st5)
  refine wpAny_passesOwn hp (bJ (hg _ s5 σ3 H5 x u _ I5' r5 (step x H5 y5)) fun _ s6 ⟨σ6,H6,I6,q6⟩=>?_)
  refine wpAny_passesOwn hp (bJ (hb _ s6 σ6 H6 _ I6 q6) fun f s7 q7=>?_)
  have again:∀ {σ7:St} {H7:Hp},Inv X (pins++jY fp s5.heap) σ7 H7 s7->N σ7 H7->∃ m,m<n/\∃ i σ' H',Inv X pins σ' H' s7/\tn i s7.heap/\(∀ b∈fp,H' b=none)/\W i m σ' H':=fun {σ7 H7} I7 n7=>by
   obtain ⟨m',hm,w7⟩:=hN σ7 H7 n7
   refine ⟨m',hm,i+1,σ7,H7,I7.kx,T.keep _ _ _ st5 fun b hb o e=>(I7.pin (b,o) (List.mem_append_right _ (List.mem_append_right _ (eX hb e)))).1,fun b hb=>?_,w7⟩
   obtain ⟨o,e,d⟩:=T.obj _ _ st5 b hb
   exact (I7.pin (b,o) (List.mem_append_right _ (List.mem_append_right _ (eX hb e)))).2.1
  cases f with
  | next=>obtain ⟨σ7,H7,I7,n7⟩:=q7;exact again I7 n7
  | cont=>obtain ⟨σ7,H7,I7,n7⟩:=q7;exact again I7 n7
  | brk=>obtain ⟨σ7,H7,I7,q7⟩:=q7;exact ⟨σ7,H7,I7.kx,q7⟩
  | ret v=>obtain ⟨x7,σ7,H7,I7,r7,q7⟩:=q7;exact ⟨x7,σ7,H7,I7.kx,r7,q7⟩
end
end L2
namespace L2
open PySem PySem.Spec PyProof.Rows
abbrev R2:=V->V->Hp->VK->Prop
def gf (X:Cx) (f:Value->Value->Sem Value) (r:R2):Prop :=
 ∀ (pins:List (Addr×Obj)) (s:Shared) (σ:St) (H:Hp) (x y:V) (v u:Value) (Q:VK),Inv X pins σ H s->RelV x v->RelV y u->r x y H Q ->
  wpAny (model X.prog X.w) X.A (f v u) (EP X pins σ Q) X.xe s
def Lw (X:Cx) (f:Value->Sem Value) (r:V->Hp->VK->Prop):Prop :=
 ∀ (pins:List (Addr×Obj)) (s:Shared) (σ:St) (H:Hp) (x:V) (v:Value) (Q:VK),Inv X pins σ H s->RelV x v->r x H Q ->
  wpAny (model X.prog X.w) X.A (f v) (EP X pins σ Q) X.xe s
def dH (X:Cx) (f:Value) (r:List V->Hp->VK->Prop):Prop :=
 ∀ (pins:List (Addr×Obj)) (s:Shared) (σ:St) (H:Hp) (xs:List V) (us:List Value) (Q:VK),Inv X pins σ H s->Vals xs us->r xs H Q ->
  wpAny (model X.prog X.w) X.A (call f us) (EP X pins σ Q) X.xe s
def JV (r:R2) (ta tb:TE):TE:=fun σ H Q=>ta σ H fun x H1=>tb σ H1 fun y H2=>r x y H2 Q
def QG (r:V->Hp->VK->Prop) (ta:TE):TE:=fun σ H Q=>ta σ H fun x H1=>r x H1 Q
def rI (C:Int->Int->Prop) (g:Int->Int->V):R2:=fun x y H Q=>∃ i j,x=.int i/\y=.int j/\C i j/\Q (g i j) H
def yB (g:Int->Int->V):R2:=fun x y H Q=>∃ i j,x=.int i/\y=.int j/\Q (g i j) H
def rU (g:Int->V):V->Hp->VK->Prop:=fun x H Q=>∃ i,x=.int i/\Q (g i) H
section
variable {X:Cx} {a b c:Expr} {ta tb tc:TE} {pos:Pos}
theorem Hv (ha:PE X a ta) (hb:PE X b tb) {pins:List (Addr×Obj)} {s:Shared} {σ:St} {H:Hp} {R:V->V->Hp->Prop} (I:Inv X pins σ H s)
  (h:ta σ H fun x H1=>tb σ H1 fun y H2=>R x y H2) {Q:Value->Shared->Prop} {f:Value->Value->Sem Value}
  (hf:∀ v u s2 x y H2,Inv X pins σ H2 s2->RelV x v->RelV y u->R x y H2->wpAny (model X.prog X.w) X.A (f v u) Q X.xe s2) :
  wpAny (model X.prog X.w) X.A (eval a X.env) (fun v s₁=>wpAny (model X.prog X.w) X.A (eval b X.env) (fun u s₂=>wpAny (model X.prog X.w) X.A (f v u) Q X.xe s₂) X.xe s₁) X.xe s:=by
 refine bJ (ha pins s σ H _ I h) fun v s1 ⟨x,H1,I1,r1,q1⟩=>?_
 refine bJ (hb pins s1 σ H1 _ I1 q1) fun u s2 ⟨y,H2,I2,r2,q2⟩=>?_
 exact hf v u s2 x y H2 I2 r1 r2 q2
theorem FC {op:Operator} {r:R2} (ho:gf X (binaryOp op) r) (ha:PE X a ta) (hb:PE X b tb):PE X (.BinOp a op b pos) (JV r ta tb):=by
 intro pins s σ H Q I h
 exact wpAny_BinOp (Hv ha hb I h fun v u s2 x y H2 I2 rx ry q=>ho pins s2 σ H2 x y v u Q I2 rx ry q)
theorem IF {op:UnaryOp} {r:V->Hp->VK->Prop} (ho:Lw X (unaryOp op) r) (ha:PE X a ta):PE X (.UnaryOp op a pos) (QG r ta):=by
 intro pins s σ H Q I h
 exact UnaryOp_ (bJ (ha pins s σ H _ I h) fun v s1 ⟨x,H1,I1,r1,q1⟩=>ho pins s1 σ H1 x v Q I1 r1 q1)
theorem Ki {f:Value->Value->Sem Value} {C:Int->Int->Prop} {g:Int->Int->Int}
  (rule:∀ (i j:Int) (t u:Tok) (s:Shared) (Q:Value->Shared->Prop) (E:Value->Shared->Prop),C i j->Q (.int (g i j) s.toks) { s with toks:=s.toks+1 }->wpAny (model X.prog X.w) X.A (f (.int i t) (.int j u)) Q E s) :
  gf X f (rI C fun i j=>.int (g i j)):=by
 intro pins s σ H x y v u Q I rx ry h
 obtain ⟨i,j,rfl,rfl,hc,q⟩:=h
 obtain ⟨t,rfl⟩:=rx
 obtain ⟨t',rfl⟩:=ry
 exact rule i j t t' s _ _ hc ⟨.int (g i j),H,I.tok _,⟨_,rfl⟩,q⟩
theorem J3 {f:Value->Value->Sem Value} {g:Int->Int->Int}
  (rule:∀ (i j:Int) (t u:Tok) (s:Shared) (Q:Value->Shared->Prop) (E:Value->Shared->Prop),Q (.int (g i j) s.toks) { s with toks:=s.toks+1 }->wpAny (model X.prog X.w) X.A (f (.int i t) (.int j u)) Q E s) :
  gf X f (yB fun i j=>.int (g i j)):=by
 intro pins s σ H x y v u Q I rx ry h
 obtain ⟨i,j,rfl,rfl,q⟩:=h
 obtain ⟨t,rfl⟩:=rx
 obtain ⟨t',rfl⟩:=ry
 exact rule i j t t' s _ _ ⟨.int (g i j),H,I.tok _,⟨_,rfl⟩,q⟩
theorem DJ {f:Value->Value->Sem Value} {g:Int->Int->Bool}
  (rule:∀ (i j:Int) (t u:Tok) (s:Shared) (Q:Value->Shared->Prop) (E:Value->Shared->Prop),Q (.bool (g i j)) s->wpAny (model X.prog X.w) X.A (f (.int i t) (.int j u)) Q E s) :
  gf X f (yB fun i j=>.bl (g i j)):=by
 intro pins s σ H x y v u Q I rx ry h
 obtain ⟨i,j,rfl,rfl,q⟩:=h
 obtain ⟨t,rfl⟩:=rx
 obtain ⟨t',rfl⟩:=ry
 exact rule i j t t' s _ _ ⟨.bl (g i j),H,I,rfl,q⟩
def HM (i j:Int):Prop:=0<=j/\j<=1000000/\i.natAbs<2^64
theorem Ii:gf X (binaryOp .Add) (yB fun i j=>.int (i+j)):=J3 fun _ _ _ _ _ _ _ q=>add_int q
theorem GI:gf X (binaryOp .Sub) (yB fun i j=>.int (i-j)):=J3 fun _ _ _ _ _ _ _ q=>sub_int q
theorem Dr:gf X (binaryOp .Mod) (rI (fun _ j=>j≠0) fun i j=>.int (i.fmod j)):=Ki fun _ _ _ _ _ _ _ hc q=>mod_int' hc q
theorem HJ:gf X (binaryOp .Pow) (rI HM fun i j=>.int (i^j.toNat)):=Ki fun _ _ _ _ _ _ _ hc q=>pow_int_small hc.1 hc.2.1 hc.2.2 q
theorem QP {f:Value->Sem Value} {g:Int->Int}
  (rule:∀ (i:Int) (t:Tok) (s:Shared) (Q:Value->Shared->Prop) (E:Value->Shared->Prop),Q (.int (g i) s.toks) { s with toks:=s.toks+1 }->wpAny (model X.prog X.w) X.A (f (.int i t)) Q E s) :
  Lw X f (rU fun i=>.int (g i)):=by
 intro pins s σ H x v Q I rx h
 obtain ⟨i,rfl,q⟩:=h
 obtain ⟨t,rfl⟩:=rx
 exact rule i t s _ _ ⟨.int (g i),H,I.tok _,⟨_,rfl⟩,q⟩
theorem Il:Lw X (unaryOp .USub) (rU fun i=>.int (-i)):=QP fun _ _ _ _ _ q=>neg_int q
end
section
variable {X:Cx} {a b c:Expr} {ta tb tc:TE} {pos:Pos}
theorem w9 {pins:List (Addr×Obj)} {σ:St} {H:Hp} {s:Shared} {Q:VK} {k k':Bool} (I:Inv X pins σ H s) (q:Q (.bl k) H) (e:k=k'):EP X pins σ Q (.bool k') s:=by
 subst e
 exact ⟨.bl k,H,I,rfl,q⟩
theorem ym:gf X (compareOp .Lt) (yB fun i j=>.bl (decide (i<j))):=DJ fun _ _ _ _ _ _ _ q=>lt_int q
theorem sT:gf X (compareOp .LtE) (yB fun i j=>.bl (decide (i<=j))):=DJ fun _ _ _ _ _ _ _ q=>le_int q
theorem Fj:gf X (compareOp .Gt) (yB fun i j=>.bl (decide (j<i))):=DJ fun _ _ _ _ _ _ _ q=>gt_int q
theorem FD:gf X (compareOp .GtE) (yB fun i j=>.bl (decide (j<=i))):=DJ fun _ _ _ _ _ _ _ q=>ge_int q
theorem A4:gf X (compareOp .Is) (fun x y H Q=>y=.cS/\Q (.bl (decide (x=.cS))) H):=by
 intro pins s σ H x y v u Q I rx ry h
 obtain ⟨rfl,q⟩:=h
 cases ry
 refine is_none_gen (w9 I q ?_)
 cases x <;> first
  | (cases rx;rfl)
  | (obtain ⟨t,rfl⟩:=rx;rfl)
theorem gf.or {f:Value->Value->Sem Value} {r r':R2} (h:gf X f r) (h':gf X f r'):gf X f (fun x y H Q=>r x y H Q\/r' x y H Q):=by
 intro pins s σ H x y v u Q I rx ry q
 rcases q with q | q
 ·exact h pins s σ H x y v u Q I rx ry q
 ·exact h' pins s σ H x y v u Q I rx ry q
theorem dq (b:Expr) {op:CmpOp} (h:op≠.In:=by decide) (h2:op≠.NotIn:=by decide):behindInMarks op b=false:=by
 have e1:(op==CmpOp.In)=false:=by cases op <;> first | rfl | exact absurd rfl h
 have e2:(op==CmpOp.NotIn)=false:=by cases op <;> first | rfl | exact absurd rfl h2
 cases b <;> simp [behindInMarks,e1,e2]
theorem DB {op:CmpOp} {r:R2} (ho:gf X (compareOp op) r) (ha:PE X a ta) (hb:PE X b tb) (hm:behindInMarks op b=false):PE X (.Compare a [op] [b] pos) (JV r ta tb):=by
 intro pins s σ H Q I h
 exact wpAny_Compare1 (Hv ha hb I h fun v u s2 x y H2 I2 rx ry q=>ho pins s2 σ H2 x y v u Q I2 rx ry q) hm
def Fl (t:TE):TT:=fun σ H Q=>t σ H fun x H'=>∃ k,x=.bl k/\Q k H'
theorem ET {op:CmpOp} {r:R2} (ho:gf X (compareOp op) r) (ha:PE X a ta) (hb:PE X b tb) (hm:behindInMarks op b=false):PT X (.Compare a [op] [b] pos) (Fl (JV r ta tb)):=by
 intro pins s σ H Q I h
 refine wpAny_isTrue_Compare1 (bJ (ha pins s σ H _ I h) fun v s1 ⟨x,H1,I1,r1,q1⟩=>bJ (hb pins s1 σ H1 _ I1 q1) fun u s2 ⟨y,H2,I2,r2,q2⟩ =>
  bJ (ho pins s2 σ H2 x y v u _ I2 r1 r2 q2) fun c s3 ⟨z,H3,I3,r3,k,e,q3⟩=>?_) hm
 subst e
 cases r3
 exact wpAny_truthy_bool ⟨H3,I3,q3⟩
def xn (r r':R2) (ta tb tc:TE):TE:=fun σ H Q=>ta σ H fun x H1=>tb σ H1 fun y H2=>r x y H2 fun z H3=>∃ k,z=.bl k ∧
 (if k=true then tc σ H3 fun w' H4=>r' y w' H4 Q else Q (.bl false) H3)
theorem Cb {op op':CmpOp} {r r':R2} (ho:gf X (compareOp op) r) (ho':gf X (compareOp op') r') (ha:PE X a ta) (hb:PE X b tb) (hc:PE X c tc)
  (hm:lastMarks [op,op'] [b,c]=false:=by with_unfolding_all rfl):PE X (.Compare a [op,op'] [b,c] pos) (xn r r' ta tb tc):=by
 intro pins s σ H Q I h
 refine Compare_chain (bJ (ha pins s σ H _ I h) fun v s1 ⟨x,H1,I1,r1,q1⟩=>chain_link (bJ (hb pins s1 σ H1 _ I1 q1) fun u s2 ⟨y,H2,I2,r2,q2⟩ =>
  bJ (ho pins s2 σ H2 x y v u _ I2 r1 r2 q2) fun d s3 ⟨z,H3,I3,r3,k,e,q3⟩=>?_)) hm
 subst e
 cases r3
 refine wpAny_truthy_bool ?_
 cases k with
 | false=>exact ite_ff ⟨.bl false,H3,I3,rfl,q3⟩
 | true=>exact ite_tt (chain_last (bJ (hc pins s3 σ H3 _ I3 q3) fun w' s4 ⟨z',H4,I4,r4,q4⟩=>ho' pins s4 σ H4 y z' u w' Q I4 r2 r4 q4))
theorem Cv {op op':CmpOp} {r r':R2} (ho:gf X (compareOp op) r) (ho':gf X (compareOp op') r') (ha:PE X a ta) (hb:PE X b tb) (hc:PE X c tc)
  (hm:lastMarks [op,op'] [b,c]=false:=by with_unfolding_all rfl):PT X (.Compare a [op,op'] [b,c] pos) (Fl (xn r r' ta tb tc)):=by
 intro pins s σ H Q I h
 refine isTrue_chain (bJ (ha pins s σ H _ I h) fun v s1 ⟨x,H1,I1,r1,q1⟩=>test_link (bJ (hb pins s1 σ H1 _ I1 q1) fun u s2 ⟨y,H2,I2,r2,q2⟩ =>
  bJ (ho pins s2 σ H2 x y v u _ I2 r1 r2 q2) fun d s3 ⟨z,H3,I3,r3,k,e,q3⟩=>?_)) hm
 subst e
 cases r3
 refine wpAny_truthy_bool ?_
 cases k with
 | false =>
  obtain ⟨k',e',q'⟩:=q3
  cases e'
  exact ite_ff ⟨H3,I3,q'⟩
 | true =>
  refine ite_tt (test_last (bJ (hc pins s3 σ H3 _ I3 q3) fun w' s4 ⟨z',H4,I4,r4,q4⟩=>bJ (ho' pins s4 σ H4 y z' u w' _ I4 r2 r4 q4) fun d' s5 ⟨z2,H5,I5,r5,k2,e2,q5⟩=>?_))
  subst e2
  cases r5
  exact wpAny_truthy_bool ⟨H5,I5,q5⟩
theorem mU:(sizeLine:Nat)<2^63:=by rw [sizeLine_eq];decide
theorem xw:gf X (binaryOp .Add) (fun x y H Q=>∃ i j,x=.str i/\y=.str j/\i.length+j.length<=sizeLine/\Q (.str (i++j)) H):=by
 intro pins s σ H x y v u Q I rx ry h
 obtain ⟨i,j,rfl,rfl,hz,q⟩:=h
 obtain ⟨t,rfl⟩:=rx
 obtain ⟨t',rfl⟩:=ry
 exact add_str (fun t' tk=>⟨.str (i++j),H,I.tok _,⟨_,rfl⟩,q⟩) hz
theorem vals1 {x:V} {us:List Value} (r:Vals [x] us):∃ u,us=[u]/\RelV x u:=by
 cases r with
 | cons r1 r2=>cases r2;exact ⟨_,rfl,r1⟩
theorem vals2 {x y:V} {us:List Value} (r:Vals [x,y] us):∃ u w',us=[u,w']/\RelV x u/\RelV y w':=by
 cases r with
 | cons r1 r2 =>
  cases r2 with
  | cons r3 r4=>cases r4;exact ⟨_,_,rfl,r1,r3⟩
theorem zM (hc:X.calm=true):dH X (.builtin "max") (fun xs H Q=>∃ i j,xs=[.int i,.int j]/\Q (.int (if j>i then j else i)) H):=by
 intro pins s σ H xs us Q I r h
 obtain ⟨i,j,rfl,q⟩:=h
 obtain ⟨u,w',rfl,⟨t,rfl⟩,⟨t',rfl⟩⟩:=vals2 r
 refine max_two_ints (I.ok.hd hc) fun h' tk k=>⟨_,H,I.kept k,?_,q⟩
 by_cases hj:j>i
 ·rw [if_pos hj,if_pos hj];exact ⟨_,rfl⟩
 ·rw [if_neg hj,if_neg hj];exact ⟨_,rfl⟩
end
end L2
namespace L2
open PySem PySem.Spec PyProof.Rows
structure xE (h:Heap) (x dx C:Addr) (mA:Str->Option Value):Prop where
 obj:h.get? x=some (PySem.W.instObj C dx)
 ns:h.Ns1 dx mA
 ne:dx≠x
theorem nP {h:Heap} {dx:Addr} {mA:Str->Option Value} (n:h.Ns1 dx mA):∃ od,h.get? dx=some od/\∀ name,PySem.W.lookIn name od=some (mA name):=by
 obtain ⟨o,es,ep,ho,hd,hk,_,hm⟩:=n
 refine ⟨o,ho,fun name=>?_⟩
 have e:=hm name
 unfold nsFind findBy at e
 rw [← Array.find?_toList] at e
 unfold PySem.W.lookIn
 rw [hd]
 dsimp only
 split
 ·rename_i y q
  rw [q] at e
  exact congrArg some e
 ·rename_i q
  rw [q] at e
  have a:es.toList.any (·.refKey)=false:=by
   rw [List.any_eq_false]
   intro y hy
   obtain ⟨z,t,hkey⟩:=hk y (Array.mem_toList_iff.mp hy)
   simp [DictEntry.refKey,hkey]
  have a':¬ es.toList.any (·.refKey)=true:=by rw [a];exact Bool.false_ne_true
  rw [if_neg a']
  exact congrArg some e
theorem xE.look {h:Heap} {x dx C:Addr} {mA:Str->Option Value} (I:xE h x dx C mA):∃ od,PySem.W.InstAt h x (PySem.W.instObj C dx) C (some od)/\∀ name,PySem.W.lookIn name od=some (mA name) :=
 let ⟨od,ho,hl⟩:=nP I.ns
 ⟨od,⟨I.obj,rfl,rfl,ho⟩,hl⟩
section
variable {prog:Program} {w:World} {A:Around} {E:Value->Shared->Prop} {s:Shared} {K:PySem.W.Frag} {x dx C f:Addr} {mA:Str->Option Value} {name:Str} {v:Value}
theorem get_map {expr:Bool} {Q:Value->Shared->Prop} (X:K.In s.heap) (I:xE s.heap x dx C mA) (hg:PySem.W.plainGet K C name=true) (hh:PySem.W.hasDictIn K C=true)
  (ha:PySem.W.findIn K (.ref C) name=some none) (hv:mA name=some v) (hv':PySem.W.handedIn v=true) (h:Q v { s with toks:=s.toks+1 }) :
  wpAny (model prog w) A (getAttr (.ref x) name expr) Q E s:=by
 obtain ⟨od,J,hl⟩:=I.look
 exact PySem.W.get_value X J (PySem.W.plainGet_of hg).1 (PySem.W.findObj_own hh ha rfl (by rw [hl,hv])) hv' h
theorem CT {pl:Sem Bool} {Q:Value×List Value->Shared->Prop} (X:K.In s.heap) (I:xE s.heap x dx C mA) (hg:PySem.W.plainGet K C name=true)
  (hf:PySem.W.findIn K (.ref C) name=some (some (.ref f))) (ht:PySem.W.isFn K (.ref f)=true) (hv:mA name=none) (h:Q (.ref f,[.ref x]) s) :
  wpAny (model prog w) A (getMethod (.ref x) name pl) Q E s:=by
 obtain ⟨od,J,hl⟩:=I.look
 exact PySem.W.method_fn X J (PySem.W.plainGet_of hg).1 (PySem.W.plainGet_of hg).2 hf (beq_iff_eq.mp ht) (by show (PySem.W.lookIn name od).map (·.isSome)=some false;rw [hl,hv];rfl) h
theorem Ex {ns:List Str} {Q:Unit->Shared->Prop} (X:K.In s.heap) (I:xE s.heap x dx C mA)
  (hs:PySem.W.findIn K (.ref C) "__setattr__" = some (some (.builtin "object.__setattr__"))) (hp:PySem.W.plainOver K C=true) (ht:PySem.W.takerIn K C name=some none) (hh:PySem.W.hasDictIn K C=true)
  (hw:PySem.Within mA ns) (hsz:ns.length<=sizeLine)
  (h:∀ h',xE h' x dx C (fun y=>if y=name then some v else mA y)->Heap.SameBut dx s.heap h'->Q () { s with heap:=h',toks:=s.toks+2 }) :
  wpAny (model prog w) A (setAttr (.ref x) name v) Q E s:=by
 obtain ⟨od,J,hl⟩:=I.look
 refine PySem.W.set_plain X J hs (PySem.W.osa_open (s:={ s with toks:=s.toks+1 }) (r:=none) X J hp ht fun b=>?_)
 obtain ⟨cd,hc,hd'⟩:=PySem.W.any_some hh
 have hx:s.heap.get? x=some ⟨.ref C,some dx,.plain,#[]⟩:=I.obj
 refine wpAny_bind (wpAny_pure (wpAny_bind (wpAny_bind (wpAny_loadPart hx (wpAny_bind (PySem.W.Looks.here (s:={ s with toks:=s.toks+1 }) (PySem.W.looks_clsIn X hc) ?_))))))
 rw [hd']
 refine wpAny_pure (a:=some dx) (wpAny_bind (wpAny_pure (wpAny_bind ?_)))
 refine wpAny_nsSet1 (s:={ s with toks:=s.toks+1 }) I.ns fun h' hn2 hs2=>?_
 obtain ⟨oD,esD,epD,hoD,hdD,hcD⟩:=hn2.count (PySem.Within.cons name v hw)
 refine wpAny_bind (wpAny_lookBehind hoD (by rw [hdD];exact pastItsLine_dict (Nat.le_trans hcD (by rw [List.length_cons];omega))) ?_)
 exact wpAny_pure (h _ ⟨(hs2.2 _ (Ne.symm I.ne)).trans I.obj,hn2,I.ne⟩ hs2)
theorem Au {R:Result->Shared->Prop} {vs:List Value} {kw:List (Str×Value)} (X:K.In s.heap) (hm:PySem.W.makesIn K C=true)
  (hi:PySem.W.findIn K (.ref C) "__init__" = some (some (.ref f))) (hf:PySem.W.typeIn K (.ref f)=some (.type "function"))
  (h:codeAny (model prog w) (A.under (.builtin "type.__call__" ⟨.ref C::vs,kw⟩)) (.call (.ref f) ⟨.ref (s.heap.objs.size+1)::vs,kw⟩) (PySem.W.InitBack (s.heap.objs.size+1) R)
   { s with heap:=(s.heap.push PySem.W.emptyDict).push (PySem.W.instObj C s.heap.objs.size) }) :
  codeAny (model prog w) A (.call (.ref C) ⟨vs,kw⟩) R s:=by
 obtain ⟨hh,g,d,t,os⟩:=s
 exact PySem.W.make_core (PySem.W.makes_of X hm) (PySem.W.looks_findIn X hi) (fun self=>PySem.W.bind_fn X self hf) (.inl rfl) h
end
def jH (f:Str) (v:V):List (Str×V)->List (Str×V)
 | []=>[(f,v)]
 | (g,x)::r=>if g=f then (g,v)::r else (g,x)::jH f v r
theorem n_ (f g:Str) (v:V):∀ fs:List (Str×V),(jH f v fs).lookup g=if g=f then some v else fs.lookup g
 | []=>by
  show List.lookup g [(f,v)]=_
  by_cases h:g=f
  ·have hb:(g==f)=true:=beq_iff_eq.mpr h
   simp only [List.lookup,hb,if_pos h]
  ·have hb:(g==f)=false:=beq_eq_false_iff_ne.mpr h
   simp only [List.lookup,hb,if_neg h]
 | (k,x)::r=>by
  have ih:=n_ f g v r
  rw [show jH f v ((k,x)::r)=(if k=f then (k,v)::r else (k,x)::jH f v r) from rfl]
  by_cases hk:k=f
  ·rw [if_pos hk]
   by_cases h:g=k
   ·have hb:(g==k)=true:=beq_iff_eq.mpr h
    simp only [List.lookup,hb,if_pos (h.trans hk)]
   ·have hb:(g==k)=false:=beq_eq_false_iff_ne.mpr h
    simp only [List.lookup,hb,if_neg (fun e:g=f=>h (e.trans hk.symm))]
  ·rw [if_neg hk]
   by_cases h:g=k
   ·have hb:(g==k)=true:=beq_iff_eq.mpr h
    simp only [List.lookup,hb,if_neg (fun e:g=f=>hk (h.symm.trans e))]
   ·have hb:(g==k)=false:=beq_eq_false_iff_ne.mpr h
    simp only [List.lookup,hb]
    exact ih
theorem nu (f:Str) (v:V):∀ fs:List (Str×V),f∈(jH f v fs).map (·.1)/\∀ g,g∈fs.map (·.1)->g∈(jH f v fs).map (·.1)
 | []=>⟨by simp [jH],fun g h=>by simp at h⟩
 | (k,x)::r=>by
  obtain ⟨i1,i2⟩:=nu f v r
  rw [show jH f v ((k,x)::r)=(if k=f then (k,v)::r else (k,x)::jH f v r) from rfl]
  by_cases hk:k=f
  ·rw [if_pos hk]
   subst hk
   exact ⟨by simp,fun g h=>by simpa using h⟩
  ·rw [if_neg hk]
   refine ⟨?_,fun g h=>?_⟩
   ·rw [List.map_cons]
    exact List.mem_cons_of_mem _ i1
   ·rw [List.map_cons] at h ⊢
    rcases List.mem_cons.mp h with e | e
    ·exact List.mem_cons.mpr (.inl e)
    ·exact List.mem_cons_of_mem _ (i2 g e)
theorem nZ (f:Str) (v:V):∀ fs:List (Str×V),(jH f v fs).length<=fs.length+1
 | []=>by simp [jH]
 | (k,x)::r=>by
  have ih:=nZ f v r
  rw [show jH f v ((k,x)::r)=(if k=f then (k,v)::r else (k,x)::jH f v r) from rfl]
  by_cases hk:k=f
  ·rw [if_pos hk,List.length_cons,List.length_cons];omega
  ·rw [if_neg hk,List.length_cons,List.length_cons];omega
theorem l_.some_of {v:V} {o:Option Value} (r:l_ (some v) o):∃ u,o=some u/\RelV v u:=by
 cases o with
 | none=>exact (show False from r).elim
 | some u=>exact ⟨u,rfl,r⟩
theorem l_.none_of {o:Option Value} (r:l_ none o):o=none:=by
 cases o with
 | none=>rfl
 | some u=>exact (show False from r).elim
theorem r_ {v:V} {u:Value} (r:RelV v u):PySem.W.handedIn u=true:=by
 cases v with
 | cS=>cases (show u=Value.none from r);rfl
 | bl b=>cases (show u=Value.bool b from r);rfl
 | int i=>obtain ⟨t,e⟩:=(show ∃ t,u=Value.int i t from r);cases e;rfl
 | str x=>obtain ⟨t,e⟩:=(show ∃ t,u=Value.str x t from r);cases e;rfl
 | byt b=>obtain ⟨t,e⟩:=(show ∃ t,u=Value.bytes b t from r);cases e;rfl
 | FG b=>obtain ⟨t,e⟩:=(show ∃ t,u=Value.float b t from r);cases e;rfl
 | ref a=>cases (show u=Value.ref a from r);rfl
 | ty n=>cases (show u=Value.type n from r);rfl
section
variable {P:Program} {w:World} {H H':Hp} {h h':Heap} {a C dx:Addr} {fs fs':List (Str×V)}
theorem l9 (a_:mV P w H h) (e:H a=some (.ins C dx fs)):∃ mA,xE h a dx C mA/\(∀ f,l_ (fs.lookup f) (mA f))/\PySem.Within mA (fs.map (·.1))/\fs.length<=1000/\H dx=some (.own a):=by
 obtain ⟨d,z,ne,ob,mA,n,r,q⟩:=(show bP P w H h a (.ins C dx fs) from a_ a _ e)
 exact ⟨mA,⟨ob,n,ne⟩,r,q,z,d⟩
end
structure nK (K:PySem.W.Frag) (C:Addr):Prop where
 pg:PySem.W.plainGet K C Str.empty=true
 hd:PySem.W.hasDictIn K C=true
 po:PySem.W.plainOver K C=true
 sa:PySem.W.findIn K (.ref C) "__setattr__" = some (some (.builtin "object.__setattr__"))
theorem nK.get {K:PySem.W.Frag} {C:Addr} (c:nK K C) (f:Str):PySem.W.plainGet K C f=true:=c.pg
def bp (K:PySem.W.Frag) (C:Addr) (f:Str):Prop:=PySem.W.findIn K (.ref C) f=some none
theorem bp.Fs {K:PySem.W.Frag} {C:Addr} {f:Str} (n:bp K C f):PySem.W.takerIn K C f=some none:=by
 unfold PySem.W.takerIn
 rw [show PySem.W.findIn K (.ref C) f=some none from n]
 rfl
structure Meth (K:PySem.W.Frag) (C:Addr) (m:Str) (f:Addr):Prop where
 at_:PySem.W.findIn K (.ref C) m=some (some (.ref f))
 fn:PySem.W.isFn K (.ref f)=true
 kp:PySem.W.keepIn K (.ref f)=true
section
variable {X:Cx} {pins:List (Addr×Obj)} {σ:St} {H:Hp} {s:Shared} {a C dx:Addr} {fs:List (Str×V)} {f:Str} {v:V} {A:Around} {E:Value->Shared->Prop}
theorem w6 {b:Bool} {Q:Value->Shared->Prop} (I:Inv X pins σ H s) (e:H a=some (.ins C dx fs)) (c:nK X.K C) (n:bp X.K C f) (l:fs.lookup f=some v)
  (h:∀ u s',Inv X pins σ H s'->RelV v u->Q u s'):wpAny (model X.prog X.w) A (getAttr (.ref a) f b) Q E s:=by
 obtain ⟨mA,O,r,_,_,_⟩:=l9 I.a_ e
 obtain ⟨u,hu,ru⟩:=l_.some_of (v:=v) (o:=mA f) (by rw [← l];exact r f)
 exact get_map I.jx O (c.get f) c.hd n hu (r_ ru) (h u _ (I.tok _) ru)
theorem qf {m:Str} {g:Addr} {pl:Sem Bool} {Q:Value×List Value->Shared->Prop} (I:Inv X pins σ H s) (e:H a=some (.ins C dx fs)) (c:nK X.K C) (k:Meth X.K C m g) (l:fs.lookup m=none)
  (h:Q (.ref g,[.ref a]) s):wpAny (model X.prog X.w) A (getMethod (.ref a) m pl) Q E s:=by
 obtain ⟨mA,O,r,_,_,_⟩:=l9 I.a_ e
 have hn:mA m=none:=l_.none_of (by rw [← l];exact r m)
 exact CT I.jx O (c.get m) k.at_ k.fn hn h
theorem wW {y:V} {u:Value} {Q:Unit->Shared->Prop} (I:Inv X pins σ H s) (e:H a=some (.ins C dx fs)) (c:nK X.K C) (n:bp X.K C f) (hl:fs.length<1000) (ry:RelV y u)
  (h:∀ s',Inv X pins σ (upd H a (.ins C dx (jH f y fs))) s'->Q () s'):wpAny (model X.prog X.w) A (setAttr (.ref a) f u) Q E s:=by
 obtain ⟨mA,O,r,wi,_,ho⟩:=l9 I.a_ e
 have hz:(fs.map (·.1)).length<=sizeLine:=by rw [List.length_map,sizeLine_eq];omega
 refine Ex I.jx O c.sa c.po n.Fs c.hd wi hz fun h' O' sb=>h _ ?_
 have hd:∃ o,h'.get? dx=some o:=let ⟨o,_,_,e',_⟩:=O'.ns;⟨o,e'⟩
 refine I.write (x:=a) (e:=dx) (by rw [e];exact True.intro) (.inr ho) (fun b q hb z=>(sb.2 b hb).trans z) hd ?_
 refine ⟨by rw [ar O.ne];exact ho,?_,O.ne,O'.obj,_,O'.ns,fun g=>?_,fun g hg=>?_⟩
 ·have:=nZ f y fs;omega
 ·show l_ ((jH f y fs).lookup g) (if g=f then some u else mA g)
  rw [n_]
  by_cases q:g=f
  ·rw [if_pos q,if_pos q];exact ry
  ·rw [if_neg q,if_neg q];exact r g
 ·by_cases q:g=f
  ·rw [q];exact (nu f y fs).1
  ·refine (nu f y fs).2 g (wi g fun z=>hg ?_)
   show (if g=f then some u else mA g)=none
   rw [if_neg q];exact z
theorem Inv.made (I:Inv X pins σ H s):Inv X pins σ (upd (upd H s.heap.objs.size (.own (s.heap.objs.size+1))) (s.heap.objs.size+1) (.ins C s.heap.objs.size []))
  { s with heap:=(s.heap.push PySem.W.emptyDict).push (PySem.W.instObj C s.heap.objs.size) }:=by
 have e1:(s.heap.push PySem.W.emptyDict).get? s.heap.objs.size=some PySem.W.emptyDict:=Heap.get?_push_size s.heap rfl
 have e2:((s.heap.push PySem.W.emptyDict).push (PySem.W.instObj C s.heap.objs.size)).get? (s.heap.objs.size+1)=some (PySem.W.instObj C s.heap.objs.size):=by
  have:=Heap.get?_push_size (s.heap.push PySem.W.emptyDict) (o:=PySem.W.instObj C s.heap.objs.size) rfl
  rwa [Heap.size_push] at this
 have e3:(s.heap.push PySem.W.emptyDict).Ns s.heap.objs.size (fun _=>none):=⟨PySem.W.emptyDict,#[],_,e1,rfl,(fun e he=>absurd he (by simp)),fun _=>rfl⟩
 have I1:=I.laid (a:=s.heap.objs.size) (o:=.own (s.heap.objs.size+1)) (h':=s.heap.push PySem.W.emptyDict) (t':=s.toks) (fun b u q=>Heap.get?_push_of_some _ q) (Nat.le_refl _) ⟨_,e1⟩
 refine I1.laid (a:=s.heap.objs.size+1) (o:=.ins C s.heap.objs.size []) (t':=s.toks) (fun b u q=>Heap.get?_push_of_some _ q) (Nat.le_of_eq (Heap.size_push _ _)) ?_
 have ne:s.heap.objs.size≠s.heap.objs.size+1:=Nat.ne_of_lt (Nat.lt_succ_self _)
 refine ⟨by rw [ar ne,aC],Nat.zero_le _,ne,e2,fun _=>none,(Heap.Ns1.of_empty e3).at fun o q=>Heap.get?_push_of_some _ q,fun _=>True.intro,fun y hy=>absurd rfl hy⟩
theorem yy {prog:Program} {w:World} {env:Env} {e:Expr} {f:Str} {pos:Pos} {s:Shared} {Q:Value->Shared->Prop} (hb:attributeBase e f env (eval e env)=eval e env)
  (h:wpAny (model prog w) A (eval e env) (fun o s₁=>wpAny (model prog w) A (getAttr o f true) Q E s₁) E s):wpAny (model prog w) A (eval (.Attribute e f pos) env) Q E s :=
 Attribute_any_ h (by rw [arm_eval_Attribute,hb])
end
def Ny (K:PySem.W.Frag) (ta:TE) (f:Str):TE:=fun σ H Q=>ta σ H fun x H1=>∃ a C dx fs v,x=.ref a/\H1 a=some (.ins C dx fs)/\nK K C/\bp K C f/\fs.lookup f=some v/\Q v H1
def Mt (K:PySem.W.Frag) (ta tv:TE) (f:Str):TS:=fun D σ H=>tv σ H fun y H1=>ta σ H1 fun x H2=>∃ a C dx fs,x=.ref a/\H2 a=some (.ins C dx fs)/\nK K C/\bp K C f/\fs.length<1000 ∧
 D.nx σ (upd H2 a (.ins C dx (jH f y fs)))
section
variable {X:Cx} {o e value:Expr} {f:Str} {pos pos' tpos:Pos} {ta tv:TE}
theorem Hz (he:PE X e ta) (hb:attributeBase e f X.env (eval e X.env)=eval e X.env):PE X (.Attribute e f pos) (Ny X.K ta f):=by
 intro pins s σ H Q I h
 refine yy hb (bJ (he pins s σ H _ I h) fun u s1 ⟨x,H1,I1,rx,a,C,dx,fs,v,ex,ea,c,n,l,q⟩=>?_)
 subst ex
 obtain rfl:u=Value.ref a:=rx
 exact w6 I1 ea c n l fun u' s2 I2 ru=>⟨v,H1,I2,ru,q⟩
theorem GP (ha:PE X o ta) (hv:PE X value tv) (hs:swapsWith value (some (.Attribute o f pos')) pos.line X.env=pure false):PS X (.Assign [.Attribute o f pos'] value pos) (Mt X.K ta tv f):=by
 intro pins s σ H D I h
 refine plainObj_wpAny_Assign_Attribute (bJ (hv pins s σ H _ I h) fun u s1 ⟨y,H1,I1,ry,q⟩=>bJ (ha pins s1 σ H1 _ I1 q) fun ov s2 ⟨x,H2,I2,rx,a,C,dx,fs,ex,ea,c,n,l,q2⟩=>?_) hs
 subst ex
 obtain rfl:ov=Value.ref a:=rx
 exact wW I2 ea c n l ry fun s3 I3=>⟨σ,_,I3,q2⟩
end
section
variable {X:Cx} {pins:List (Addr×Obj)} {σ:St} {H:Hp} {s:Shared} {A:Around} {E:Value->Shared->Prop} {Q:Value->Shared->Prop} {c:Value} {b:Bool}
inductive jK (K:PySem.W.Frag) (H:Hp):V->Value->Prop where
 | cS:jK K H .cS (.type "NoneType")
 | bl (x:Bool):jK K H (.bl x) (.type "bool")
 | int (i:Int):jK K H (.int i) (.type "int")
 | str (x:Str):jK K H (.str x) (.type "str")
 | FG (x:UInt64):jK K H (.FG x) (.type "float")
 | lst {a:Addr} {xs:List V} (e:H a=some (.lst xs)):jK K H (.ref a) (.type "list")
 | rK {a:Addr} {o:Obj} {xs:List V} (e:H a=some (.rK o (.lst xs))):jK K H (.ref a) (.type "list")
 | tup {a:Addr} {xs:List V} (e:H a=some (.tup xs)):jK K H (.ref a) (.type "tuple")
 | dK {a:Addr} {kvs:List (Key×V)} (e:H a=some (.dK kvs)):jK K H (.ref a) (.type "dict")
 | dT {a:Addr} {kvs:List (List Key×V)} (e:H a=some (.dT kvs)):jK K H (.ref a) (.type "dict")
 | ins {a C dx:Addr} {fs:List (Str×V)} (e:H a=some (.ins C dx fs)) (cl:nK K C) (ha:PySem.W.findIn K (.ref C) "__class__" = some (some (.builtin "object.__class__")))
   (hn:PySem.W.specialIn K (.builtin "object.__class__") "__get__" = some (some (.builtin "getset_descriptor.__get__"))) (Iz:PySem.W.takesIn K (.builtin "object.__class__")=some true)
   (hm:PySem.W.mroIn K C (.type "object")=some true):jK K H (.ref a) (.ref C)
theorem yT {x:V} {u t:Value} (I:Inv X pins σ H s) (rx:RelV x u) (ty:jK X.K H x t) (e:PySem.W.kitOne X.K t c=some b) (h:∀ tk,Q (.bool b) { s with toks:=tk }) :
  wpAny (model X.prog X.w) A (call (.builtin "isinstance") [u,c]) Q E s:=by
 cases ty with
 | cS=>cases (show u=Value.none from rx);exact PySem.W.kia_one PySem.W.kitx_none I.jx True.intro e (fun z=>nomatch z) h
 | bl y=>cases (show u=Value.bool y from rx);exact PySem.W.kia_one PySem.W.kitx_bool I.jx True.intro e (fun z=>nomatch z) h
 | int i=>obtain ⟨t,q⟩:=(show ∃ t,u=Value.int i t from rx);cases q;exact PySem.W.kia_one PySem.W.kitx_int I.jx True.intro e (fun z=>nomatch z) h
 | str y=>obtain ⟨t,q⟩:=(show ∃ t,u=Value.str y t from rx);cases q;exact PySem.W.kia_one PySem.W.kitx_str I.jx True.intro e (fun z=>nomatch z) h
 | FG y=>obtain ⟨t,q⟩:=(show ∃ t,u=Value.float y t from rx);cases q;exact PySem.W.kia_one PySem.W.kitx_float I.jx True.intro e (fun z=>nomatch z) h
 | @lst a xs ea =>
  cases (show u=Value.ref a from rx)
  obtain ⟨_,_,n,_,h1⟩:=(show bP X.prog X.w H s.heap a (.lst xs) from I.a_ a _ ea)
  exact PySem.W.kia_one PySem.W.kitx_list I.jx ⟨_,h1,rfl⟩ e (fun z=>nomatch z) h
 | @rK a ob xs ea =>
  cases (show u=Value.ref a from rx)
  obtain ⟨_,_,_,n,_,h1⟩:=(show bP X.prog X.w H s.heap a (.rK ob (.lst xs)) from I.a_ a _ ea)
  exact PySem.W.kia_one PySem.W.kitx_list I.jx ⟨_,h1,rfl⟩ e (fun z=>nomatch z) h
 | @tup a xs ea =>
  cases (show u=Value.ref a from rx)
  obtain ⟨_,_,_,p⟩:=(show bP X.prog X.w H s.heap a (.tup xs) from I.a_ a _ ea)
  obtain ⟨o,h1,h2,_⟩:=p
  exact PySem.W.kia_one PySem.W.kitx_tuple I.jx ⟨o,h1,h2⟩ e (fun z=>nomatch z) h
 | @dK a kvs ea =>
  cases (show u=Value.ref a from rx)
  obtain ⟨_,_,vs,_,p⟩:=(show bP X.prog X.w H s.heap a (.dK kvs) from I.a_ a _ ea)
  obtain ⟨o,es,ep,h1,h2,_⟩:=p
  exact PySem.W.kia_one PySem.W.kitx_dict I.jx ⟨o,h1,h2.1⟩ e (fun z=>nomatch z) h
 | @dT a kvs ea =>
  cases (show u=Value.ref a from rx)
  obtain ⟨_,_,xs,_,o,es,ep,h1,h2,_⟩:=(show bP X.prog X.w H s.heap a (.dT kvs) from I.a_ a _ ea)
  exact PySem.W.kia_one PySem.W.kitx_dict I.jx ⟨o,h1,h2.1⟩ e (fun z=>nomatch z) h
 | @ins a C dx fs ea cl ha hn Iz hm =>
  cases (show u=Value.ref a from rx)
  obtain ⟨mA,O,_⟩:=l9 I.a_ ea
  obtain ⟨od,J,_⟩:=O.look
  exact PySem.W.kia_one (PySem.W.kitx_own (cl.get _) cl.hd ha hn Iz hm) I.jx J e (fun z=>nomatch z) h
end
end L2
namespace L2
open PySem PySem.Spec PyProof.Rows
structure bV (k:Nat) (A:Around):Prop where
 hd:A.handled=none
 dp:A.depth+3*k+5<recursionLimit
 un:A.units+16*k+200<cLine
theorem bV.mono {j k:Nat} {A:Around} (r:bV k A) (h:j<=k):bV j A:=⟨r.hd,by have:=r.dp;omega,by have:=r.un;omega⟩
theorem bV.deeper {k:Nat} {A:Around} (r:bV (k+1) A) (env:Env):bV k (A.deeper env) :=
 ⟨r.hd,by have:=r.dp;show A.depth+1+3*k+5<_;omega,by have:=r.un;show A.units+3+16*k+200<_;omega⟩
theorem wB {A:Around} {C:Addr} {us:List Value} {kw:List (Str×Value)}:(A.under (.builtin "type.__call__" ⟨.ref C::us,kw⟩)).depth=A.depth+1:=by
 first | rfl | simp [Around.under,Code.weight,Code.isCreation,Code.isGuard,Code.isCaller,Code.frames,Code.isFrame,guardIds]
theorem wC {A:Around} {C:Addr} {us:List Value} {kw:List (Str×Value)}:(A.under (.builtin "type.__call__" ⟨.ref C::us,kw⟩)).units=A.units+1:=by
 first | rfl | simp [Around.under,Code.cUnits,Code.frames,Code.isFrame]
theorem bV.make {k:Nat} {A:Around} (r:bV (k+1) A) (C:Addr) (us:List Value) (kw:List (Str×Value)):bV k (A.under (.builtin "type.__call__" ⟨.ref C::us,kw⟩)) :=
 ⟨r.hd,by have:=r.dp;rw [wB];omega,by have:=r.un;rw [wC];omega⟩
theorem bV.depth {k:Nat} {A:Around} (r:bV k A):A.depth<recursionLimit:=by have:=r.dp;omega
theorem bV.units {k:Nat} {A:Around} (r:bV k A):A.units+64<cLine:=by have:=r.un;omega
def JX:TA:=fun _ H Q=>Q [] H
def J7 (ta:TE) (tr:TA):TA:=fun σ H Q=>ta σ H fun x H1=>tr σ H1 fun xs H2=>Q (x::xs) H2
section
variable {X:Cx} {e:Expr} {es:List Expr} {te:TE} {t:TA} {pos:Pos}
theorem qr:PA X [] JX:=fun _ _ _ _ H Q I h=>Calls.spliced_nil ⟨[],H,I,.nil,h⟩
theorem ig (ha:PE X e te) (hr:PA X es t) (hs:starEach (e::es) X.env=(false,eval e X.env)::starEach es X.env:=by rfl):PA X (e::es) (J7 te t):=by
 intro pos pins s σ H Q I h
 rw [hs]
 show wpAny _ _ (spliced ((false,eval e X.env)::backTo pos (starEach es X.env))) _ _ s
 refine Calls.spliced_cons (bJ (ha pins s σ H _ I h) fun u s1 ⟨x,H1,I1,r1,q1⟩=>?_)
 exact bJ (hr pos pins s1 σ H1 _ I1 q1) fun us s2 ⟨xs,H2,I2,r2,q2⟩=>⟨x::xs,H2,I2,.cons r1 r2,q2⟩
def Ou (t:TA):TE:=fun σ H Q=>t σ H fun xs H1=>xs.length<=sizeLine/\∀ p,H1 p=none->Q (.ref p) (upd H1 p (.tup xs))
def P6 (t:TA):TE:=fun σ H Q=>t σ H fun xs H1=>xs.length<=sizeLine/\∀ p,H1 p=none->Q (.ref p) (upd H1 p (.lst xs))
theorem Ar {x1} (h:PA X es t):PE X (.Tuple es x1 pos) (Ou t):=by
 intro pins s σ H Q I hq
 refine wpAny_Tuple_spliced (bJ (h pos pins s σ H _ I hq) fun us s1 ⟨xs,H1,I1,r,z,q⟩=>⟨by rw [← r.length];exact z,?_⟩)
 have hf:H1 s1.heap.objs.size=none:=I1.a_.fresh (Nat.le_refl _)
 refine ⟨.ref s1.heap.objs.size,upd H1 s1.heap.objs.size (.tup xs),I1.laid (t':=s1.toks) (fun b u e=>Heap.get?_push_of_some _ e) (Nat.le_refl _) ?_,rfl,q _ hf⟩
 exact ⟨z,us,r,⟨_,Heap.get?_push_size _ rfl,rfl,_,rfl⟩⟩
theorem CU (h:PA X es t):PE X (.List es pos) (P6 t):=by
 intro pins s σ H Q I hq
 refine wpAny_List_spliced (bJ (h pos pins s σ H _ I hq) fun us s1 ⟨xs,H1,I1,r,z,q⟩=>⟨by rw [← r.length];exact z,?_⟩)
 have hf:H1 s1.heap.objs.size=none:=I1.a_.fresh (Nat.le_refl _)
 refine ⟨.ref s1.heap.objs.size,upd H1 s1.heap.objs.size (.lst xs),I1.laid (t':=s1.toks) (fun b u e=>Heap.get?_push_of_some _ e) (Nat.le_refl _) ?_,rfl,q _ hf⟩
 exact ⟨z,us,0,r,Heap.get?_push_size _ rfl⟩
end
abbrev Sp:=List V->Hp->VK->XK->Prop
abbrev Ec:=List Env->Hp->Shared->XK->Value->Shared->Prop
structure xr (P:Program) (w:World) (K:PySem.W.Frag) (mg:Str->Option Value) (base:Heap) (A:Around) (outer:List Env) (s:Shared) (H:Hp):Prop where
 frames:A.frames=some outer
 mod:Mod K mg base
 bs:∀ b o,base.get? b=some o->s.heap.get? b=some o/\H b=none
 Ao:base.objs.size<=s.heap.objs.size
 lW:s.heap.FunFrames base outer
 Dl:∀ b∈wu outer,H b=none
 a_:mV P w H s.heap
 bare:AllBare s.gens
def CE (outer:List Env) (P:Program) (w:World) (H:Hp) (s:Shared) (Q:VK) (u:Value) (s':Shared):Prop :=
 ∃ v H',s'.os=s.os/\AllBare s'.gens/\Un (wu outer) [] H H' s.heap s'.heap/\mV P w H' s'.heap/\RelV v u/\Q v H'
def CR (CX:Ec) (outer:List Env) (P:Program) (w:World) (H:Hp) (s:Shared) (Q:VK) (E:XK) (r:Result) (s':Shared):Prop :=
 match r with
 | .ok (.ret u)=>CE outer P w H s Q u s'
 | .ok _=>False
 | .error e=>CX outer H s E e s'
structure aN (P:Program) (w:World) (K:PySem.W.Frag) (mg:Str->Option Value) (base:Heap) (CX:Ec) (k:Nat) (f:Addr) (fd:FuncData) (ps:List Str) (sp:Sp):Prop where
 len:∀ vs H Q E,sp vs H Q E->vs.length=ps.length
 run:∀ (A:Around) (outer:List Env) (s:Shared) (H:Hp) (args:Args) (us:List Value) (vs:List V) (Q:VK) (E:XK),bV k A->xr P w K mg base A outer s H->BindsTo s fd args (ps.zip us)->Vals vs us->sp vs H Q E ->
  codeAny (model P w) A (.call (.ref f) args) (CR CX outer P w H s Q E) s
theorem xr.make {P:Program} {w:World} {K:PySem.W.Frag} {mg:Str->Option Value} {base:Heap} {A:Around} {outer:List Env} {s:Shared} {H:Hp} (e:xr P w K mg base A outer s H) (C:Addr) (us:List Value) (kw:List (Str×Value)) :
  xr P w K mg base (A.under (.builtin "type.__call__" ⟨.ref C::us,kw⟩)) outer s H:=⟨by first | exact e.frames | (simpa [Around.under,Code.envs,Code.isFrame,pushEnvs] using e.frames),e.mod,e.bs,e.Ao,e.lW,e.Dl,e.a_,e.bare⟩
section
variable {X:Cx} {pins:List (Addr×Obj)} {σ:St} {H:Hp} {s s':Shared}
theorem Inv.lP (I:Inv X pins σ H s):xr X.prog X.w X.K X.mg X.base X.A X.stack s H :=
 ⟨I.ok.frames,I.ok.mod,I.bs,Nat.le_trans I.ok.Ao I.sz,I.stack,I.o_,I.a_,I.bare⟩
theorem Inv.after {Q:VK} {u:Value} (I:Inv X pins σ H s) (h:CE X.stack X.prog X.w H s Q u s'):EP X pins σ Q u s':=by
 obtain ⟨v,H',os,bare,un,a_,r,q⟩:=h
 obtain ⟨hh,g,d,t,os'⟩:=s'
 obtain rfl:os'=s.os:=os
 exact ⟨v,H',I.call (h':=hh) (g':=g) (d':=d) (t':=t) (ch:=[]) un a_ bare (fun b z=>absurd z (by simp)),r,q⟩
end
def Binds (K:PySem.W.Frag) (fd:FuncData) (ps:List Str) (ds:List Value):Prop :=
 ∀ (s:Shared) (us:List Value),K.In s.heap->(us++ds).length=ps.length->BindsTo s fd ⟨us,[]⟩ (ps.zip (us++ds))
theorem Binds.all {K:PySem.W.Frag} {fd:FuncData} {ps:List Str} (h:∀ us:List Value,us.length=ps.length->bindArgs fd ⟨us,[]⟩=pure (ps.zip us)):Binds K fd ps []:=fun s us _ hl=>by
 rw [List.append_nil] at hl ⊢
 exact .of_eq (h us hl)
section
variable {X:Cx} {CX:Ec} {k:Nat} {f C:Addr} {fd:FuncData} {ps:List Str} {sp:Sp} {dvs:List V} {ds:List Value} {E:XK} {x m:Str} {p pos apos:Pos} {e o:Expr} {es:List Expr} {ta:TE} {t:TA}
structure Mk (K:PySem.W.Frag) (C f:Addr):Prop where
 makes:PySem.W.makesIn K C=true
 init:PySem.W.findIn K (.ref C) "__init__" = some (some (.ref f))
 fn:PySem.W.isFn K (.ref f)=true
 kp:PySem.W.keepIn K (.ref C)=true
end
section
variable {X:Cx} {CX:Ec} {k:Nat} {f C:Addr} {fd:FuncData} {ps ks:List Str} {sp:Sp} {E:XK} {x m:Str} {p pos apos kpos:Pos} {e o:Expr} {es:List Expr} {kws:List Keyword} {te ta:TE} {t tk:TA} {nm:Option Str}
variable {g:List Value->List Value->List Value} {gV:List V->List V->List V}
end
structure ay (N P:List Str) (sc:Scope):Prop where
 kind:sc.kind=.function
 co:sc.isCoroutine=false
 gen:sc.isGenerator=false
 nd:N.Nodup
 pre:N.take P.length=P
 par:∀ x∈P,sc.names.lookup x=some .local\/sc.names.lookup x=some .cell
 HX:∀ y∈sc.names,y.2≠.free
theorem sj {kindOf:Str->Option NameKind} {x:Str}:∀ {binds:List (Str×Value)} {m:Str->Option Value},(∀ v,(x,v) ∉ binds)->bindL kindOf binds m x=m x
 | [],_,_=>rfl
 | (n,v)::r,m,h=>by
  unfold bindL
  rw [sj fun w hw=>h w (List.mem_cons_of_mem _ hw)]
  split
  ·have:x≠n:=by rintro rfl;exact h v List.mem_cons_self
   simp [this]
  ·rfl
theorem sS {kindOf:Str->Option NameKind} {x:Str}:∀ {binds:List (Str×Value)} {m:Str->Option Value},(∀ v,(x,v) ∉ binds)->bindC kindOf binds m x=m x
 | [],_,_=>rfl
 | (n,v)::r,m,h=>by
  unfold bindC
  rw [sS fun w hw=>h w (List.mem_cons_of_mem _ hw)]
  split
  ·rfl
  ·have:x≠n:=by rintro rfl;exact h v List.mem_cons_self
   simp [this]
theorem sk {kindOf:Str->Option NameKind} {x:Str} {v:Value}:∀ {P:List Str} {vs:List Value} {i:Nat} {m:Str->Option Value},P.Nodup->P[i]?=some x->vs[i]?=some v->kindOf x=some .local ->
  bindL kindOf (P.zip vs) m x=some v
 | [],_,_,_,_,h,_,_=>by simp at h
 | _::_,[],_,_,_,_,h,_=>by simp at h
 | p::P,w::vs,0,m,nd,h1,h2,hk=>by
  simp at h1 h2;subst h1;subst h2
  show bindL kindOf ((p,w)::P.zip vs) m p=_
  unfold bindL
  rw [sj fun v hv=>(List.nodup_cons.mp nd).1 (List.of_mem_zip hv).1,if_pos hk]
  simp
 | p::P,w::vs,i+1,m,nd,h1,h2,hk=>by
  show bindL kindOf ((p,w)::P.zip vs) m x=_
  unfold bindL
  exact sk (i:=i) (List.nodup_cons.mp nd).2 (by simpa using h1) (by simpa using h2) hk
theorem sO {kindOf:Str->Option NameKind} {x:Str} {v:Value}:∀ {P:List Str} {vs:List Value} {i:Nat} {m:Str->Option Value},P.Nodup->P[i]?=some x->vs[i]?=some v->kindOf x≠some .local ->
  bindC kindOf (P.zip vs) m x=some v
 | [],_,_,_,_,h,_,_=>by simp at h
 | _::_,[],_,_,_,_,h,_=>by simp at h
 | p::P,w::vs,0,m,nd,h1,h2,hk=>by
  simp at h1 h2;subst h1;subst h2
  show bindC kindOf ((p,w)::P.zip vs) m p=_
  unfold bindC
  rw [sS fun v hv=>(List.nodup_cons.mp nd).1 (List.of_mem_zip hv).1,if_neg hk]
  simp
 | p::P,w::vs,i+1,m,nd,h1,h2,hk=>by
  show bindC kindOf ((p,w)::P.zip vs) m x=_
  unfold bindC
  exact sO (i:=i) (List.nodup_cons.mp nd).2 (by simpa using h1) (by simpa using h2) hk
def start (N:List Str) (vs:List V):St:=vs.map some++List.replicate (N.length-vs.length) none
def ot (CX:Ec) (P:Program) (w:World) (K:PySem.W.Frag) (mg:Str->Option Value) (base:Heap) (N:List Str) (qual:Str) (scope:Scope) (f:Addr) (cd:Value) (A:Around) (outer:List Env) (s:Shared) (H:Hp) (E:XK):Cx where
 prog:=P
 w:=w
 K:=K
 mg:=mg
 base:=base
 A:=A.deeper (envOfC qual scope s.heap.objs.size f cd)
 N:=N
 s₀:=s
 H₀:=H
 env:=envOfC qual scope s.heap.objs.size f cd
 outer:=outer
 stack:=envOfC qual scope s.heap.objs.size f cd::outer
 ex:=[]
 calm:=true
 fn:=fun _=>true
 pn:=[]
 xe:=fun e s'=>wpAny (model P w) (A.deeper (envOfC qual scope s.heap.objs.size f cd)) (leaving (envOfC qual scope s.heap.objs.size f cd) e) (fun _ s''=>CX outer H s E e s'') (fun e' s''=>CX outer H s E e' s'') s'
theorem vx {sc:Scope} {n:Nat} {x:Str} (h:sc.names.lookup x=some .cell):∃ c,(cellsFrom n sc.names []).lookup x=some c:=by
 have q:=PySem.W.cellsFrom_some sc.names n [] (.inl h)
 exact Option.isSome_iff_exists.mp q
theorem z8 {CX:Ec} {P:Program} {w:World} {K:PySem.W.Frag} {mg:Str->Option Value} {base:Heap} {N ps:List Str} {qual:Str} {scope:Scope} {f:Addr} {cd:Value} {A:Around} {outer:List Env} {s s1:Shared} {H:Hp} {E:XK} {us:List Value} {vs:List V}
  (S:ay N ps scope) (hd:A.handled=none) (e0:xr P w K mg base A outer s H) (hl:vs.length=ps.length) (r:Vals vs us)
  (x:InCallC s s.heap.objs.size (bindL (envOfC qual scope s.heap.objs.size f cd).kindOf (ps.zip us) fun _=>none) (cellsFrom (s.heap.objs.size+1) scope.names []) (bindC (envOfC qual scope s.heap.objs.size f cd).kindOf (ps.zip us) fun _=>none) s1) :
  Inv (ot CX P w K mg base N qual scope f cd A outer s H E) [] (start N vs) H s1:=by
 have hpl:ps.length<=N.length:=by have:=congrArg List.length S.pre;rw [List.length_take] at this;omega
 obtain ⟨h1,tk,rfl,hk⟩:=x.done
 have nv:∀ b:Addr,b ∉ (ot CX P w K mg base N qual scope f cd A outer s H E).ex:=fun b z=>absurd (show b∈([]:List Addr) from z) (by simp)
 refine ⟨⟨e0.mod,S.kind,rfl,rfl,Nat.le_refl _,fun y z c h1 h2=>?_,fun y hy=>?_,fun y c _ h=>?_,fun _=>hd,Around.frames_deeper e0.frames,.inr ⟨rfl,rfl⟩,fun b z=>absurd z (nv b),e0.bs,e0.Ao,fun b _ _=>nv b,fun b z=>absurd z (nv b),e0.lW,e0.Dl⟩,
  rfl,e0.bare,Un.kept hk,⟨_,x.toInCall.ns,fun i y v h1 h2 h3=>?_⟩,fun y c h=>⟨_,x.cell y c h⟩,e0.a_.fresh (Nat.le_refl _),fun y c h=>?_,fun p hp=>absurd (show p∈([]:List (Addr×Obj)) from hp) (by simp),e0.a_.kept hk,?_⟩
 ·exact name_of_addr x.apart (PySem.mem_of_lookup h1) (PySem.mem_of_lookup h2)
 ·have hy:scope.names.lookup y=some .cell\/scope.names.lookup y=some .free:=hy
  rcases hy with hy | hy
  ·exact vx hy
  ·exact absurd rfl (S.HX _ (PySem.mem_of_lookup hy))
 ·exact Nat.le_of_lt (x.above y c (PySem.mem_of_lookup h))
 ·have hi:i<vs.length:=by
   unfold start at h2
   by_cases hi:i<vs.length
   ·exact hi
   ·rw [List.getElem?_append_right (by simpa using hi)] at h2
    rw [List.getElem?_replicate] at h2
    split at h2 <;> cases h2
  have ha:vs[i]?=some v:=by
   unfold start at h2
   rw [List.getElem?_append_left (by simpa using hi),List.getElem?_map] at h2
   cases e:vs[i]? with
   | none=>rw [e] at h2;cases h2
   | some a=>rw [e] at h2;cases h2;rfl
  obtain ⟨u,hu,rv⟩:=r.get ha
  have hp:ps[i]?=some y:=by
   rw [← S.pre,List.getElem?_take_of_lt (by omega)];exact h1
  have ndP:ps.Nodup:=by rw [← S.pre];exact S.nd.sublist (List.take_sublist _ _)
  refine ⟨u,rv,?_⟩
  rcases S.par y (List.mem_of_getElem? hp) with k | k
  ·exact .inl ⟨k,sk ndP hp hu k⟩
  ·obtain ⟨c,e⟩:=vx (n:=s.heap.objs.size+1) k
   refine .inr ⟨.inl k,c,e,?_⟩
   have q:=x.cell y c e
   rw [sO ndP hp hu (by show scope.names.lookup y≠_;rw [k];decide)] at q
   exact q
 ·exact e0.a_.fresh (Nat.le_of_lt (x.above y c (PySem.mem_of_lookup h)))
 ·unfold start
  show _=N.length
  rw [List.length_append,List.length_map,List.length_replicate]
  omega
theorem Jb {CX:Ec} {P:Program} {w:World} {K:PySem.W.Frag} {mg:Str->Option Value} {base:Heap} {k:Nat} {f:Addr} {name qual:Str} {params:Arguments} {body:List Stmt} {scope:Scope} {dV kV doc pm cdv ct oc:Value} {an od:Option Addr}
  {osl:Array (Option Value)} {N ps:List Str} {sp:Sp} (lk:K.lookup f=some ⟨oc,od,.func (PySem.W.fnOf name qual params body scope dV kV doc pm an cdv ct),osl⟩) (hcd:PySem.W.codeIn K cdv qual=true) (S:ay N ps scope)
  (len:∀ vs H Q E,sp vs H Q E->vs.length=ps.length)
  (hbody:∀ (A:Around) (outer:List Env) (s:Shared) (H:Hp) (vs:List V) (Q:VK) (E:XK),bV k (A.deeper (envOfC qual scope s.heap.objs.size f cdv))->sp vs H Q E ->
   ∃ t,lZ (ot CX P w K mg base N qual scope f cdv A outer s H E) body t/\t { nx:=fun _ H'=>Q .cS H',rt:=Q } (start N vs) H) :
  aN P w K mg base CX (k+1) f (PySem.W.fnOf name qual params body scope dV kV doc pm an cdv ct) ps sp:=by
 refine ⟨len,fun A outer s H args us vs Q E hr e0 hb r hsp=>?_⟩
 have hl:=len _ _ _ _ hsp
 have KX:K.In s.heap:=e0.mod.E_.keeps fun b o e=>(e0.bs b o e).1
 have lim:s.heap.NoLimit:=e0.mod.nolimit.keeps fun b o e=>(e0.bs b o e).1
 have hkind:∀ y∈ps.zip us,scope.names.lookup y.1=some .local\/(scope.names.lookup y.1=some .cell/\((cellsFrom (s.heap.objs.size+1) scope.names []).lookup y.1).isSome=true):=fun ⟨n,v⟩ hy=>by
  rcases S.par n (List.of_mem_zip hy).1 with q | q
  ·exact .inl q
  ·exact .inr ⟨q,PySem.W.cellsFrom_some _ _ _ (.inl q)⟩
 refine codeAny_call_function hr.depth (KX _ _ lk) rfl S.co S.gen rfl (PySem.W.codeRec_of KX hcd) (hb _ _ _ _ ?_)
 refine wpAny_newFunctionEnv_cells S.kind hkind fun env he s1 x=>?_
 subst he
 refine ⟨lim.keeps x.toInCall.keep,codeAny_func ?_⟩
 obtain ⟨t,ht,hq⟩:=hbody A outer s H vs Q E (hr.deeper _) hsp
 have I:Inv (ot CX P w K mg base N qual scope f cdv A outer s H E) [] (start N vs) H s1:=z8 S hr.hd e0 hl r x
 refine wpAny_mono (ht [] s1 (start N vs) H _ I hq) (fun fl s' hs=>?_) fun e s' hs=>hs
 have fin:∀ {σ':St} {H':Hp} {v:V} {u:Value},Inv (ot CX P w K mg base N qual scope f cdv A outer s H E) [] σ' H' s'->RelV v u->Q v H'->CE outer P w H s Q u s' :=
  fun {σ' H' v u} J rv q=>⟨v,H',J.os,J.bare,J.base,J.a_,rv,q⟩
 cases fl with
 | ret u =>
  obtain ⟨v,σ',H',J,rv,q⟩:=hs
  exact fin J rv q
 | next =>
  obtain ⟨σ',H',J,q⟩:=hs
  exact fin (v:=V.cS) (u:=Value.none) J rfl q
 | brk =>
  obtain ⟨_,_,_,q⟩:=hs
  exact False.elim q
 | cont =>
  obtain ⟨_,_,_,q⟩:=hs
  exact False.elim q
end L2
namespace L2
open PySem PySem.Spec PyProof.Rows
section
variable {X:Cx} {x:Str} {p pos:Pos} {e:Expr} {es:List Expr} {t:TA} {id T:String} {r:List V->Hp->VK->Prop}
def Qb (r:List V->Hp->VK->Prop) (t:TA):TE:=fun σ H Q=>t σ H fun vs H1=>r vs H1 Q
theorem qa (hc:dH X (.builtin id) r) (hg:Gl X x) (hm:X.mg x=none) (hv:bootBuiltins x=some (.builtin id)) (ha:PA X (e::es) t) (hn:x ≠ "__name__" := by decide) (hdb:(x==("__debug__" : Str))=false:=by decide)
  (he:starEach (e::es) X.env=(false,eval e X.env)::starEach es X.env:=by rfl) (hpl:(backTo pos (starEach es X.env)).any (·.1)=false:=by rfl):PE X (.Call (.Name x p) (e::es) [] pos) (Qb r t):=by
 intro pins s σ H Q I h
 refine wpAny_Call_Name_kw (i5 I hg hm hv ?_ hn hdb)
 exact PyProof.Rows.callWith_builtin1 (bJ (ha pos pins s σ H _ I h) fun us s1 ⟨vs,H1,I1,r1,q1⟩=>hc pins s1 σ H1 vs us Q I1 r1 q1) he hpl
theorem zS (hc:dH X (.type T) r) (hg:Gl X x) (hm:X.mg x=none) (hv:bootBuiltins x=some (.type T)) (ha:PA X (e::es) t) (hn:x ≠ "__name__" := by decide) (hdb:(x==("__debug__" : Str))=false:=by decide)
  (he:starEach (e::es) X.env=(false,eval e X.env)::starEach es X.env:=by rfl) (hpl:(backTo pos (starEach es X.env)).any (·.1)=false:=by rfl):PE X (.Call (.Name x p) (e::es) [] pos) (Qb r t):=by
 intro pins s σ H Q I h
 refine wpAny_Call_Name_kw (i5 I hg hm hv ?_ hn hdb)
 exact PyProof.Rows.callWith_type1 (bJ (ha pos pins s σ H _ I h) fun us s1 ⟨vs,H1,I1,r1,q1⟩=>hc pins s1 σ H1 vs us Q I1 r1 q1) he hpl
end
end L2
namespace HT
open PySem PyProof.Rows
section
open PySem.SeqAt
open PySem.AutoSeq1 (wpAny_loadPart')
open PySem.MeetsSeq PySem.MeetsSeq2 PySem.MeetsSeq3
end
section
variable {prog:Program} {w:World} {A:Around} {E:Value->Shared->Prop} {s:Shared}
theorem Eo {t b:Addr} {vs ws:List Value} {Q:Value->Shared->Prop} (ht:IsTup s.heap t vs.toArray) (hb:IsTup s.heap b ws.toArray) (hv:vs≠[])
  (h1:ws=[]->Q (.ref t) s) (h2:ws≠[]->Q (.ref s.heap.objs.size) { s with heap:=s.heap.push { cls:=.type "tuple", data:=.seq (vs++ws).toArray } })
  (hsz:vs.length+ws.length<=sizeLine):wpAny (model prog w) A (binaryOp .Add (.ref t) (.ref b)) Q E s:=by
 obtain ⟨⟨cls,dd,data,sl⟩,ho,hc,n,hd⟩:=id ht
 obtain ⟨⟨cls2,dd2,data2,sl2⟩,ho2,hc2,n2,hd2⟩:=id hb
 simp only at hc hd hc2 hd2
 subst hc hd hc2 hd2
 have e:vs.toArray++ws.toArray=(vs++ws).toArray:=by simp
 by_cases hw:ws=[]
 ·exact concat_meets ⟨_,ho,rfl⟩ ⟨_,ho2,rfl⟩ noFill_tuple_add seq_tuple_add PySem.F.slot_tuple_add PySem.F.entry_tuple_add (PySem.F.args_tuple_add_2 _ _)
   (tuple_addW1 t b vs.toArray ws.toArray n n2 dd dd2 sl sl2 (by simpa using hv) (by simp [hw])) ⟨ho,ho2,h1 hw⟩
 ·refine concat_meets ⟨_,ho,rfl⟩ ⟨_,ho2,rfl⟩ noFill_tuple_add seq_tuple_add PySem.F.slot_tuple_add PySem.F.entry_tuple_add (PySem.F.args_tuple_add_2 _ _)
   (tuple_addW2 t b vs.toArray ws.toArray n n2 dd dd2 sl sl2 (by simpa using hv) (by simpa using hw) (by rw [List.size_toArray,List.size_toArray];exact hsz)) ⟨ho,ho2,?_⟩
  rw [e]
  exact h2 hw
def c_ (n d:Nat):Option Int->Nat
 | none=>d
 | some v=>if v<0 then (v+(n:Int)).toNat else min v.toNat n
theorem yh (n d k:Nat):c_ n d (some (k:Int))=min k n:=by
 show (if (k:Int)<0 then ((k:Int)+(n:Int)).toNat else min (k:Int).toNat n)=min k n
 rw [if_neg (by omega),Int.toNat_natCast]
theorem G1 (n d:Nat) (hd:d<=n) (o:Option Int):c_ n d o<=n:=by
 cases o with
 | none=>exact hd
 | some v =>
  show (if v<0 then (v+(n:Int)).toNat else min v.toNat n)<=n
  by_cases hv:v<0
  ·rw [if_pos hv];omega
  ·rw [if_neg hv];exact Nat.min_le_right _ _
theorem xN (v:Int) (n d:Nat):(if v<0 then max (v+(n:Int)) 0 else min v (n:Int))=((c_ n d (some v):Nat):Int):=by
 show (if v<0 then max (v+(n:Int)) 0 else min v (n:Int))=(((if v<0 then (v+(n:Int)).toNat else min v.toNat n):Nat):Int)
 by_cases hv:v<0
 ·simp only [if_pos hv];omega
 ·simp only [if_neg hv];omega
theorem wQ (lo hi:Option Int) (n:Nat):Builtin.Slice.sliceAdjust lo hi 1 (n:Int)=(((c_ n 0 lo:Nat):Int),((c_ n n hi:Nat):Int)):=by
 have h1:¬ ((1:Int)<0):=by omega
 unfold Builtin.Slice.sliceAdjust
 simp only [h1,if_false]
 refine Prod.ext ?_ ?_
 ·cases lo with
  | none=>rfl
  | some v=>exact xN v n 0
 ·cases hi with
  | none=>rfl
  | some v=>exact xN v n n
theorem wJ (i j:Nat):Builtin.Slice.slicePlaces (i:Int) (j:Int) 1=j-i:=by
 unfold Builtin.Slice.slicePlaces
 have h1:(1:Int)>0:=by omega
 simp only [h1,if_true,Int.ediv_one]
 split <;> omega
theorem p4 {v:Value} {o:Option Int} {Q:Option Int->Shared->Prop} (p:IsPart v o) (h:Q o s):wpAny (model prog w) A (Builtin.Slice.slicePartIndex v) Q E s:=by
 cases p with
 | none=>exact slicePart_none h
 | int i t=>exact slicePart_int h
theorem iU {sl:Addr} {vl vu:Value} {lo hi:Option Int} {n:Nat} {Q:Int×Int×Nat->Shared->Prop} (hs:s.heap.IsSliceOf sl vl vu .none) (pl:IsPart vl lo) (pu:IsPart vu hi)
  (h:Q (((c_ n 0 lo:Nat):Int),1,c_ n n hi-c_ n 0 lo) s):wpAny (model prog w) A (Builtin.Slice.sliceApplied (.ref sl) (pure (n:Int))) Q E s:=by
 obtain ⟨os,hos,hcs,hds⟩:=id hs
 unfold Builtin.Slice.sliceApplied Builtin.Slice.sliceFields
 refine wpAny_bind (wpAny_bind (wpAny_field hos hds (x:=vl) rfl (wpAny_bind (wpAny_field hos hds (x:=vu) rfl (wpAny_bind (wpAny_field hos hds (x:=.none) rfl (wpAny_pure ?_)))))))
 refine wpAny_bind (slicePart_none ?_)
 show wpAny _ _ (if ((1:Int)==0)=true then _ else _) _ _ s
 rw [if_neg (by decide)]
 refine wpAny_bind (p4 pl (wpAny_bind (p4 pu (wpAny_bind (wpAny_pure ?_)))))
 show wpAny _ _ (match Builtin.Slice.sliceAdjust lo hi 1 (n:Int) with | (lo,hi)=>pure (lo,(1:Int),Builtin.Slice.slicePlaces lo hi 1)) _ _ s
 rw [wQ lo hi n]
 show wpAny _ _ (pure (((c_ n 0 lo:Nat):Int),(1:Int),Builtin.Slice.slicePlaces ((c_ n 0 lo:Nat):Int) ((c_ n n hi:Nat):Int) 1)) _ _ s
 rw [wJ]
 exact wpAny_pure h
theorem De (xs:Array Value) (i k:Nat):((List.range k).filterMap fun (m:Nat)=>xs[((i:Int)+(m:Int)*1).toNat]?).toArray=((xs.toList.drop i).take k).toArray:=by
 have e:(fun (m:Nat)=>xs[((i:Int)+(m:Int)*1).toNat]?)=fun m=>xs[i+m]?:=by
  funext m
  have:((i:Int)+(m:Int)*1).toNat=i+m:=by omega
  rw [this]
 rw [e]
 have:=pick_run xs i k
 rw [List.filterMap_map] at this
 have e2:((fun x=>xs[x]?)∘fun x=>i+x)=fun m=>xs[i+m]?:=rfl
 rw [e2] at this
 rw [this]
theorem mH {t sl:Addr} {items:Array Value} {vl vu:Value} {lo hi:Option Int} {Q:Value->Shared->Prop} (ht:IsTup s.heap t items) (hs:s.heap.IsSliceOf sl vl vu .none) (pl:IsPart vl lo) (pu:IsPart vu hi)
  (hw:¬ (c_ items.size 0 lo=0/\c_ items.size items.size hi=items.size))
  (h:Q (.ref s.heap.objs.size) { s with heap:=s.heap.push { cls:=.type "tuple", data:=.seq ((items.toList.drop (c_ items.size 0 lo)).take (c_ items.size items.size hi-c_ items.size 0 lo)).toArray } })
  (hsz:items.size<=sizeLine):wpAny (model prog w) A (getItem (.ref t) (.ref sl)) Q E s:=by
 have htake:sizeOk (.seq ((items.toList.drop (c_ items.size 0 lo)).take (c_ items.size items.size hi-c_ items.size 0 lo)).toArray):=by
  show ((items.toList.drop (c_ items.size 0 lo)).take (c_ items.size items.size hi-c_ items.size 0 lo)).toArray.size<=sizeLine
  rw [List.size_toArray,List.length_take,List.length_drop,Array.length_toList]
  omega
 have hj:c_ items.size items.size hi<=items.size:=G1 _ _ (Nat.le_refl _) hi
 obtain ⟨os,hos,hcs,hds⟩:=id hs
 have hTs:s.TypeIs (.ref sl) "slice" := ⟨os,hos,hcs⟩
 unfold getItem
 try with_reducible refine wpAny_holding ?_
 first | refine wpAny_bind (wpAny_pure ?_) | skip
 refine wpAny_bind (wpAny_sequenceKey ht.typeIs (by decide) ?_)
 refine wpAny_bind (wpAny_callSpecial?_slot (name:=Str.ofString "__getitem__") ht.typeIs PyProof.Rows.slot_tuple_getitem
  (wpAny_call_entry PyProof.Rows.slot_tuple_getitem ht.typeIs entry_tuple_getitem ?_ (args_tuple_getitem _ _)))
 show wpAny _ _ (Builtin.Tuple.tupleItemsOf (.ref t) >>= _) _ _ s
 refine wpAny_bind (tupleItemsOf_ ht ?_)
 refine wpAny_bind (wpAny_typeOf hTs ?_)
 rw [if_pos (by decide)]
 refine wpAny_bind (iU hs pl pu ?_)
 have hno:¬ ((((c_ items.size 0 lo:Nat):Int)==0&&(1:Int)==1&&(c_ items.size items.size hi-c_ items.size 0 lo)==items.size)=true):=by
  intro q
  rw [Bool.and_eq_true,Bool.and_eq_true] at q
  have q1:((c_ items.size 0 lo:Nat):Int)=0:=eq_of_beq q.1.1
  have q2:c_ items.size items.size hi-c_ items.size 0 lo=items.size:=eq_of_beq q.2
  exact hw ⟨by omega,by omega⟩
 show wpAny _ _ (if (((c_ items.size 0 lo:Nat):Int)==0&&(1:Int)==1&&(c_ items.size items.size hi-c_ items.size 0 lo)==items.size)=true then _ else _) _ _ s
 rw [if_neg hno,De]
 first
  | exact wpAny_bind (m:=Builtin.Tuple.tupleExact _) (wpAny_newObj_type (wpAny_pure ⟨_,rfl,wpAny_pure h⟩) htake)
  | exact wpAny_bind (m:=Builtin.Tuple.tupleExact _) (wpAny_newObj_type (wpAny_bind (wpAny_pure (wpAny_pure ⟨_,rfl,wpAny_pure h⟩))) htake)
  | exact wpAny_bind (wpAny_bind (m:=Builtin.Tuple.tupleExact _) (wpAny_newObj_type (wpAny_pure (wpAny_pure ⟨_,rfl,wpAny_pure h⟩)) htake))
  | exact wpAny_bind (wpAny_bind (m:=Builtin.Tuple.tupleExact _) (wpAny_newObj_type (wpAny_pure ⟨_,rfl,wpAny_pure h⟩) htake))
end
end HT
namespace L2
open PySem PySem.Spec PyProof.Rows
abbrev TO:=St->Hp->(Option Int->Hp->Prop)->Prop
def PO (X:Cx) (e:Option Expr) (t:TO):Prop :=
 ∀ (pins:List (Addr×Obj)) (s:Shared) (σ:St) (H:Hp) (Q:Option Int->Hp->Prop),Inv X pins σ H s->t σ H Q ->
  wpAny (model X.prog X.w) X.A (evalPart e X.env) (fun u s'=>∃ o H',Inv X pins σ H' s'/\IsPart u o/\Q o H') X.xe s
def Jg (t:TE):TO:=fun σ H Q=>t σ H fun x H1=>∃ i,x=.int i/\Q (some i) H1
theorem intsAre_of {ns:List Int}:∀ {us:List Value},Vals (ns.map V.int) us->IntsAre us ns:=by
 induction ns with
 | nil=>intro us r;rw [List.map_nil] at r;cases r;exact .nil
 | cons n ns ih =>
  intro us r
  rw [List.map_cons] at r
  cases r with
  | cons r1 r2 =>
   obtain ⟨t,e⟩:=r1
   subst e
   exact .cons n t (ih r2)
section
variable {X:Cx} {e:Expr} {te:TE} {lo hi:Option Expr} {tl th:TO} {pos p2:Pos}
theorem DY (h:PE X e te):PO X (some e) (Jg te):=by
 intro pins s σ H Q I hw
 rw [evalPart_some]
 refine bJ (h pins s σ H _ I hw) fun u s1 ⟨x,H1,I1,r1,q1⟩=>?_
 obtain ⟨i,rfl,q⟩:=q1
 obtain ⟨t,rfl⟩:=r1
 exact ⟨some i,H1,I1,.int i t,q⟩
def Di (X:Cx) (r:V->Option Int->Option Int->Hp->VK->Prop):Prop :=
 ∀ (pins:List (Addr×Obj)) (s:Shared) (σ:St) (H:Hp) (x:V) (v vl vu:Value) (lo hi:Option Int) (sl:Addr) (Q:VK),Inv X pins σ H s->RelV x v->s.heap.IsSliceOf sl vl vu .none->IsPart vl lo->IsPart vu hi->r x lo hi H Q ->
  ∃ T id,typeLookup (.type T) "__getitem__" = pure (some (.builtin id))/\s.TypeIs v T/\wpAny (model X.prog X.w) X.A (getItem v (.ref sl)) (EP X pins σ Q) X.xe s
theorem Di.or {r r':V->Option Int->Option Int->Hp->VK->Prop} (h:Di X r) (h':Di X r'):Di X (fun x lo hi H Q=>r x lo hi H Q\/r' x lo hi H Q):=by
 intro pins s σ H x v vl vu lo hi sl Q I rx hs pl pu q
 rcases q with q | q
 ·exact h pins s σ H x v vl vu lo hi sl Q I rx hs pl pu q
 ·exact h' pins s σ H x v vl vu lo hi sl Q I rx hs pl pu q
def Ss (r:V->Option Int->Option Int->Hp->VK->Prop) (te:TE) (tl th:TO):TE:=fun σ H Q=>te σ H fun x H1=>tl σ H1 fun l H2=>th σ H2 fun u H3=>r x l u H3 Q
theorem Dh {r:V->Option Int->Option Int->Hp->VK->Prop} (hr:Di X r) (he:PE X e te) (hl:PO X lo tl) (hu:PO X hi th):PE X (.Subscript e (.Slice lo hi none p2) pos) (Ss r te tl th):=by
 intro pins s σ H Q I h
 refine Subscript_ (bJ (he pins s σ H _ I h) fun v s1 ⟨x,H1,I1,r1,q1⟩=>?_)
 refine wpAny_Slice (bJ (hl pins s1 σ H1 _ I1 q1) fun vl s2 ⟨l,H2,I2,pl,q2⟩=>bJ (hu pins s2 σ H2 _ I2 q2) fun vu s3 ⟨u,H3,I3,pu,q3⟩=>?_)
 rw [evalPart_none]
 refine wpAny_pure ?_
 have I4:Inv X pins σ H3 { s3 with heap:=s3.heap.push { cls:=.type "slice", data:=.fields #[vl,vu,.none] } }:=I3.kept (t':=s3.toks) fun b ob q=>Heap.get?_push_of_some _ q
 obtain ⟨T,id,hT,ht,hg⟩:=hr pins { s3 with heap:=s3.heap.push { cls:=.type "slice", data:=.fields #[vl,vu,.none] } } σ H3 x v vl vu l u s3.heap.objs.size Q I4 r1 (Heap.IsSliceOf.new ..) pl pu q3
 show wpAny (model X.prog X.w) X.A (subscriptTail e (.Slice lo hi none p2) v (.ref s3.heap.objs.size)) (EP X pins σ Q) X.xe { s3 with heap:=s3.heap.push { cls:=.type "slice", data:=.fields #[vl,vu,.none] } }
 exact tail_any (ops:=[.ref s3.heap.objs.size,v]) ht hT hg (by with_unfolding_all rfl)
def uS (xs:List V) (lo hi:Option Int):List V:=(xs.drop (HT.c_ xs.length 0 lo)).take (HT.c_ xs.length xs.length hi-HT.c_ xs.length 0 lo)
theorem nR (xs:List V) (lo hi:Option Int):(uS xs lo hi).length<=xs.length:=by
 unfold uS
 rw [List.length_take,List.length_drop]
 omega
def Ol (K:PySem.W.Frag):V->Option Int->Option Int->Hp->VK->Prop:=fun x lo hi H Q=>∃ a xs,x=.ref a/\gT K H a xs ∧
 ¬ (HT.c_ xs.length 0 lo=0/\HT.c_ xs.length xs.length hi=xs.length)/\∀ p,H p=none->Q (.ref p) (upd H p (.tup (uS xs lo hi)))
theorem GA:Di X (Ol X.K):=by
 intro pins s σ H x v vl vu lo hi sl Q I rx hs pl pu h
 obtain ⟨a,xs,rfl,hx,hw,q⟩:=h
 cases rx
 obtain ⟨its,r,ht,hz⟩:=I.tuple hx
 have hlen:its.toArray.size=xs.length:=by rw [List.size_toArray];exact r.length.symm
 refine ⟨"tuple", _,PyProof.Rows.slot_tuple_getitem.lookup,ht.typeIs,?_⟩
 refine HT.mH ht hs pl pu (by rw [hlen];exact hw) ?_ (by rw [hlen];exact hz)
 rw [hlen]
 refine ⟨.ref s.heap.objs.size,_,I.laid (t':=s.toks) (o:=.tup (uS xs lo hi)) (fun b ob q=>Heap.get?_push_of_some _ q) (Nat.le_refl _) ?_,rfl,q _ (I.a_.fresh (Nat.le_refl _))⟩
 exact ⟨Nat.le_trans (nR xs lo hi) hz,_,(r.drop (HT.c_ xs.length 0 lo)).take (HT.c_ xs.length xs.length hi-HT.c_ xs.length 0 lo),IsTup.new _ _⟩
def Fd (K:PySem.W.Frag):R2:=fun x y H Q=>∃ a b xs ys,x=.ref a/\y=.ref b/\gT K H a xs/\gT K H b ys/\xs≠[]/\xs.length+ys.length<=sizeLine ∧
 (ys=[]->Q (.ref a) H)/\(ys≠[]->∀ p,H p=none->Q (.ref p) (upd H p (.tup (xs++ys))))
theorem Vals.mK {xs:List V} {us:List Value} (r:Vals xs us):us=[] ↔ xs=[]:=by
 cases r with
 | nil=>simp
 | cons _ _=>simp
theorem D9:gf X (binaryOp .Add) (Fd X.K):=by
 intro pins s σ H x y v u Q I rx ry h
 obtain ⟨a,b,xs,ys,rfl,rfl,ha,hb,hx,hz,q1,q2⟩:=h
 cases rx
 cases ry
 obtain ⟨its,r1,p1,_⟩:=I.tuple ha
 obtain ⟨its2,r2,p2,_⟩:=I.tuple hb
 refine HT.Eo p1 p2 (fun z=>hx (r1.mK.mp z)) (fun z=>⟨.ref a,H,I,rfl,q1 (r2.mK.mp z)⟩) (fun z=>?_) (by rw [← r1.length,← r2.length];exact hz)
 refine ⟨.ref s.heap.objs.size,_,I.laid (t':=s.toks) (o:=.tup (xs++ys)) (fun b ob q=>Heap.get?_push_of_some _ q) (Nat.le_refl _) ?_,rfl,q2 (fun w=>z (r2.mK.mpr w)) _ (I.a_.fresh (Nat.le_refl _))⟩
 exact ⟨by rw [List.length_append];exact hz,_,r1.append r2,IsTup.new _ _⟩
end
end L2
namespace L2
open PySem PySem.Spec PyProof.Rows
def Am (n:Nat) (i:Int):Option Nat:=if 0<=i then (if i<n then some i.toNat else none) else if -(n:Int)<=i then some (i+n).toNat else none
def uK {α:Type} (xs:List α) (i:Int):Option α:=(Am xs.length i).bind fun j=>xs[j]?
theorem yk {n:Nat} {i:Int} {j:Nat} (h:Am n i=some j):seqIndex? i n=some j/\j<n/\-(n:Int)<=i/\i<n:=by
 unfold Am at h
 by_cases h0:0<=i
 ·rw [if_pos h0] at h
  by_cases h1:i<n
  ·rw [if_pos h1] at h
   have e:i.toNat=j:=Option.some.inj h
   exact ⟨by rw [seqIndex_of h0 h1,e],by omega,by omega,h1⟩
  ·rw [if_neg h1] at h;cases h
 ·rw [if_neg h0] at h
  by_cases h1:-(n:Int)<=i
  ·rw [if_pos h1] at h
   have e:(i+n).toNat=j:=Option.some.inj h
   exact ⟨by rw [seqIndex_neg (by omega) h1,e],by omega,h1,by omega⟩
  ·rw [if_neg h1] at h;cases h
theorem uv {α:Type} {xs:List α} {i:Int} {v:α} (h:uK xs i=some v):∃ j,seqIndex? i xs.length=some j/\xs[j]?=some v/\j<xs.length/\-(xs.length:Int)<=i/\i<xs.length:=by
 unfold uK at h
 cases e:Am xs.length i with
 | none=>rw [e] at h;cases h
 | some j =>
  rw [e] at h
  obtain ⟨h1,h2,h3,h4⟩:=yk e
  exact ⟨j,h1,h,h2,h3,h4⟩
theorem t6 {α:Type} {xs:List α} {j:Nat} {v:α} (h:xs[j]?=some v):uK xs (j:Int)=some v:=by
 have hj:j<xs.length:=(List.getElem?_eq_some_iff.mp h).1
 have e:Am xs.length (j:Int)=some j:=by
  unfold Am
  rw [if_pos (by omega),if_pos (by omega)];simp
 unfold uK;rw [e];exact h
def uI (b:Expr):Prop:=∀ o i,subscripted b false o i=operate [o,i] (getItem o i)
def Ef (X:Cx) (r:R2):Prop :=
 ∀ (value slice:Expr) (pins:List (Addr×Obj)) (s:Shared) (σ:St) (H:Hp) (x y:V) (v u:Value) (Q:VK),Inv X pins σ H s->RelV x v->RelV y u->r x y H Q ->
  subscripted slice false v u=operate [v,u] (getItem v u)->wpAny (model X.prog X.w) X.A (subscriptTail value slice v u) (EP X pins σ Q) X.xe s
def Ro (X:Cx) (id:String) (r:V->List V->Hp->VK->Prop):Prop :=
 ∀ (pins:List (Addr×Obj)) (s:Shared) (σ:St) (H:Hp) (x:V) (xs:List V) (v:Value) (us:List Value) (Q:VK),Inv X pins σ H s->RelV x v->Vals xs us->r x xs H Q ->
  wpAny (model X.prog X.w) X.A (call (.builtin id) (v::us)) (EP X pins σ Q) X.xe s
section
variable {X:Cx} {a b:Expr} {ta tb:TE} {pos:Pos}
theorem Ef.or {r r':R2} (h:Ef X r) (h':Ef X r'):Ef X (fun x y H Q=>r x y H Q\/r' x y H Q):=by
 intro value slice pins s σ H x y v u Q I rx ry q hs
 rcases q with q | q
 ·exact h value slice pins s σ H x y v u Q I rx ry q hs
 ·exact h' value slice pins s σ H x y v u Q I rx ry q hs
theorem IE {r:R2} (hr:Ef X r) (ha:PE X a ta) (hb:PE X b tb) (hs:uI b):PE X (.Subscript a b pos) (JV r ta tb):=by
 intro pins s σ H Q I h
 exact Subscript_ (Hv ha hb I h fun v u s2 x y H2 I2 rx ry q=>hr a b pins s2 σ H2 x y v u Q I2 rx ry q (hs _ _))
def IQ (K:PySem.W.Frag):R2:=fun x y H Q=>∃ p xs i v,x=.ref p/\y=.int i/\i4 K H p xs/\uK xs i=some v/\Q v H
def Jw (K:PySem.W.Frag):R2:=fun x y H Q=>∃ p xs i v,x=.ref p/\y=.int i/\gT K H p xs/\uK xs i=some v/\Q v H
def Ka:R2:=fun x y H Q=>∃ z i c,x=.str z/\y=.int i/\z.length<=sizeLine/\uK z.cps.toList i=some c/\Q (.str ⟨#[c]⟩) H
theorem DQ:Ef X (IQ X.K):=by
 intro value slice pins s σ H x y v u Q I rx ry h hs
 obtain ⟨p,xs,i,z,rfl,rfl,hq,he,q⟩:=h
 cases rx
 obtain ⟨t,rfl⟩:=ry
 obtain ⟨its,r,pl,hz⟩:=I.list hq
 obtain ⟨j,h1,h2,h3,h4,h5⟩:=uv he
 obtain ⟨w,ew,rw'⟩:=r.get h2
 have hl:=r.length
 have hn:=mU
 have fin:EP X pins σ Q w s:=⟨z,H,I,rw',q⟩
 by_cases h0:0<=i
 ·have hj:i.toNat=j:=by
   rw [seqIndex_of h0 h5] at h1
   exact Option.some.inj h1
  exact item_listR pl.isList h0 (by omega) (by rw [hj];simpa using ew) fin hs
 ·have hj:(i+(its.toArray.size:Int)).toNat=j:=by
   rw [seqIndex_neg (by omega) h4] at h1
   rw [List.size_toArray,← hl]
   exact Option.some.inj h1
  exact subscriptTail_builtinR (x:=w) pl.isList.typeIs slot_list_getitem.lookup
   (wpAny_getItem_list_neg (Q:=fun r s'=>r=w/\EP X pins σ Q r s') pl.isList (by omega) (by rw [List.size_toArray] <;> omega) (by omega) (by rw [hj];simpa using ew) ⟨rfl,fin⟩) hs
theorem GJ:Ef X (Jw X.K):=by
 intro value slice pins s σ H x y v u Q I rx ry h hs
 obtain ⟨p,xs,i,z,rfl,rfl,hq,he,q⟩:=h
 cases rx
 obtain ⟨t,rfl⟩:=ry
 obtain ⟨its,r,pl,hz⟩:=I.tuple hq
 obtain ⟨j,h1,h2,h3,h4,h5⟩:=uv he
 obtain ⟨w,ew,rw'⟩:=r.get h2
 have hl:=r.length
 have hn:=mU
 have fin:EP X pins σ Q w s:=⟨z,H,I,rw',q⟩
 exact subscriptTail_builtinR (x:=w) pl.typeIs slot_tuple_getitem.lookup
  (getItem_tuple (j:=j) (Q:=fun r s'=>r=w/\EP X pins σ Q r s') pl (by omega) (by omega) (by rw [List.size_toArray,← hl];exact h1) (by simpa using ew) ⟨rfl,fin⟩) hs
theorem Gw:Ef X Ka:=by
 intro value slice pins s σ H x y v u Q I rx ry h hs
 obtain ⟨z,i,c,rfl,rfl,hz,he,q⟩:=h
 obtain ⟨t,rfl⟩:=rx
 obtain ⟨t',rfl⟩:=ry
 obtain ⟨j,h1,h2,h3,h4,h5⟩:=uv he
 have hl:z.cps.toList.length=z.length:=by simp [Str.length]
 rw [hl] at h1 h4 h5
 have hn:=mU
 exact tail_any (typeIs_str s z t) slot_str_getitem.lookup (getItem_str (c:=c) (by
  have e1:decide (i < -(2^63:Int))=false:=decide_eq_false (by omega)
  have e2:decide (i>=2^63)=false:=decide_eq_false (by omega)
  rw [e1,e2,Bool.or_false]) (by rw [h1];simpa using h2) ⟨.str ⟨#[c]⟩,H,I.tok _,⟨_,rfl⟩,q⟩) hs
def Qz (K:PySem.W.Frag):R2:=fun x y H Q=>IQ K x y H Q\/Jw K x y H Q\/Ka x y H Q
theorem Gv:Ef X (Qz X.K):=DQ.or (GJ.or Gw)
theorem wY (its:List Value) (n j:Nat) (u:Value):Obj.mapSeq (·.setIfInBounds j u) { cls:=.type "list", data:=.seq its.toArray n }={ cls:=.type "list", data:=.seq (its.set j u).toArray n }:=by
 simp [Obj.mapSeq]
theorem Inv.lst {pins:List (Addr×Obj)} {σ:St} {H:Hp} {s:Shared} {p:Addr} {xs:List V} (I:Inv X pins σ H s) (h:H p=some (.lst xs)) :
  ∃ (its:List Value) (n:Nat),Vals xs its/\s.heap.get? p=some { cls:=.type "list", data:=.seq its.toArray n }/\xs.length<=sizeLine:=by
 obtain ⟨z,its,n,r,e⟩:=I.a_ p _ h
 exact ⟨its,n,r,e,z⟩
theorem Inv.FZ {pins:List (Addr×Obj)} {σ:St} {H:Hp} {s:Shared} {p:Addr} {xs ys:List V} {its its':List Value} {n n':Nat} {f:Obj->Obj} (I:Inv X pins σ H s) (h:H p=some (.lst xs))
  (ho:s.heap.get? p=some { cls:=.type "list", data:=.seq its.toArray n }) (hf:f { cls:=.type "list", data:=.seq its.toArray n }={ cls:=.type "list", data:=.seq its'.toArray n' }) (r:Vals ys its') (hz:ys.length<=sizeLine) (t:Nat) :
  Inv X pins σ (upd H p (.lst ys)) { s with heap:=s.heap.update p f,toks:=t }:=by
 have e:(s.heap.update p f).get? p=some { cls:=.type "list", data:=.seq its'.toArray n' }:=by
  rw [Heap.get?_update_self f ho (by rw [hf] <;> rfl),hf]
 refine I.write (x:=p) (e:=p) (by rw [h];trivial) (.inl rfl) (fun b u hb q=>(Heap.get?_update_other _ _ (Ne.symm hb)).trans q) ⟨_,e⟩ ?_
 exact ⟨hz,its',n',r,e⟩
def IG:V->V->V->Hp->(Hp->Prop)->Prop:=fun o i v H Q=>∃ p xs k j,o=.ref p/\i=.int k/\H p=some (.lst xs)/\Am xs.length k=some j/\Q (upd H p (.lst (xs.set j v)))
theorem set_list:JM X IG:=by
 intro pins s σ H o i v ov iv u Q I ro ri rv h
 obtain ⟨p,xs,k,j,rfl,rfl,hp,hj,q⟩:=h
 cases ro
 obtain ⟨t,rfl⟩:=ri
 obtain ⟨its,n,r,ho,hz⟩:=I.lst hp
 obtain ⟨h1,h2,h3,h4⟩:=yk hj
 have hl:=r.length
 have hn:=mU
 have I':Inv X pins σ (upd H p (.lst (xs.set j v))) { s with heap:=s.heap.update p (Obj.mapSeq (·.setIfInBounds j u)) } :=
  I.FZ hp ho (wY its n j u) (r.set rv j) (by rw [List.length_set];exact hz) s.toks
 by_cases h0:0<=k
 ·have hk:k.toNat=j:=by
   rw [seqIndex_of h0 h4] at h1
   exact Option.some.inj h1
  exact PySem.W.ki_setAt ho h0 (by omega) (by rw [List.size_toArray,← hl];exact h4) (by rw [hk];exact ⟨_,I',q⟩)
 ·have hk:(k+(its.toArray.size:Int)).toNat=j:=by
   rw [seqIndex_neg (by omega) h3] at h1
   rw [List.size_toArray,← hl]
   exact Option.some.inj h1
  exact PySem.W.ki_setBack ho (by omega) (by rw [List.size_toArray,← hl];exact h3) (by omega) (by rw [hk];exact ⟨_,I',q⟩)
theorem uw (lo hi:Option Int) (n:Nat):(sliceBounds lo hi none n).1=((HT.c_ n 0 lo:Nat):Int)/\(sliceBounds lo hi none n).2.1=((HT.c_ n n hi:Nat):Int)/\(sliceBounds lo hi none n).2.2=1:=by
 refine ⟨?_,?_,rfl⟩
 ·cases lo with
  | none=>simp [sliceBounds,HT.c_]
  | some i =>
   simp only [sliceBounds,HT.c_,Option.getD_none,show (1:Int)>0 by decide,if_true]
   by_cases h:i<0
   ·simp only [h,if_true] <;> omega
   ·simp only [h,if_false] <;> omega
 ·cases hi with
  | none=>simp [sliceBounds,HT.c_]
  | some i =>
   simp only [sliceBounds,HT.c_,Option.getD_none,show (1:Int)>0 by decide,if_true]
   by_cases h:i<0
   ·simp only [h,if_true] <;> omega
   ·simp only [h,if_false] <;> omega
theorem rJ (its:List Value) (lo hi:Option Int):slicePick its.toArray lo hi none=((its.drop (HT.c_ its.length 0 lo)).take (HT.c_ its.length its.length hi-HT.c_ its.length 0 lo)).toArray:=by
 obtain ⟨h1,h2,h3⟩:=uw lo hi its.toArray.size
 unfold slicePick
 rw [h1,h2,h3]
 simp only [sliceRange_one,pick_run,List.size_toArray] <;> rfl
def LH (K:PySem.W.Frag):V->Option Int->Option Int->Hp->VK->Prop:=fun x lo hi H Q=>∃ a xs,x=.ref a/\i4 K H a xs/\∀ p,H p=none->Q (.ref p) (upd H p (.lst (uS xs lo hi)))
theorem D6:Di X (LH X.K):=by
 intro pins s σ H x v vl vu lo hi sl Q I rx hs pl pu h
 obtain ⟨a,xs,rfl,hx,q⟩:=h
 cases rx
 obtain ⟨its,r,ht,hz⟩:=I.list hx
 have hlen:=r.length
 refine ⟨"list", _,slot_list_getitem.lookup,ht.isList.typeIs,?_⟩
 refine wpAny_getItem_list_slice ht.isList hs pl pu .none (by simp) ?_ (by rw [List.size_toArray] <;> omega)
 rw [rJ,← hlen]
 refine ⟨.ref s.heap.objs.size,_,I.laid (t':=s.toks) (o:=.lst (uS xs lo hi)) (fun b ob q=>Heap.get?_push_of_some _ q) (Nat.le_refl _) ?_,rfl,q _ (I.a_.fresh (Nat.le_refl _))⟩
 exact ⟨Nat.le_trans (nR xs lo hi) hz,_,0,(r.drop (HT.c_ xs.length 0 lo)).take (HT.c_ xs.length xs.length hi-HT.c_ xs.length 0 lo),Heap.get?_push_size _ rfl⟩
theorem sV:dH X (.builtin "len") (fun xs H Q=>∃ p ys,xs=[.ref p]/\(i4 X.K H p ys\/gT X.K H p ys)/\Q (.int ys.length) H):=by
 intro pins s σ H xs us Q I r h
 obtain ⟨p,ys,rfl,hq,q⟩:=h
 obtain ⟨u,rfl,rx⟩:=vals1 r
 cases rx
 have hn:=mU
 rcases hq with hq | hq
 ·obtain ⟨its,r',pl,hz⟩:=I.list hq
  have hlen:=r'.length
  exact Calls.call_len_list pl.isList (by simp only [List.size_toArray] <;> omega) ⟨.int ys.length,H,I.tok _,⟨s.toks+1,by rw [List.size_toArray,hlen]⟩,q⟩
 ·obtain ⟨its,r',pl,hz⟩:=I.tuple hq
  have hlen:=r'.length
  exact len_tuple pl (by simp only [List.size_toArray] <;> omega) ⟨.int ys.length,H,I.tok _,⟨s.toks+1,by rw [List.size_toArray,hlen]⟩,q⟩
theorem sX:dH X (.builtin "len") (fun xs H Q=>∃ z,xs=[.str z]/\z.length<=sizeLine/\Q (.int z.length) H):=by
 intro pins s σ H xs us Q I r h
 obtain ⟨z,rfl,hz,q⟩:=h
 obtain ⟨u,rfl,t,rfl⟩:=vals1 r
 have hn:=mU
 exact len_str (by omega) ⟨.int z.length,H,I.tok _,⟨_,rfl⟩,q⟩
theorem dH.or {f:Value} {r r':List V->Hp->VK->Prop} (h:dH X f r) (h':dH X f r'):dH X f (fun xs H Q=>r xs H Q\/r' xs H Q):=by
 intro pins s σ H xs us Q I rs q
 rcases q with q | q
 ·exact h pins s σ H xs us Q I rs q
 ·exact h' pins s σ H xs us Q I rs q
theorem rn:dH X (.type "tuple") (fun xs H Q=>∃ p ys,xs=[.ref p]/\((i4 X.K H p ys/\∀ l,H l=none->Q (.ref l) (upd H l (.tup ys)))\/(gT X.K H p ys/\Q (.ref p) H))):=by
 intro pins s σ H xs us Q I r h
 obtain ⟨p,ys,rfl,h⟩:=h
 obtain ⟨u,rfl,rx⟩:=vals1 r
 cases rx
 rcases h with ⟨hq,q⟩ | ⟨hq,q⟩
 ·obtain ⟨its,r',pl,hz⟩:=I.list hq
  have hlen:=r'.length
  refine call_tuple_list pl.isList (fun h' kp=>?_) (by simp only [List.size_toArray] <;> omega)
  have I1:Inv X pins σ H { s with heap:=h' }:=I.kept (t':=s.toks) kp
  have I2:Inv X pins σ (upd H h'.objs.size (.tup ys)) { s with heap:=h'.push { cls:=.type "tuple", data:=.seq its.toArray } } :=
   I1.laid (t':=s.toks) (fun b o e=>Heap.get?_push_of_some _ e) (Nat.le_refl _) (show bP X.prog X.w _ _ _ (.tup ys) from ⟨hz,its,r',IsTup.new _ _⟩)
  exact ⟨.ref h'.objs.size,_,I2,rfl,q _ (I1.a_.fresh (Nat.le_refl _))⟩
 ·obtain ⟨its,r',pl,hz⟩:=I.tuple hq
  exact call_tuple_same pl ⟨.ref p,H,I,rfl,q⟩
def QB (K:PySem.W.Frag) (T:String) (x:V) (H:Hp):Prop:=match x with
 | .str _=>T = "str"
 | .int _=>T = "int"
 | .ref p=>(T = "list" /\ ∃ xs,i4 K H p xs)\/(T = "tuple" /\ ∃ o,K.lookup p=some o/\o.cls=.type "tuple" /\ o.dict=none) ∨
   (T = "dict" /\ ((∃ kvs,H p=some (.dK kvs))\/∃ kvs,H p=some (.dT kvs)))\/(T = "set" /\ ∃ S n,H p=some (.set S n))
 | _=>False
theorem Ia {pins:List (Addr×Obj)} {σ:St} {H:Hp} {s:Shared} {T:String} {x:V} {v:Value} (I:Inv X pins σ H s) (r:RelV x v) (ty:QB X.K T x H) :
  s.TypeIs v T/\∀ a,v=.ref a->∃ ob,s.heap.get? a=some ob/\ob.dict=none:=by
 cases x with
 | str z =>
  obtain ⟨t,rfl⟩:=r
  cases (show T = "str" from ty)
  exact ⟨typeIs_str s z t,fun _ e=>nomatch e⟩
 | int i =>
  obtain ⟨t,rfl⟩:=r
  cases (show T = "int" from ty)
  exact ⟨typeIs_int s i t,fun _ e=>nomatch e⟩
 | ref p =>
  cases r
  rcases ty with ⟨rfl,xs,hq⟩ | ⟨rfl,o,hk,hc,hd⟩ | ⟨rfl,hk⟩ | ⟨rfl,S,n,hk⟩
  ·obtain ⟨its,_,pl,_⟩:=I.list hq
   refine ⟨pl.isList.typeIs,fun a e=>?_⟩
   cases e
   obtain ⟨o,n,e,c,hd,_⟩:=pl
   exact ⟨o,e,hd⟩
  ·refine ⟨⟨o,I.jx p o hk,hc⟩,fun a e=>?_⟩
   cases e
   exact ⟨o,I.jx _ o hk,hd⟩
  ·have z:∃ o,s.heap.get? p=some o/\o.ExactDict:=by
    rcases hk with ⟨kvs,hk⟩ | ⟨kvs,hk⟩
    ·obtain ⟨_,_,_,_,o,_,_,e,ex,_⟩:=I.a_ p _ hk
     exact ⟨o,e,ex⟩
    ·obtain ⟨_,_,_,_,o,_,_,e,ex,_⟩:=I.a_ p _ hk
     exact ⟨o,e,ex⟩
   obtain ⟨o,e,ex⟩:=z
   refine ⟨⟨o,e,ex.1⟩,fun a e2=>?_⟩
   cases e2
   exact ⟨o,e,ex.2.1⟩
  ·obtain ⟨o,_,_,_,e,ex,_⟩:=I.a_ p _ hk
   refine ⟨⟨o,e,ex.1⟩,fun a e2=>?_⟩
   cases e2
   exact ⟨o,e,ex.2.1⟩
 | _=>exact False.elim ty
def Q0 (K:PySem.W.Frag) (T:String) (r:V->List V->Hp->VK->Prop) (to:TE) (t:TA):TE:=fun σ H Q=>to σ H fun x H1=>QB K T x H1/\t σ H1 fun xs H2=>r x xs H2 Q
variable {o e:Expr} {es:List Expr} {to:TE} {t:TA} {name:Str} {apos cpos:Pos} {T id:String} {r:V->List V->Hp->VK->Prop}
theorem JR (pa:PlainAttrs T) (slot:Slot T name id) (hty:typeOf (.builtin id)=pure (.type "method_descriptor")) (hm:Ro X id r) (ho:PE X o to) (ha:PA X (e::es) t)
  (hbase:attributeBase o name X.env (eval o X.env)=eval o X.env:=by rfl)
  (hfew:((backTo cpos (starEach (e::es) X.env)).all (fun x=>!x.1)&&(backToKw cpos (keywordEach [] X.env)).all (fun x=>x.1.isSome)
   && decide ((e::es).length+([]:List Keyword).length+(if ([]:List Keyword).isEmpty then 0 else 1)<30))=true:=by rfl)
  (hline:(apos.endLine==cpos.line)=true:=by rfl) (hs:starEach (e::es) X.env=(false,eval e X.env)::starEach es X.env:=by rfl) (hplain:(backTo cpos (starEach es X.env)).any (·.1)=false:=by rfl) :
  PE X (.Call (.Attribute o name apos) (e::es) [] cpos) (Q0 X.K T r to t):=by
 intro pins s σ H Q I h
 refine wpAny_Call_method_late hbase hfew hline rfl (bJ (ho pins s σ H _ I h) fun v s1 ⟨x,H1,I1,r1,ty,q1⟩=>?_)
 obtain ⟨h1,h2⟩:=Ia I1 r1 ty
 refine ⟨T,id,pa,slot,hty,h1,h2,?_⟩
 have hA:=ha cpos pins s1 σ H1 _ I1 q1
 rw [hs] at hA ⊢
 refine Calls.callWith_builtin (by show (false||(backTo cpos (starEach es X.env)).any (·.1))=false;rw [hplain] <;> rfl) (Calls.evalArgs_plain ?_)
 exact bJ hA fun us s2 ⟨vs,H2,I2,r2,q2⟩=>hm pins s2 σ H2 x vs v us Q I2 r1 r2 q2
end
end L2
namespace L2
open PySem PySem.Spec PyProof.Rows
def QW (X:Cx) (id:String) (r:V->List V->Hp->VK->Prop):Prop :=
 ∀ (pins:List (Addr×Obj)) (s:Shared) (σ:St) (H:Hp) (x:V) (xs:List V) (v:Value) (us:List Value) (Q:VK),Inv X pins σ H s->RelV x v->Vals xs us->r x xs H Q ->
  wpAny (model X.prog X.w) X.A (call (.builtin id) (v::us)) (EP X pins σ Q) X.xe s
theorem Vals.one:∀ {x:V} {us:List Value},Vals [x] us->∃ u,us=[u]/\RelV x u
 | _,_,.cons r .nil=>⟨_,rfl,r⟩
theorem Vals.rep {xs:List V} {us:List Value} (h:Vals xs us):∀ k:Nat,Vals (List.replicate k xs).flatten (List.replicate k us).flatten
 | 0=>.nil
 | k+1=>by
  rw [List.replicate_succ,List.replicate_succ,List.flatten_cons,List.flatten_cons]
  exact Vals.append h (Vals.rep h k)
theorem foldl_rep (its:List Value):∀ (k:Nat) (acc:List Value),
  List.foldl (fun x1 x2=>x1++x2) acc.toArray (List.replicate k its.toArray)=(acc++(List.replicate k its).flatten).toArray
 | 0,acc=>by simp
 | k+1,acc=>by
  have e:acc.toArray++its.toArray=(acc++its).toArray:=by simp
  have e2:(acc++its)++(List.replicate k its).flatten=acc++(List.replicate (k+1) its).flatten:=by
   rw [List.replicate_succ,List.flatten_cons,List.append_assoc]
  rw [← e2,← foldl_rep its k (acc++its),← e,List.replicate_succ,List.foldl_cons]
section
variable {X:Cx} {pins:List (Addr×Obj)} {σ:St} {H:Hp} {s:Shared} {l b:Addr} {xs ys zs:List V}
theorem Inv.Nu {its its':List Value} {n:Nat} {f:Array Value->Array Value} {t':Nat} (I:Inv X pins σ H s) (hH:H l=some (.lst xs))
  (e:s.heap.get? l=some { cls:=.type "list", data:=.seq its.toArray n }) (hf:f its.toArray=its'.toArray) (hv:Vals ys its') (hz:ys.length<=sizeLine) :
  Inv X pins σ (upd H l (.lst ys)) { s with heap:=s.heap.update l (Obj.mapSeq f),toks:=t' }:=by
 have q:=PySem.IsL.update e f
 rw [hf] at q
 refine I.write (x:=l) (e:=l) (by rw [hH];exact trivial) (.inl rfl) (fun b' u hb hu=>(Heap.get?_update_other s.heap (Obj.mapSeq f) (Ne.symm hb)).trans hu) ⟨_,q⟩ ?_
 exact ⟨hz,its',_,hv,q⟩
theorem Inv.J8 {its:List Value} {t':Nat} (I:Inv X pins σ H s) (hv:Vals ys its) (hz:ys.length<=sizeLine) :
  Inv X pins σ (upd H s.heap.objs.size (.lst ys)) { s with heap:=s.heap.push { cls:=.type "list", data:=.seq its.toArray },toks:=t' } :=
 I.laid (fun _ _ q=>Heap.get?_push_of_some _ q) (Nat.le_refl _) ⟨hz,its,0,hv,Heap.get?_push_size _ rfl⟩
theorem Inv.fresh (I:Inv X pins σ H s):H s.heap.objs.size=none:=I.a_.fresh (Nat.le_refl _)
theorem Inv.D7 (I:Inv X pins σ H s) (hH:H l=some (.lst xs)):xs.length<=sizeLine/\∃ (its:List Value) (n:Nat),Vals xs its/\xs.length=its.length/\s.heap.get? l=some { cls:=.type "list", data:=.seq its.toArray n }:=by
 obtain ⟨z,its,n,r,e⟩:=I.a_ l _ hH
 exact ⟨z,its,n,r,r.length,e⟩
theorem AW {n:Nat} (h:n<=sizeLine):Builtin.List.listTooLong n=false:=by
 unfold Builtin.List.listTooLong
 exact decide_eq_false (by omega)
end
section
variable {X:Cx}
def EW:V->List V->Hp->VK->Prop:=fun x vs H Q=>∃ l xs y,x=.ref l/\vs=[y]/\H l=some (.lst xs)/\xs.length<sizeLine/\Q .cS (upd H l (.lst (xs++[y])))
theorem nI:QW X "list.append" EW:=by
 intro pins s σ H x vs v us Q I rx rv h
 obtain ⟨l,xs,y,rfl,rfl,hH,hz,q⟩:=h
 cases rx
 obtain ⟨u,rfl,ru⟩:=rv.one
 obtain ⟨z,its,n,r,hl,e⟩:=I.D7 hH
 refine call_meets F.slot_list_append ⟨_,e,rfl⟩ F.entry_list_append (F.args_list_append_2 _ _) (PySem.list_append l its.toArray n u (by rw [List.size_toArray];omega)) ⟨e,?_⟩
 refine ⟨.cS,_,I.Nu (its':=its++[u]) hH e (by simp) (r.append (.cons ru .nil)) ?_,rfl,q⟩
 rw [List.length_append,List.length_singleton]
 omega
def IU:R2:=fun x y H Q=>∃ l b xs zs,x=.ref l/\y=.ref b/\H l=some (.lst xs)/\H b=some (.lst zs)/\xs.length+zs.length<=sizeLine/\∀ p,H p=none->Q (.ref p) (upd H p (.lst (xs++zs)))
theorem Hk:gf X (binaryOp .Add) IU:=by
 intro pins s σ H x y v u Q I rx ry h
 obtain ⟨l,b,xs,zs,rfl,rfl,hH,hB,hz,q⟩:=h
 cases rx
 cases ry
 obtain ⟨z,its,n,r,hl,e⟩:=I.D7 hH
 obtain ⟨z2,its2,n2,r2,hl2,e2⟩:=I.D7 hB
 refine PySem.P.add_list e e2 ?_ (by rw [List.size_toArray,List.size_toArray];omega)
 have ea:its.toArray++its2.toArray=(its++its2).toArray:=by simp
 rw [ea]
 exact ⟨.ref _,_,I.J8 (t':=s.toks) (r.append r2) (by rw [List.length_append];omega),rfl,q _ I.fresh⟩
def JS:R2:=fun x y H Q=>∃ l k xs,x=.ref l/\y=.int k/\H l=some (.lst xs)/\-(2^63)<=k/\k<2^63/\xs.length*k.toNat<=sizeLine ∧
 ∀ p,H p=none->Q (.ref p) (upd H p (.lst (List.replicate k.toNat xs).flatten))
theorem len_rep {α:Type} (xs:List α) (k:Nat):(List.replicate k xs).flatten.length=k*xs.length:=by
 induction k with
 | zero=>simp
 | succ k ih=>rw [List.replicate_succ,List.flatten_cons,List.length_append,ih,Nat.succ_mul,Nat.add_comm]
theorem Cy:gf X (binaryOp .Mult) JS:=by
 intro pins s σ H x y v u Q I rx ry h
 obtain ⟨l,k,xs,rfl,rfl,hH,h1,h2,hz,q⟩:=h
 cases rx
 obtain ⟨t,rfl⟩:=ry
 obtain ⟨z,its,n,r,hl,e⟩:=I.D7 hH
 have hlen:its.toArray.size*k.toNat<=sizeLine:=by rw [List.size_toArray,← hl];exact hz
 have hcap:¬ its.toArray.size*k.toNat>(2^63-1)/8:=by
  have:(sizeLine:Nat)<=(2^63-1)/8:=by decide
  omega
 have hfit:¬ (!Builtin.List.listFitsIndex k)=true:=by
  rw [fitsIndex_both h1 h2]
  exact Bool.false_ne_true
 have hlong:¬ Builtin.List.listTooLong (its.toArray.size*k.toNat)=true:=by
  rw [AW hlen]
  exact Bool.false_ne_true
 have hnew:List.foldl (fun x1 x2=>x1++x2) #[] (List.replicate (if its.toArray.isEmpty=true then 0 else k.toNat) its.toArray)=(List.replicate k.toNat its).flatten.toArray:=by
  have f0:∀ m:Nat,List.foldl (fun x1 x2=>x1++x2) #[] (List.replicate m its.toArray)=(List.replicate m its).flatten.toArray:=fun m=>by
   have:=foldl_rep its m []
   rw [List.nil_append] at this
   exact this
  rw [f0]
  cases its with
  | nil=>simp
  | cons a r'=>rw [if_neg (by simp)]
 refine wpAny_binaryOp_repeat_ref (T := "list") (U := "int") (by decide) ⟨_,e,rfl⟩ (fun s'=>typeIs_int s' k t) noFill_list_mul F.fills_int_mul F.slot_int_rmul repeat_list F.slot_int_index.lookup
  (call_meets F.slot_int_rmul (typeIs_int s k t) F.entry_int_rmul (F.args_int_rmul_2 _ _) (int___rmul___int_list k t l its.toArray n)
   ⟨e,rfl,⟨_,e,rfl⟩,call_meets F.slot_list_mul ⟨_,e,rfl⟩ F.entry_list_mul (F.args_list_mul_2 _ _) (AutoListH.list___mul___list_int_3 l its.toArray n k t hfit hcap hlong) ⟨e,?_⟩⟩)
 rw [hnew]
 exact ⟨.ref _,_,I.J8 (t':=s.toks) (r.rep k.toNat) (by rw [len_rep,Nat.mul_comm];exact hz),rfl,q _ I.fresh⟩
end
section
variable {prog:Program} {w:World} {A:Around} {E:Value->Shared->Prop} {s:Shared}
end
section
variable {X:Cx}
end
end L2
namespace L2
open PySem PySem.Spec PyProof.Rows
section
variable {κ:Type} [DecidableEq κ]
end
section
variable {P:Program} {w:World} {H:Hp} {h:Heap} {a:Addr}
end
section
variable {X:Cx} {pins:List (Addr×Obj)} {σ:St} {H:Hp} {s:Shared} {a:Addr} {y v:V} {u r:Value} {o:Option V} {A:Around} {E:Value->Shared->Prop}
end
section
variable {X:Cx} {pins:List (Addr×Obj)} {σ:St} {H:Hp} {s:Shared} {a:Addr} {kvs:List (Key×V)} {k:Key} {u:Value} {A:Around} {E:Value->Shared->Prop}
end
section
variable {X:Cx} {o i e value:Expr} {pos pos' tpos:Pos} {td ty tv:TE}
end
section
variable {X:Cx} {pos:Pos}
end
section
variable {X:Cx} {pins:List (Addr×Obj)} {σ:St} {H:Hp} {s:Shared} {a:Addr} {y d:V} {u r:Value} {o:Option V} {A:Around} {E:Value->Shared->Prop}
end
section
variable {X:Cx} {o e f:Expr} {apos cpos:Pos} {td ty tx:TE}
end
section
variable {X:Cx} {pins:List (Addr×Obj)} {σ:St} {H:Hp} {s:Shared} {a:Addr} {kvs:List (Key×V)} {A:Around} {E:Value->Shared->Prop}
end
section
variable {X:Cx} {pins:List (Addr×Obj)} {σ:St} {H:Hp} {s:Shared} {a:Addr} {y:V} {u:Value} {A:Around} {E:Value->Shared->Prop}
end
end L2
namespace Att
open PySem PySem.W PySem.Calls PyProof.Rows
theorem oB {P:Params} {h:Heap}:∀ (ns:List Int) (vs:List Value),WellAll P h vs (ns.map WData.int)->IntsAre vs ns:=by
 intro ns
 induction ns with
 | nil =>
  intro vs w
  rw [List.map_nil] at w
  cases w
  exact .nil
 | cons n ns ih =>
  intro vs w
  rw [List.map_cons] at w
  cases w with
  | cons a b =>
   cases a
   exact .cons _ _ (ih _ b)
theorem yQ {l:OpenLaw} {n:Nat} (hn:l.most=some n) {P:Params} {h:Heap} {args:List WData} {vals:List Value}
  (zQ:l.row.toRowW.claim.pre args=true) (hwl:WellAll P h vals args) :
  ∃ a vs ns,vals=[Value.ref a]/\args=[WData.list (ns.map WData.int)]/\h.get? a=some { cls:=.type "list", data:=.seq vs.toArray }/\IntsAre vs ns/\ns.length<=n:=by
 have hsh:WShape.hasAll [] args [.list .int]=true:=(pre_splitW zQ).1
 have hc:l.pre.holds [] { args:=args }=true:=(pre_splitW zQ).2
 obtain ⟨d,r,rfl,h1,h2⟩:=hasAllW_cons hsh
 obtain rfl:=hasAllW_nil h2
 obtain ⟨xs,rfl,h3⟩:=hasW_list h1
 obtain ⟨ns,rfl⟩:=items_int h3
 have hlen:ns.length<=n:=by
  unfold OpenLaw.pre at hc
  have h4:(WTm.not (.lt (.lit (.int (n:Int))) (.len (.arg 0)))).holds [] { args:=[.list (ns.map .int)] }=true:=by
   have h4:=(holds_andW hc).1
   rw [hn] at h4
   exact h4
  have h5:=condW_of h4 (w_not (w_lt w_lit (w_len_list (w_arg rfl))))
  rw [List.length_map] at h5
  refine Nat.le_of_not_lt fun q=>?_
  have q':(n:Int)<((ns.length:Nat):Int):=by omega
  first
   | (rw [decide_eq_true q'] at h5;exact absurd h5 (by decide))
   | (simp at h5;omega)
 cases hwl with
 | cons w1 w2 =>
  cases w2
  cases w1 with
  | list ho hall=>exact ⟨_,_,ns,rfl,rfl,ho,oB ns _ hall,hlen⟩
theorem yS (l:OpenLaw) (args:List WData):l.row.toRowW.claim.post args (.bool true) args=true :=
 postW_of (r:=l.row.toRowW) (X:=(true==true))
  (show WShape.has [] (.bool true) .bool=true by first | rfl | decide | simp [WShape.has,WShape.arms,WShape.armsAll])
  (show (WTm.eq .res (.lit (.bool true))).value [] { args:=args,res:=some (.bool true),after:=args }=some (.bool (true==true)) from w_eq_bool (w_res rfl) w_lit) rfl
section
variable {prog:Program} {w:World} {A:Around} {E:Value->Shared->Prop} {s:Shared} {K:Frag}
end
end Att
namespace L2
open PySem PySem.Spec PyProof.Rows
theorem sE:∀ {vs:List Value} {ns:List Int},IntsAre vs ns->Vals (ns.map V.int) vs
 | _,_,.nil=>.nil
 | _,_,.cons n t h=>.cons ⟨t,rfl⟩ (sE h)
def JE (H:Hp):Prop:=∀ b,H b=none\/∃ o xs,H b=some (.rK o (.lst xs))
theorem BW {P:Program} {w:World} {K:PySem.W.Frag} {mg mb:Str->Option Value} {CX:Ec} {k:Nat} {fa a:Addr} {fd:FuncData} {x:Str} {sp:Sp} {s₁:Shared} {vs:List Value} {ns:List Int}
  (KX:K.In s₁.heap) (hns:s₁.heap.Ns mainGlobals mg) (hb:s₁.heap.Ns builtinsNs mb) (hbb:∀ x:Str,x ≠ "__name__" -> mb x=bootBuiltins x) (hlim:s₁.heap.NoLimit) (hg:s₁.gens=#[])
  (ha:s₁.heap.get? a=some { cls:=.type "list", data:=.seq vs.toArray }) (hi:IntsAre vs ns) (hl:ns.length<=sizeLine) (hr:bV k callerA)
  (F:∀ base:Heap,K.In base->base.Ns mainGlobals mg->aN P w K mg base CX k fa fd [x] sp) (hbind:∀ (s:Shared) (u:Value),BindsTo s fd ⟨[u],[]⟩ [(x,u)])
  (hsp:∀ H:Hp,JE H->i4 K H a (ns.map V.int)->sp [.ref a] H (fun v _=>v=.bl true) fun _ _ _=>False)
  (hCX:∀ H e s',CX [] H s₁ (fun _ _ _=>False) e s'->False) :
  codeAny (model P w) callerA (.call (.ref fa) ⟨[.ref a],[]⟩) (fun r s'=>r=.ok (.ret (.bool true))/\OldK s₁.heap s'.heap/\s'.os=s₁.os/\AllBare s'.gens) s₁:=by
 have rv:=sE hi
 have lenV:=hi.length
 have core:∀ H:Hp,JE H->i4 K H a (ns.map V.int)->mV P w H s₁.heap->(∀ b,H b≠none->b=a)->(H a≠none->K.lookup a=none) ->
   codeAny (model P w) callerA (.call (.ref fa) ⟨[.ref a],[]⟩) (fun r s'=>r=.ok (.ret (.bool true))/\OldK s₁.heap s'.heap/\s'.os=s₁.os/\AllBare s'.gens) s₁:=by
  intro H hO hS a_ hA hK
  have base_of:∀ {b:Addr} {o:Obj},s₁.heap.get? b=some o->H b=none->(uk s₁.heap H).get? b=some o:=fun e n=>BZ e n
  have nv:∀ {b:Addr} {o:Obj} {es:Array DictEntry} {ep:Nat},s₁.heap.get? b=some o->o.data=.dict es ep->H b=none:=fun {b o es ep} e d=>by
   cases q:H b with
   | none=>rfl
   | some u =>
    have e':b=a:=hA b (by rw [q];simp)
    subst e'
    rw [ha] at e;cases e
    have d':Data.seq vs.toArray _=Data.dict es ep:=d
    cases d'
  have nsK:∀ {b:Addr} {m:Str->Option Value},s₁.heap.Ns b m->(uk s₁.heap H).Ns b m:=fun {b m} ⟨o,es,ep,e,d,r⟩=>⟨o,es,ep,base_of e (nv e d),d,r⟩
  have hKb:K.In (uk s₁.heap H):=fun b o e=>base_of (KX b o e) (by
   cases q:H b with
   | none=>rfl
   | some u =>
    have e':b=a:=hA b (by rw [q];simp)
    subst e'
    rw [hK (by rw [q];simp)] at e;cases e)
  have hM:Mod K mg (uk s₁.heap H):=⟨hKb,nsK hns,⟨mb,nsK hb,hbb⟩,let ⟨mc,h1,h2⟩:=hlim;⟨mc,nsK h1,h2⟩⟩
  have e0:xr P w K mg (uk s₁.heap H) callerA [] s₁ H:=⟨rfl,hM,fun b o e=>EL e,Nat.le_of_eq (zN _ _),trivial,fun b hb=>absurd (show b∈([]:List Addr) from hb) (by simp),a_,.of_eq hg⟩
  refine codeAny_mono ((F _ hKb (nsK hns)).run callerA [] s₁ H ⟨[.ref a],[]⟩ [.ref a] [.ref a] _ _ hr e0 (hbind s₁ (.ref a)) (.cons rfl .nil) (hsp H hO hS)) fun r s' h=>?_
  cases r with
  | error e=>exact (hCX H e s' h).elim
  | ok fl =>
   cases fl with
   | next=>exact False.elim h
   | brk=>exact False.elim h
   | cont=>exact False.elim h
   | ret u =>
    obtain ⟨v,H',os,bare,un,hok',r',q⟩:=h
    have q':v=.bl true:=q
    subst q'
    obtain rfl:u=Value.bool true:=r'
    refine ⟨rfl,OldK.of_keep fun b o e=>?_,os,bare⟩
    cases q:H b with
    | none=>exact un.keep b o e q (by intro z;exact absurd (show b∈([]:List Addr) from z) (by simp)) (by simp)
    | some u =>
     rcases hO b with z | ⟨ob,xs,z⟩
     ·rw [q] at z;cases z
     ·have z2:=un.lh b ob _ z
      obtain ⟨e1,_⟩:=a_ b _ z
      obtain ⟨e2,_⟩:=hok' b _ z2
      rw [e] at e1;cases e1
      exact e2
 cases hk:K.lookup a with
 | some o =>
  have e:=KX a o hk
  rw [ha] at e
  cases e
  refine core (fun _=>none) (fun _=>.inl rfl) (.inr ⟨_,vs.toArray,_,hk,rfl,rfl,rfl,by rw [List.size_toArray,lenV];exact hl,by simpa using rv⟩) (fun b u z=>by have z':(none:Option HO)=some u:=z;cases z') (fun b z=>absurd rfl z) fun z=>absurd rfl z
 | none =>
  refine core (fun b=>if b=a then some (.rK { cls:=.type "list", data:=.seq vs.toArray } (.lst (ns.map V.int))) else none) (fun b=>?_) (.inl (.inr ⟨{ cls:=.type "list", data:=.seq vs.toArray },if_pos rfl⟩)) (fun b u z=>?_) (fun b z=>?_) fun _=>hk
  ·by_cases hb:b=a
   ·exact .inr ⟨_,_,if_pos hb⟩
   ·exact .inl (if_neg hb)
  ·by_cases hb:b=a
   ·have z':=(if_pos hb).symm.trans z
    cases z'
    subst hb
    exact ⟨ha,by rw [List.length_map];exact hl,vs,_,rv,ha⟩
   ·have z':=(if_neg hb).symm.trans z
    cases z'
  ·by_cases hb:b=a
   ·exact hb
   ·exact absurd (if_neg hb) z
end L2
namespace L2
open PySem PySem.Spec PyProof.Rows
end L2
namespace L2
open PySem PySem.Spec PyProof.Rows
def inClass (s:Stmt) (j:Nat):Stmt:=match s with
 | .ClassDef _ _ _ body _ _ _ _ _ _ _=>body.getD j (.Pass ⟨0,0,0,0⟩)
 | _=>.Pass ⟨0,0,0,0⟩
def g9 (s:Stmt):Arguments:=match s with
 | .FunctionDef _ a _ _ _ _ _ _ _ _=>a
 | _=>{ posonlyargs:=[],args:=[],vararg:=none,kwonlyargs:=[],kw_defaults:=[],kwarg:=none,defaults:=[] }
def ff (s:Stmt):List Stmt:=match s with
 | .FunctionDef _ _ b _ _ _ _ _ _ _=>b
 | _=>[]
def au (s:Stmt):Scope:=match s with
 | .FunctionDef _ _ _ _ _ _ sc _ _ _=>sc
 | _=>{ kind:=.function,names:=[],isGenerator:=false,isCoroutine:=false }
abbrev E0:XK:=fun _ _ _=>False
section
variable {P:Program} {w:World} {K:PySem.W.Frag} {mg:Str->Option Value} {base:Heap}
end
theorem m7 {n:Nat} (h:n<=1000):n<sizeLine:=Nat.lt_of_le_of_lt h (by decide)
section
variable {X:Cx}
end
def aW (H H':Hp):Prop:=∀ b o,H b=some o->H' b=some o
end L2
namespace L2
open PySem PySem.Spec PyProof.Rows
section
variable {X:Cx}
def Cm (_ j:Int):Prop:=j≠0/\j.natAbs.log2<9000
theorem AS:gf X (binaryOp .FloorDiv) (rI Cm fun i j=>.int (i.fdiv j)):=Ki fun _ _ _ _ _ _ _ hc q=>floordiv_int hc.1 q (.inl (PyProof.noPylong_of_log2 hc.2))
theorem EJ:gf X (binaryOp .Mult) (rI (fun i j=>IntMulOk i j) fun i j=>.int (i*j)):=Ki fun _ _ _ _ _ _ _ hc q=>mul_int q hc
theorem Aq {a b:Int} {m n:Nat} (ha:a.natAbs<2^m) (hb:b.natAbs<2^n) (h:m+n<=134217728):IntMulOk a b:=IntMulOk.of_le (intBits_le_iff.mpr ha) (intBits_le_iff.mpr hb) h
theorem C0:bootBuiltins "isinstance" = some (.builtin "isinstance"):=by decide +kernel
theorem wX:bootBuiltins "int" = some (.type "int"):=by decide +kernel
theorem oY:bootBuiltins "bool" = some (.type "bool"):=by decide +kernel
theorem me:bootBuiltins "tuple" = some (.type "tuple"):=by decide +kernel
theorem yd:bootBuiltins "list" = some (.type "list"):=by decide +kernel
theorem G9:bootBuiltins "sum" = some (.builtin "sum"):=by decide +kernel
def MW (K:PySem.W.Frag):List V->Hp->VK->Prop:=fun xs H Q=>∃ x T t b,xs=[x,.ty T]/\jK K H x t/\PySem.W.kitOne K t (.type T)=some b/\Q (.bl b) H
theorem Bh:dH X (.builtin "isinstance") (MW X.K):=by
 intro pins s σ H xs us Q I r h
 obtain ⟨x,T,t,b,rfl,ty,e,q⟩:=h
 cases r with
 | cons r1 r2 =>
  cases r2 with
  | cons r3 r4 =>
   cases r4
   cases (show _=Value.type T from r3)
   exact yT I r1 ty e fun tk=>⟨.bl b,H,I.tok tk,rfl,q⟩
end
section
variable (K:PySem.W.Frag)
end
section
variable {X:Cx}
theorem Inv.kK {pins:List (Addr×Obj)} {σ:St} {H:Hp} {s:Shared} {h':Heap} {t':Nat} {ch:List Addr} {a:Addr} {o:HO} (I:Inv X pins σ H s) (k:∀ b u,b ∉ ch->s.heap.get? b=some u->h'.get? b=some u)
  (hch:∀ b∈ch,lQ X pins H b) (hp:s.heap.objs.size<=a) (hl:∀ b∈ch,∃ u,s.heap.get? b=some u) (new:bP X.prog X.w (upd H a o) h' a o):Inv X pins σ (upd H a o) { s with heap:=h',toks:=t' }:=by
 have ne:∀ b u,s.heap.get? b=some u->b≠a:=fun b u e=>Nat.ne_of_lt (Nat.lt_of_lt_of_le (Heap.lt_size e) hp)
 have hfr:H a=none:=I.a_.fresh hp
 have nitH:∀ b u,H b=some u->b ∉ ch:=fun b u e z=>by rw [(hch b z).1] at e;cases e
 have nea:∀ b u,H b=some u->b≠a:=fun b u e z=>by rw [z,hfr] at e;cases e
 refine I.step (g':=s.gens) (d':=s.drawn) (ch:=ch) (fun b hb=>?_) (fun b u _ _ hc e _=>k b u hc e) (fun b u _ _ hc e _=>⟨u.slots,k b u hc e⟩)
  (fun b u _ e n=>by rw [ar (ne b u e)];exact n) (fun b u hc e=>⟨u,k b u hc e⟩)
  (fun b xs e=>by rw [ar (nea b _ e)];exact e) (fun b ob u e=>by rw [ar (nea b _ e)];exact e) (fun b ps e=>⟨#[],by rw [ar (nea b _ e),e];simp⟩) (fun m hm=>?_) (fun b u e=>?_) I.bare
 ·obtain ⟨_,f1,_,f3,f4,f5⟩:=hch b hb
  exact ⟨f3,f1,f4,f5⟩
 ·obtain ⟨ob,es,ep,ho,r⟩:=hm
  exact ⟨ob,es,ep,k _ ob (fun z=>(hch _ z).2.1 rfl) ho,r⟩
 ·by_cases z:b=a
  ·subst z
   rw [aC] at e
   cases e
   exact new
  ·rw [ar z] at e
   refine (I.a_ b u e).lN (fun c v hc q=>k c v ?_ q) (fun c q=>?_) fun c ys q=>?_
   ·rcases hc with z' | z'
    ·rw [z'];exact nitH b u e
    ·exact nitH c _ z'
   ·rw [ar (nea c _ q)];exact q
   ·rw [ar (nea c _ q)];exact q
def HS (K : PySem.W.Frag) (a : Addr) : It :=
  ⟨fun i H => ∃ xs x, i4 K H a xs /\ xs[i]? = some x,
   fun i H y H' => ∃ p x, H p = none /\ y = .ref p /\ H' = upd H p (.tup [.int i, x]) /\ ∀ xs, i4 K H a xs -> xs[i]? = some x,
   fun i H => ∃ xs, i4 K H a xs /\ xs.length <= i⟩
theorem zK {P:Program} {w:World} {K:PySem.W.Frag} {elts:List Expr} {x1:Nat} {tp:Pos} (a e it:Addr) (hne:e≠it):Turn P w K (.Tuple elts x1 tp) (HS K a) [e,it] e (fun i h=>(∃ old,IsEnum h e it i old)/\h.IsListIter it a i) where
 mem:=by simp
 obj:=fun i h st b hb=>by
  obtain ⟨⟨old,he⟩,⟨o,e1,c,d⟩⟩:=st
  rcases List.mem_cons.mp hb with z | z
  ·subst z
   exact ⟨_,he,fun v z=>by cases z⟩
  ·have z':b=it:=by simpa using z
   subst z'
   exact ⟨o,e1,fun v z=>by rw [d] at z;cases z⟩
 keep:=fun i h h' st k=>by
  obtain ⟨⟨old,he⟩,hit⟩:=st
  exact ⟨⟨old,k e (by simp) _ he⟩,hit.at fun o x=>k it (by simp) o x⟩
 item:=by
  intro X hP hw hK hc i pins s σ H E I hf st hg
  subst hP hw hK
  obtain ⟨xs,x,hq,hx⟩:=hg
  obtain ⟨its,rv,p,hz⟩:=I.list hq
  obtain ⟨u,hu,ru⟩:=rv.get hx
  obtain ⟨⟨old,he⟩,hit⟩:=st
  have helt:e<s.heap.objs.size:=Heap.lt_size he
  have hilt:it<s.heap.objs.size:=by obtain ⟨_,z,_⟩:=hit;exact Heap.lt_size z
  refine wpAny_pyNext_enum_item he hit p.isList (x:=u) (by simpa using hu) hne fun h' ho hit' hT hsz hk=>⟨_,rfl,?_⟩
  refine wpAny_letOwnedTupleGo_enum (s:={ s with heap:=h',toks:=s.toks+1 }) ho fun h2 he2 hs2=>?_
  have keep2:∀ b o,b ∉ [e,it]->s.heap.get? b=some o->h2.get? b=some o:=fun b o hb q=>by
   have n1:b≠e:=fun z=>hb (by simp [z])
   have n2:b≠it:=fun z=>hb (by simp [z])
   exact (hs2.2 b n1).trans (hk b o n1 n2 q)
  have hT2:h2.get? s.heap.objs.size=some { cls:=.type "tuple", data:=.seq #[.int i s.toks,u] }:=(hs2.2 _ (Nat.ne_of_gt helt)).trans hT
  have I2:Inv X pins σ (upd H s.heap.objs.size (.tup [.int i,x])) { s with heap:=h2,toks:=s.toks+1 } :=
   I.kK (ch:=[e,it]) keep2 hf (Nat.le_refl _) (fun b hb=>by
    rcases List.mem_cons.mp hb with z | z
    ·subst z;exact ⟨_,he⟩
    ·have z':b=it:=by simpa using z
     subst z'
     obtain ⟨o,z,_⟩:=hit
     exact ⟨o,z⟩)
    ⟨by show 2<=sizeLine;decide,[.int i s.toks,u],.cons ⟨_,rfl⟩ (.cons ru .nil),⟨_,hT2,rfl,_,rfl⟩⟩
  have hnew:H s.heap.objs.size=none:=I.a_.fresh (Nat.le_refl _)
  refine ⟨.ref s.heap.objs.size,_,I2,rfl,⟨_,x,hnew,rfl,rfl,fun ys hy=>by rw [I.ql hy hq];exact hx⟩,⟨⟨u,by simpa using he2⟩,hit'.at fun o z=>(hs2.2 it (Ne.symm hne)).trans z⟩,fun b hb=>?_⟩
  have nb:b≠s.heap.objs.size:=by
   rcases List.mem_cons.mp hb with z | z
   ·rw [z];exact Nat.ne_of_lt helt
   ·have z':b=it:=by simpa using z
    rw [z'];exact Nat.ne_of_lt hilt
  rw [ar nb]
  exact (hf b hb).1
 done:=by
  intro X hP hw hK hc i pins s σ H E I hf st hg
  subst hP hw hK
  obtain ⟨xs,hq,hx⟩:=hg
  obtain ⟨its,rv,p,hz⟩:=I.list hq
  have hl:=rv.length
  obtain ⟨⟨old,he⟩,hit⟩:=st
  obtain ⟨f0,f1,f2,f3,f4,f5⟩:=hf it (by simp)
  exact wpAny_pyNext_enum_end (I.ok.hd hc) he hit p.isList (by simp;omega) fun h' eb=>⟨rfl,I.turned (t':=s.toks) (fun b o hb e=>eb b o hb e) f0 f1 f3 f4 f5⟩
 self:=fun _ _ _ _ _ st h=>by
  obtain ⟨⟨old,he⟩,_⟩:=st
  exact wpAny_pyIter_enum he h
end
end L2
namespace L2
open PySem PySem.Spec PyProof.Rows
section
variable {prog:Program} {w:World} {A:Around} {R:Result->Shared->Prop} {s:Shared}
theorem r6 {elt target iter:Expr} {ifs:List Expr} {scope:Scope} {pos:Pos} {it acc:Value} {env:Env} (I:Nat->Shared->Prop)
  (turn:∀ n s,I n s->wpAny (model prog w) A (pyNext it) (fun r s₁=>match r with
   | none=>R (.ok .next) s₁
   | some v=>wpAny (model prog w) A (letOwnedTupleGo target it v) (fun _ s₂=>wpAny (model prog w) A (assign target env v) (fun _ s₃ =>
     wpAny (model prog w) A (forIn ifs true fun c r=>if r=true then do let ok ← isTrue c env (eval c env);pure (ForInStep.yield ok) else pure (ForInStep.yield r)) (fun ok s₄ =>
      if ok=true then wpAny (model prog w) A (eval elt env) (fun x s₅ =>
       wpAny (model prog w) A (call (.builtin "list.append") [acc,x]) (fun _ s₆=>∃ m,m<n/\I m s₆) (fun _ _=>False) s₅) (fun _ _=>False) s₄
      else ∃ m,m<n/\I m s₄) (fun _ _=>False) s₃) (fun _ _=>False) s₂) (fun _ _=>False) s₁) (fun _ _=>False) s)
  (n:Nat) (h:I n s) :
  codeAny (model prog w) A (.compLoop (.ListComp elt [⟨target,iter,ifs,0⟩] scope pos) 0 it acc env) R s:=by
 refine codeAny_loop rfl I (fun n s hI=>?_) n h
 show wpAny _ A ((compTurn (.ListComp elt [⟨target,iter,ifs,0⟩] scope pos) 0 it acc env).onRaise (fun x=>do noteFrame x env;theTreesLotGoes x)) _ _ s
 refine wpAny_noted ?_
 rw [compTurn_list]
 refine wpAny_bind (wpAny_standAt (wpAny_bind (wpAny_mono (turn n s hI) (fun r s₁ h₁=>?_) fun _ _ h'=>h'.elim)))
 cases r with
 | none=>exact wpAny_pure h₁
 | some v =>
  refine wpAny_bind (wpAny_mono h₁ (fun _ s₂ h₂=>wpAny_bind (wpAny_mono h₂ (fun _ s₃ h₃=>wpAny_bind (wpAny_mono h₃ (fun ok s₄ h₄=>?_) fun _ _ h'=>h'.elim)) fun _ _ h'=>h'.elim)) fun _ _ h'=>h'.elim)
  cases ok with
  | false=>exact wpAny_pure ⟨rfl,h₄⟩
  | true =>
   exact wpAny_bind (wpAny_bind (wpAny_mono h₄ (fun x s₅ h₅=>wpAny_bind (wpAny_mono h₅ (fun _ s₆ h₆=>wpAny_pure (wpAny_pure ⟨rfl,h₆⟩)) fun _ _ h'=>h'.elim)) fun _ _ h'=>h'.elim))
end
def vi (X:Cx) (scope:Scope) (cl:List (Str×Addr)) (N:List Str) (C:Addr) (s₀:Shared) (H₀:Hp) (ex:List Addr) (pins:List (Addr×Obj)):Cx :=
 { X with N:=N,s₀:=s₀,H₀:=H₀,env:=compEnvC scope cl C X.env,outer:=X.stack,stack:=X.stack,ex:=ex,fn:=fun _=>false,pn:=X.pn++pins,xe:=fun _ _=>False }
inductive iP (X:Cx) (sc:Scope) (cl:List (Str×Addr)):List Str->List Nat->Prop where
 | nil:iP X sc cl [] []
 | cons {x:Str} {j:Nat} {c:Addr} {fs:List Str} {js:List Nat} (hN:X.N[j]?=some x) (hf:sc.names.lookup x=some .free) (hv:X.env.kindOf x=some .cell\/X.env.kindOf x=some .free) (hc:X.env.cells.lookup x=some c) (hl:cl.lookup x=some c) (r:iP X sc cl fs js):iP X sc cl (x::fs) (j::js)
inductive fG (X:Cx):List (Str×Addr)->Prop where
 | nil:fG X []
 | cons {x:Str} {c:Addr} {r:List (Str×Addr)} (h:X.env.cells.lookup x=some c) (t:fG X r):fG X ((x,c)::r)
theorem fG.at {X:Cx}:∀ {cl:List (Str×Addr)},fG X cl->∀ x c,cl.lookup x=some c->X.env.cells.lookup x=some c
 | _,.nil,_,_,e=>by simp at e
 | _,.cons (x:=y) (c:=d) h t,x,c,e=>by
  rw [List.lookup_cons] at e
  cases q:x==y with
  | true =>
   rw [q] at e
   have e':d=c:=Option.some.inj e
   have q':x=y:=by simpa using q
   rw [q',← e'];exact h
  | false =>
   rw [q] at e
   exact fG.at t x c e
def kP (cl:List (Str×Addr)) (names:List (Str×NameKind)):Bool:=names.all fun y=>y.2 != .free||(cl.lookup y.1).isSome
def iK (names:List (Str×NameKind)):Bool:=names.all fun y=>y.2 != .cell
def kT (names:List (Str×NameKind)):Bool:=names.all fun y=>y.2 != .local||(names.lookup y.1==some .local)
def dj (ts:List Str) (js:List Nat) (σ:St):St:=ts.map (fun _=>none)++js.map fun j=>(σ[j]?).join
def AG (wi:TI) (g:TG) (tt:Option TT) (te:TE) (ts:List Str) (js:List Nat):TE:=fun σ H Q=>wi σ H fun J H1=>∀ D,H1 D=none ->
 ∃ W:Nat->Nat->St->Hp->Prop,(∃ m,W 0 m (dj ts js σ) (upd H1 D (.lst [])))/\∀ i m σ' H',W i m σ' H' ->
  (J.stop i H'/\Q (.ref D) H')\/(J.go i H'/\∃ N:St->Hp->Prop,(∀ σ'' H'',N σ'' H''->∃ m',m'<m/\W (i+1) m' σ'' H'') ∧
   ∀ x H2,J.wy i H' x H2->g x σ' H2 fun σ2 H3=>match tt with
    | none=>te σ2 H3 fun y H4=>∃ ys,H4 D=some (.lst ys)/\ys.length<sizeLine/\N σ2 (upd H4 D (.lst (ys++[y])))
    | some t=>t σ2 H3 fun b H3'=>if b=true then te σ2 H3' fun y H4=>∃ ys,H4 D=some (.lst ys)/\ys.length<sizeLine/\N σ2 (upd H4 D (.lst (ys++[y]))) else N σ2 H3')
theorem jJ {scope : Scope} {cl : List (Str × Addr)} {C : Addr} {env : Env} {x : Str} (h : (compEnvC scope cl C env).kindOf x = some .cell \/ (compEnvC scope cl C env).kindOf x = some .free) (nc : iK scope.names = true) : scope.names.lookup x = some .free := by
  have key : ∀ (names : List (Str × NameKind)), iK names = true ->
      ((names.map fun (n, k) => if (k == NameKind.free && env.scope.kind == .function && env.kindOf n == some .cell) then (n, NameKind.cell) else (n, k)).lookup x = some .cell ∨
       (names.map fun (n, k) => if (k == NameKind.free && env.scope.kind == .function && env.kindOf n == some .cell) then (n, NameKind.cell) else (n, k)).lookup x = some .free) -> names.lookup x = some .free := by
    intro names
    induction names with
    | nil => intro _ h; simp at h
    | cons p r ih =>
      obtain ⟨n, k⟩ := p
      intro nc h
      have nc' : (k != .cell) = true /\ iK r = true := by
        unfold iK at nc
        rw [List.all_cons, Bool.and_eq_true] at nc
        exact nc
      rw [List.map_cons] at h
      dsimp only at h
      by_cases hc : (k == NameKind.free && env.scope.kind == .function && env.kindOf n == some .cell) = true
      · rw [if_pos hc] at h
        rw [List.lookup_cons] at h ⊢
        cases q : x == n with
        | true =>
          have : k = .free := by
            rw [Bool.and_eq_true, Bool.and_eq_true] at hc
            simpa using hc.1.1
          rw [this]
        | false =>
          rw [q] at h
          exact ih nc'.2 h
      · rw [if_neg hc] at h
        rw [List.lookup_cons] at h ⊢
        cases q : x == n with
        | true =>
          rw [q] at h
          have nk : k ≠ .cell := by simpa using nc'.1
          rcases h with h | h
          · exact absurd (Option.some.inj h) nk
          · exact h
        | false =>
          rw [q] at h
          exact ih nc'.2 h
  exact key scope.names nc h
theorem Ej {X : Cx} {tg elt iter : Expr} {ifs : List Expr} {scope : Scope} {cl : List (Str × Addr)} {pos : Pos} {wi : TI} {g : TG} {tt : Option TT} {te : TE} {ts fs : List Str} {js : List Nat} (hcalm : X.calm = true)
    (hclos : closureFor scope X.env = pure cl) (hk : scope.kind = .function) (nc : iK scope.names = true) (lo : kT scope.names = true) (fh : kP cl scope.names = true) (ag : fG X cl) (fr : iP X scope cl fs js)
    (hi : PI X tg iter wi) (hg : ∀ C s₀ H₀ ex pins, PG (vi X scope cl (ts ++ fs) C s₀ H₀ ex pins) tg g)
    (ht : ∀ C s₀ H₀ ex pins, match ifs, tt with | [], none => True | [c], some t => PT (vi X scope cl (ts ++ fs) C s₀ H₀ ex pins) c t | _, _ => False)
    (he : ∀ C s₀ H₀ ex pins, PE (vi X scope cl (ts ++ fs) C s₀ H₀ ex pins) elt te)
    (hs : ∀ x, foldedSetIterable iter X.env x = pure x := by intro _; rfl) :
    PE X (.ListComp elt [⟨tg, iter, ifs, 0⟩] scope pos) (AG wi g tt te ts js) := by
  intro pins s σ H Q I h
  rw [eval_ListComp]
  have hcell : ∀ y ∈ scope.names, y.2 ≠ .cell := fun y hy => by
    have := List.all_eq_true.mp nc y hy
    simpa using this
  have hnames : ∀ y ∈ scope.names, y.2 = .local -> scope.names.lookup y.1 = some .local := fun y hy hl => by
    have := List.all_eq_true.mp lo y hy
    rw [hl] at this
    simpa using this
  refine wpAny_comprehension_free (use := none) rfl hs hclos hk hnames (bJ (hi pins s σ H _ I h) fun v s1 h1 => bJ h1 fun itv s2 h2 => ?_)
  obtain ⟨it, fp, tn, J, H1, e, I2, T, st2, f2, hJ⟩ := h2
  subst e
  refine wpAny_newObj_type (wpAny_newFunctionEnv hcell (by intro y hy; simp at hy) (fun h₁ hns₁ hsb₁ => ?_) hk)
  dsimp only at hns₁ hsb₁ ⊢
  generalize hH2 : s2.heap.push { cls := .type "list", dict := none, data := .seq ([] : List Value).toArray } = G at hns₁ hsb₁ ⊢
  have hC : G.objs.size = s2.heap.objs.size + 1 := by rw [← hH2, Heap.size_push]
  have old : ∀ b o, s2.heap.get? b = some o -> h₁.get? b = some o := fun b o e => by
    have hb := Heap.lt_size e
    refine hsb₁.extBut b o (Nat.ne_of_lt (Nat.lt_of_lt_of_le hb (Nat.le_of_lt (by rw [hC]; exact Nat.lt_succ_self _)))) (Heap.get?_push_of_some _ ?_)
    rw [← hH2]
    exact Heap.get?_push_of_some _ e
  have hacc : h₁.get? s2.heap.objs.size = some { cls := .type "list", dict := none, data := .seq #[] } := by
    refine hsb₁.extBut _ _ (Nat.ne_of_lt (by rw [hC]; exact Nat.lt_succ_self _)) (Heap.get?_push_of_some _ ?_)
    rw [← hH2]
    exact Heap.get?_push_size _ rfl
  have nD : H1 s2.heap.objs.size = none := I2.a_.fresh (Nat.le_refl _)
  have nC : H1 G.objs.size = none := I2.a_.fresh (by omega)
  obtain ⟨W, ⟨m0, w0⟩, turn⟩ := hJ _ nD
  have hfpS : ∀ b ∈ fp, b < s2.heap.objs.size := fun b hb => by
    obtain ⟨o, e, _⟩ := T.obj _ _ st2 b hb
    exact Heap.lt_size e
  have ltk : ∀ (x : Str) (c : Addr), cl.lookup x = some c -> c < s2.heap.objs.size /\ H1 c = none /\ (∃ v, s2.heap.IsCell c v) := fun x c e => by
    have e' := ag.at x c e
    obtain ⟨v, q⟩ := I2.cell x c e'
    exact ⟨q.lt, I2.fx x c e', v, q⟩
  let X' := vi X scope cl (ts ++ fs) G.objs.size s2 H1 fp pins
  have okX : X'.Ok := by
    refine ⟨I2.ok.mod, hk, I2.ok.glob, I2.ok.blt, by show s2.heap.objs.size <= G.objs.size; omega, fun x y c e1 e2 => I2.ok.inj x y c (ag.at x c e1) (ag.at y c e2), fun x hx => ?_, fun x c hf _ => (nomatch (show (false : Bool) = true from hf)), I2.ok.hd, I2.ok.frames, .inl rfl, fun b hb => ⟨?_, fun x c e z => ?_⟩, fun b o e => I2.bs b o e, Nat.le_trans I2.ok.Ao I2.sz, fun b o e hb => ?_, fun b hb hz => ?_, I2.stack, fun b hb => I2.o_ b hb⟩
    · have hfree := jJ (env := X.env) hx nc
      have hm : ∃ y ∈ scope.names, y.1 = x /\ y.2 = .free := by
        have : ∀ (l : List (Str × NameKind)), l.lookup x = some .free -> ∃ y ∈ l, y.1 = x /\ y.2 = .free := by
          intro l
          induction l with
          | nil => intro h; simp at h
          | cons p r ih =>
            intro h
            rw [List.lookup_cons] at h
            cases q : x == p.1 with
            | true =>
              rw [q] at h
              exact ⟨p, List.mem_cons_self, (by simpa using q : x = p.1).symm, Option.some.inj h⟩
            | false =>
              rw [q] at h
              obtain ⟨y, hy, r1, r2⟩ := ih h
              exact ⟨y, List.mem_cons_of_mem _ hy, r1, r2⟩
        exact this _ hfree
      obtain ⟨y, hy, r1, r2⟩ := hm
      have := List.all_eq_true.mp fh y hy
      rw [r2] at this
      have h' : (cl.lookup y.1).isSome = true := by simpa using this
      rw [r1] at h'
      exact Option.isSome_iff_exists.mp h'
    · exact Nat.ne_of_lt (Nat.lt_of_lt_of_le (hfpS b hb) (by show s2.heap.objs.size <= G.objs.size; omega))
    · exact (f2 b hb).2.2.2.2.1 x c (ag.at x c e) z
    · obtain ⟨_, _, _, f3, _, _⟩ := f2 b hb
      rcases f3 with z | z
      · exact I2.ok.rG b o e z
      · exact absurd (Nat.lt_of_lt_of_le (Heap.lt_size (I2.ok.bs b o e).1) z) (Nat.lt_irrefl _)
    · rcases List.mem_cons.mp (I2.nM b hz) with z | z
      · exact (f2 b hb).2.1 z
      · exact (f2 b hb).2.2.1 z
  have keepB : ∀ b o, s2.heap.get? b = some o -> h₁.get? b = some o := old
  have I3 : Inv X' [] (dj ts js σ) (upd H1 s2.heap.objs.size (.lst [])) { s2 with heap := h₁, toks := s2.toks + ([] : List (Str × Value)).length } := by
    have neD : ∀ b o, s2.heap.get? b = some o -> b ≠ s2.heap.objs.size := fun b o e => Nat.ne_of_lt (Heap.lt_size e)
    refine ⟨okX, rfl, I2.bare, ⟨fun b o e n hb hx => old b o e, fun b o e n hb hx => ⟨o.slots, old b o e⟩, fun b o e n hx => by rw [ar (neD b o e)]; exact n, fun b o e hx => ⟨o, old b o e⟩, fun b xs e => ?_, fun b o u e => ?_, fun b ps e => ?_⟩, ⟨_, hns₁, fun i x v e1 e2 e3 => ?_⟩, fun x c e => ?_, ?_, fun x c e => ?_, fun p hp => ?_, ?_, ?_⟩
    · rw [ar (aS e nD)]; exact e
    · rw [ar (aS e nD)]; exact e
    · exact ⟨#[], by rw [ar (aS e nD)]; exact Eq.trans e (by simp)⟩
    ·
      have hlen : (ts.map (fun _ => (none : Option V))).length = ts.length := List.length_map _
      unfold dj at e2
      by_cases hlt : i < ts.length
      · rw [List.getElem?_append_left (by rw [hlen]; exact hlt), List.getElem?_map] at e2
        cases q : ts[i]? <;> rw [q] at e2 <;> cases e2
      · rw [List.getElem?_append_right (by rw [hlen]; omega), hlen] at e2
        have e1' : fs[i - ts.length]? = some x := by
          have e1' : (ts ++ fs)[i]? = some x := e1
          rw [List.getElem?_append_right (by omega)] at e1'
          exact e1'
        have all : ∀ {fs : List Str} {js : List Nat}, iP X scope cl fs js -> ∀ k : Nat, fs[k]? = some x -> (js.map fun j => (σ[j]?).join)[k]? = some (some v) ->
            ∃ (j : Nat) (c : Addr), X.N[j]? = some x /\ σ[j]? = some (some v) /\ (X.env.kindOf x = some .cell \/ X.env.kindOf x = some .free) /\ X.env.cells.lookup x = some c /\ cl.lookup x = some c /\ scope.names.lookup x = some .free := by
          intro fs js r
          induction r with
          | nil => intro k e; simp at e
          | @cons y j c fs js hN hf hv hc hl r ih =>
            intro k e e'
            cases k with
            | zero =>
              have e0 : y = x := by simpa using e
              subst e0
              have e0' : (σ[j]?).join = some v := by simpa using e'
              refine ⟨j, c, hN, ?_, hv, hc, hl, hf⟩
              cases q : σ[j]? with
              | none => rw [q] at e0'; cases e0'
              | some z => rw [q] at e0'; cases z with
                | none => cases e0'
                | some z => have : z = v := by simpa using e0'
                            rw [this]
            | succ k => exact ih k (by simpa using e) (by simpa using e')
        obtain ⟨j, c, q1, q2, q3, q4, q5, q6⟩ := all fr (i - ts.length) e1' e2
        obtain ⟨m, hn, hl⟩ := I2.loc
        have vis : BB X.env.scope x := by
          rcases q3 with z | z
          · exact .inr (.inl z)
          · exact .inr (.inr z)
        obtain ⟨u, ru, lk⟩ := hl j x v q1 q2 vis
        refine ⟨u, ru, .inr ⟨?_, c, q5, ?_⟩⟩
        · rcases e3 with z | z | z
          · exfalso
            have key : ∀ (l : List (Str × NameKind)), (l.map fun (n, k) => if (k == NameKind.free && X.env.scope.kind == .function && X.env.kindOf n == some .cell) then (n, NameKind.cell) else (n, k)).lookup x = some .local -> l.lookup x = some .local := by
              intro l
              induction l with
              | nil => intro h; simp at h
              | cons p r ih =>
                obtain ⟨n, k⟩ := p
                intro h
                rw [List.map_cons] at h
                dsimp only at h
                by_cases hc : (k == NameKind.free && X.env.scope.kind == .function && X.env.kindOf n == some .cell) = true
                · rw [if_pos hc] at h
                  rw [List.lookup_cons] at h ⊢
                  cases q : x == n with
                  | true => rw [q] at h; cases h
                  | false => rw [q] at h; exact ih h
                · rw [if_neg hc] at h
                  rw [List.lookup_cons] at h ⊢
                  cases q : x == n with
                  | true => rw [q] at h; exact h
                  | false => rw [q] at h; exact ih h
            have := key _ z
            rw [q6] at this
            cases this
          · exact .inl z
          · exact .inr z
        · rcases lk with ⟨k, _⟩ | ⟨_, c', e4, z⟩
          · rcases q3 with z | z <;> rw [z] at k <;> cases k
          · rw [q4] at e4
            cases e4
            obtain ⟨o, ho, hd⟩ := z
            exact ⟨o, old c o ho, hd⟩
    · obtain ⟨_, _, v, o, ho, hd⟩ := ltk x c e
      exact ⟨v, o, old c o ho, hd⟩
    · show upd H1 s2.heap.objs.size (.lst []) G.objs.size = none
      rw [ar (Nat.ne_of_gt (by rw [hC]; exact Nat.lt_succ_self _))]; exact nC
    · obtain ⟨q1, q2, _⟩ := ltk x c e
      rw [ar (Nat.ne_of_lt q1)]; exact q2
    · have hp' : p ∈ X.pn ++ pins := by
        have : p ∈ (X.pn ++ pins) ++ [] := hp
        rwa [List.append_nil] at this
      obtain ⟨e, n, ne, nf, d⟩ := I2.pin p hp'
      have hlt := Heap.lt_size e
      refine ⟨old _ _ e, by rw [ar (Nat.ne_of_lt hlt)]; exact n, ?_, fun hz => ?_, d⟩
      · show p.1 ≠ G.objs.size
        exact Nat.ne_of_lt (Nat.lt_trans hlt (by rw [hC]; exact Nat.lt_succ_self _))
      · rcases List.mem_cons.mp (I2.nM _ hz) with z | z
        · exact ne z
        · exact nf z
    · exact I2.a_.laid old (Nat.le_refl _) ⟨Nat.zero_le _, [], 0, .nil, hacc⟩
    · show (dj ts js σ).length = (ts ++ fs).length
      have frl : ∀ {fs : List Str} {js : List Nat}, iP X scope cl fs js -> fs.length = js.length := by
        intro fs js r
        induction r with
        | nil => rfl
        | cons _ _ _ _ _ _ ih => rw [List.length_cons, List.length_cons, ih]
      unfold dj
      rw [List.length_append, List.length_append, List.length_map, List.length_map, frl fr]
  have stat : ∀ {H' : Hp}, (∀ b ∈ fp, H' b = none) -> ∀ b ∈ fp, lQ X' [] H' b := fun {H'} hn b hb => by
    obtain ⟨_, f1, f3, _, f4, f5⟩ := f2 b hb
    refine ⟨hn b hb, okX.FJ b hb |>.1, okX.tF b hb, .inl hb, fun x c e => f4 x c (ag.at x c e), fun p hp => f5 p ?_⟩
    have : p ∈ (X.pn ++ pins) ++ [] := hp
    rwa [List.append_nil] at this
  have fin : ∀ {σ' : St} {H' : Hp} {s' : Shared}, Inv X' [] σ' H' s' -> Q (.ref s2.heap.objs.size) H' ->
      compPost (model X.prog X.w) X.A X.xe none (EP X pins σ Q) (.ref s2.heap.objs.size) G.objs.size (.ok .next) s' := by
    intro σ' H' s' I4 q
    obtain ⟨m, hn, _⟩ := I4.loc
    refine ⟨m, hn, fun h' hs' => ⟨.ref s2.heap.objs.size, H', ?_, rfl, q⟩⟩
    have neC : ∀ b o, s2.heap.get? b = some o -> b ≠ G.objs.size := fun b o e => Nat.ne_of_lt (Nat.lt_trans (Heap.lt_size e) (by rw [hC]; exact Nat.lt_succ_self _))
    have fC : H' G.objs.size = none := I4.free
    refine I2.x_ (s' := { s' with heap := h' }) (ch := fp) I4.os ⟨fun b o e n hb hx => ?_, fun b o e n hb hx => ?_, fun b o e n hx => I4.base.free b o e n hx, fun b o e hx => ?_, I4.base.oJ, I4.base.lh, I4.base.oI⟩ (fun b u e => ?_) I4.bare fun b hb => ?_
    · exact (hs'.2 b (neC b o e)).trans (I4.base.keep b o e n hb hx)
    · obtain ⟨sl, e1⟩ := I4.base.slot b o e n hb hx
      exact ⟨sl, (hs'.2 b (neC b o e)).trans e1⟩
    · obtain ⟨o', e1⟩ := I4.base.there b o e hx
      exact ⟨o', (hs'.2 b (neC b o e)).trans e1⟩
    · refine (I4.a_ b u e).lN (fun c v hc q => (hs'.2 c ?_).trans q) (fun _ q => q) fun _ _ q => q
      rcases hc with z | z
      · rw [z]; exact aS e fC
      · exact aS z fC
    · obtain ⟨_, f1, _, f3, f4, f5⟩ := f2 b hb
      exact ⟨f3, f1, f4, f5⟩
  have loop : ∀ s3 : Shared, s3 = { s2 with heap := h₁, toks := s2.toks + ([] : List (Str × Value)).length } ->
      codeAny (model X.prog X.w) X.A (.compLoop (.ListComp elt [⟨tg, iter, ifs, 0⟩] scope pos) 0 (.ref it) (.ref s2.heap.objs.size) (compEnvC scope cl G.objs.size X.env))
        (compPost (model X.prog X.w) X.A X.xe none (EP X pins σ Q) (.ref s2.heap.objs.size) G.objs.size) s3 := by
    rintro s3 rfl
    refine r6 (fun n s' => ∃ i σ' H', Inv X' [] σ' H' s' /\ tn i s'.heap /\ (∀ b ∈ fp, H' b = none) /\ W i n σ' H') ?_ m0 ⟨0, _, _, I3, T.keep _ _ _ st2 fun b _ o e => old b o e, fun b hb => ?_, w0⟩
    · rintro n s3 ⟨i, σ3, H3, I3, st3, fr3, w3⟩
      rcases turn i n σ3 H3 w3 with ⟨stop, qn⟩ | ⟨go, N, hN, step⟩
      · refine bJ (T.done X' rfl rfl rfl hcalm i [] s3 σ3 H3 _ I3 (stat fr3) st3 stop) fun r s4 ⟨hr, I4⟩ => ?_
        subst hr
        exact fin I4 qn
      · refine bJ (T.item X' rfl rfl rfl hcalm i [] s3 σ3 H3 _ I3 (stat fr3) st3 go) fun r s4 ⟨u, hr, h4⟩ => ?_
        subst hr
        refine bJ h4 fun _ s5 ⟨x, H5, I5, r5, y5, st5, fr5⟩ => ?_
        have I5' := I5.pinned (stat fr5) (T.obj _ _ st5)
        refine bJ (hg _ _ _ _ _ _ s5 σ3 H5 x u _ I5' r5 (step x H5 y5)) fun _ s6 ⟨σ6, H6, I6, q6⟩ => ?_
        have again : ∀ {σ7 : St} {H7 : Hp} {s7 : Shared}, Inv X' ([] ++ jY fp s5.heap) σ7 H7 s7 -> N σ7 H7 -> ∃ m, m < n /\ ∃ i σ' H', Inv X' [] σ' H' s7 /\ tn i s7.heap /\ (∀ b ∈ fp, H' b = none) /\ W i m σ' H' := fun {σ7 H7 s7} I7 n7 => by
          obtain ⟨m', hm, w7⟩ := hN σ7 H7 n7
          refine ⟨m', hm, i + 1, σ7, H7, I7.kx, T.keep _ _ _ st5 fun b hb o e => (I7.pin (b, o) (List.mem_append_right _ (List.mem_append_right _ (eX hb e)))).1, fun b hb => ?_, w7⟩
          obtain ⟨o, e, d⟩ := T.obj _ _ st5 b hb
          exact (I7.pin (b, o) (List.mem_append_right _ (List.mem_append_right _ (eX hb e)))).2.1
        have tail : ∀ {H7 : Hp} {s7 : Shared}, Inv X' ([] ++ jY fp s5.heap) σ6 H7 s7 -> (te σ6 H7 fun y H4 => ∃ ys, H4 s2.heap.objs.size = some (.lst ys) /\ ys.length < sizeLine /\ N σ6 (upd H4 s2.heap.objs.size (.lst (ys ++ [y])))) ->
            wpAny (model X.prog X.w) X.A (eval elt (compEnvC scope cl G.objs.size X.env)) (fun x s₅ => wpAny (model X.prog X.w) X.A (call (.builtin "list.append") [.ref s2.heap.objs.size, x])
              (fun _ s₆ => ∃ m, m < n /\ ∃ i σ' H', Inv X' [] σ' H' s₆ /\ tn i s₆.heap /\ (∀ b ∈ fp, H' b = none) /\ W i m σ' H') (fun _ _ => False) s₅) (fun _ _ => False) s7 := by
          intro H7 s7 I7 q7
          refine bJ (he _ _ _ _ _ _ s7 σ6 H7 _ I7 q7) fun uy s8 ⟨y, H8, I8, ry, ys, hy, hl, q8⟩ => ?_
          refine bJ (nI (X := X') _ s8 σ6 H8 (.ref s2.heap.objs.size) [y] (.ref s2.heap.objs.size) [uy] (fun _ H9 => N σ6 H9) I8 rfl (.cons ry .nil) ⟨_, ys, y, rfl, rfl, hy, hl, q8⟩) fun _ s9 ⟨_, H9, I9, _, q9⟩ => ?_
          exact again I9 q9
        cases ifs with
        | nil =>
          cases tt with
          | none => exact wpAny_tests_nil (tail I6 q6)
          | some t => exact (ht 0 s2 H1 [] []).elim
        | cons c r =>
          cases r with
          | nil =>
            cases tt with
            | none => exact (ht 0 s2 H1 [] []).elim
            | some t =>
              refine wpAny_tests_one (bJ (ht G.objs.size s2 H1 fp pins _ s6 σ6 H6 _ I6 q6) fun b s7 ⟨H7, I7, q7⟩ => ?_)
              cases b with
              | true =>
                rw [if_pos rfl] at q7 ⊢
                exact tail I7 q7
              | false =>
                rw [if_neg Bool.false_ne_true] at q7 ⊢
                exact again I7 q7
          | cons _ _ => cases tt <;> exact (ht 0 s2 H1 [] []).elim
    · rw [ar (Nat.ne_of_lt (hfpS b hb))]
      exact (f2 b hb).1
  exact codeAny_compStart_list (loop _ rfl) (T.self _ 0 _ _ _ (T.keep _ _ _ st2 fun b _ o e => old b o e) (loop _ rfl))
def xH (wi:TI) (g:TG) (te:TE) (ts:List Str) (js:List Nat):TE:=fun σ H Q=>wi σ H fun J H1=>∀ D,H1 D=none ->
 ∃ W:Nat->Nat->St->Hp->Prop,(∃ m,W 0 m (dj ts js σ) (upd H1 D (.lst [])))/\∀ i m σ' H',W i m σ' H' ->
  (J.stop i H'/\Q (.ref D) H')\/(J.go i H'/\∃ N:St->Hp->Prop,(∀ σ'' H'',N σ'' H''->∃ m',m'<m/\W (i+1) m' σ'' H'') ∧
   ∀ x H2,J.wy i H' x H2->g x σ' H2 fun σ2 H3=>te σ2 H3 fun y H4=>∃ ys,H4 D=some (.lst ys)/\ys.length<sizeLine/\N σ2 (upd H4 D (.lst (ys++[y]))))
theorem BE {X:Cx} {tg elt iter:Expr} {scope:Scope} {cl:List (Str×Addr)} {pos:Pos} {wi:TI} {g:TG} {te:TE} {ts fs:List Str} {js:List Nat} (hcalm:X.calm=true)
  (hclos:closureFor scope X.env=pure cl) (hk:scope.kind=.function) (nc:iK scope.names=true) (lo:kT scope.names=true) (fh:kP cl scope.names=true) (ag:fG X cl) (fr:iP X scope cl fs js)
  (hi:PI X tg iter wi) (hg:∀ C s₀ H₀ ex pins,PG (vi X scope cl (ts++fs) C s₀ H₀ ex pins) tg g) (he:∀ C s₀ H₀ ex pins,PE (vi X scope cl (ts++fs) C s₀ H₀ ex pins) elt te)
  (hs:∀ x,foldedSetIterable iter X.env x=pure x:=by intro _;rfl):PE X (.ListComp elt [⟨tg,iter,[],0⟩] scope pos) (xH wi g te ts js) :=
 Ej (tt:=none) hcalm hclos hk nc lo fh ag fr hi hg (fun _ _ _ _ _=>trivial) he hs
end L2
namespace L2
open PySem PySem.Spec PyProof.Rows
def fz (h:Heap) (b:Bool) (l:Addr) (xs:Array Value):Prop:=match b with
 | true=>h.IsList l xs
 | false=>h.IsTuple l xs
def dO (h:Heap) (b:Bool) (it l:Addr) (i:Nat):Prop:=match b with
 | true=>h.IsListIter it l i
 | false=>h.IsTupleIter it l i
theorem fz.at {h h':Heap} {b:Bool} {l:Addr} {xs:Array Value} (x:fz h b l xs) (k:∀ o,h.get? l=some o->h'.get? l=some o):fz h' b l xs:=by
 cases b with
 | true=>obtain ⟨o,ho,r⟩:=(show h.IsList l xs from x);exact (show h'.IsList l xs from ⟨o,k o ho,r⟩)
 | false=>obtain ⟨o,ho,r⟩:=(show h.IsTuple l xs from x);exact (show h'.IsTuple l xs from ⟨o,k o ho,r⟩)
theorem dO.at {h h':Heap} {b:Bool} {it l:Addr} {i:Nat} (x:dO h b it l i) (k:∀ o,h.get? it=some o->h'.get? it=some o):dO h' b it l i:=by
 cases b with
 | true=>obtain ⟨o,ho,r⟩:=(show h.IsListIter it l i from x);exact (show h'.IsListIter it l i from ⟨o,k o ho,r⟩)
 | false=>obtain ⟨o,ho,r⟩:=(show h.IsTupleIter it l i from x);exact (show h'.IsTupleIter it l i from ⟨o,k o ho,r⟩)
theorem dO.obj {h:Heap} {b:Bool} {it l:Addr} {i:Nat} (x:dO h b it l i):∃ o vs,h.get? it=some o/\o.data=.fields vs:=by
 cases b with
 | true=>obtain ⟨o,ho,_,hd⟩:=(show h.IsListIter it l i from x);exact ⟨o,_,ho,hd⟩
 | false=>obtain ⟨o,ho,_,hd⟩:=(show h.IsTupleIter it l i from x);exact ⟨o,_,ho,hd⟩
theorem fz.obj {h:Heap} {b:Bool} {l:Addr} {xs:Array Value} (x:fz h b l xs):∃ o n,h.get? l=some o/\o.data=.seq xs n:=by
 cases b with
 | true=>obtain ⟨o,ho,_,n,hd⟩:=(show h.IsList l xs from x);exact ⟨o,n,ho,hd⟩
 | false=>obtain ⟨o,ho,_,n,hd⟩:=(show h.IsTuple l xs from x);exact ⟨o,n,ho,hd⟩
section
variable {prog:Program} {w:World} {A:Around} {E:Value->Shared->Prop} {s:Shared}
theorem gZ {it t:Addr} {i:Nat} {items:Array Value} {x:Value} {Q:Value->Shared->Prop} (hit:s.heap.IsTupleIter it t i)
  (ht:s.heap.IsTuple t items) (hx:items[i]?=some x)
  (hQ:∀ h',h'.IsTupleIter it t (i+1)->Heap.SameBut it s.heap h'->Q x { s with heap:=h' }) :
  wpAny (model prog w) A (Builtin.SmallTypes.nextOf (.ref it)) Q E s:=by
 obtain ⟨o,ho,hc,hd⟩:=id hit
 obtain ⟨ol,hol,_,nl,hdl⟩:=ht
 unfold Builtin.SmallTypes.nextOf
 refine wpAny_bind (wpAny_callSpecial?_slot (name:=Str.ofString "__next__") hit.typeIs F.slot_tuple_iterator_next
  (wpAny_call_entry F.slot_tuple_iterator_next hit.typeIs F.entry_tuple_iterator_next ?_ (F.args_tuple_iterator_next_1 _)))
 show wpAny _ _ (field (.ref it) 0 >>= _) _ _ s
 refine wpAny_bind (wpAny_field ho hd (x:=.ref t) rfl ?_)
 show wpAny _ _ (if (Value.ref t==Value.none)=true then _ else _) _ _ s
 rw [if_neg (show ¬ ((Value.ref t==Value.none)=true) from Bool.false_ne_true)]
 show wpAny _ _ (field (.ref it) 1 >>= _) _ _ s
 refine wpAny_bind (wpAny_field ho hd (x:=.int i 0) rfl ?_)
 show wpAny _ _ (seqItems? (.ref t) >>= _) _ _ s
 refine wpAny_bind (wpAny_seqItems hol hdl ?_)
 simp only [Int.toNat_natCast,hx]
 refine wpAny_bind (wpAny_setField ho hd (by simp) (wpAny_pure ⟨x,rfl,wpAny_pure (hQ _ ?_ (Heap.SameBut.update ..))⟩))
 exact ⟨_,Heap.get?_update_self _ ho (Obj.isFreed_of_fields (Obj.data_mapFields hd _)),(Obj.cls_mapFields ..).trans hc,by
  rw [Obj.data_mapFields hd];simp [rawInt]⟩
theorem eQ {it t:Addr} {i:Nat} {items:Array Value} {Q:Value->Shared->Prop} (hh:A.handled=none)
  (hit:s.heap.IsTupleIter it t i) (ht:s.heap.IsTuple t items) (hx:items[i]?=none)
  (hE:∀ h' e,Heap.ExtBut it s.heap h'->(∃ o,h'.get? e=some o/\o.cls=.type "StopIteration")->E (.ref e) { s with heap:=h' }) :
  wpAny (model prog w) A (Builtin.SmallTypes.nextOf (.ref it)) Q E s:=by
 obtain ⟨o,ho,hc,hd⟩:=id hit
 obtain ⟨ol,hol,_,nl,hdl⟩:=ht
 unfold Builtin.SmallTypes.nextOf
 refine wpAny_bind (wpAny_callSpecial?_slot (name:=Str.ofString "__next__") hit.typeIs F.slot_tuple_iterator_next
  (wpAny_call_entry F.slot_tuple_iterator_next hit.typeIs F.entry_tuple_iterator_next ?_ (F.args_tuple_iterator_next_1 _)))
 show wpAny _ _ (field (.ref it) 0 >>= _) _ _ s
 refine wpAny_bind (wpAny_field ho hd (x:=.ref t) rfl ?_)
 show wpAny _ _ (if (Value.ref t==Value.none)=true then _ else _) _ _ s
 rw [if_neg (show ¬ ((Value.ref t==Value.none)=true) from Bool.false_ne_true)]
 show wpAny _ _ (field (.ref it) 1 >>= _) _ _ s
 refine wpAny_bind (wpAny_field ho hd (x:=.int i 0) rfl ?_)
 show wpAny _ _ (seqItems? (.ref t) >>= _) _ _ s
 refine wpAny_bind (wpAny_seqItems hol hdl ?_)
 simp only [Int.toNat_natCast,hx]
 refine wpAny_bind (wpAny_rule (wpAny_bind (wpAny_setField ho hd (by simp) ?_)))
 show wpAny _ _ (newExc (.type "StopIteration") [] >>= _) _ _ _
 refine wpAny_bind ?_
 simp only [newExc,newTuple]
 refine wpAny_bind (wpAny_newObj_type ?_ (by size_fits))
 refine wpAny_bind (m:=firstArgMember _ _) (wpAny_of_eq (a:=Value.none) (by first | rfl | (simp only [firstArgMember];rfl)) ?_)
 refine wpAny_newObj_type ?_ (by size_fits)
 simp only [raiseNew]
 refine wpAny_bind (wpAny_handled ?_)
 first | rw [show A.in1.handled=none from hh] | rw [hh]
 refine wpAny_bind (wpAny_pure (wpAny_throw ?_))
 exact hE _ _ (((Heap.SameBut.update ..).extBut.push _).push _) ⟨_,Heap.get?_push_size _ rfl,rfl⟩
theorem cG {b:Bool} {it l:Addr} {i:Nat} {items:Array Value} {x:Value} {Q:Value->Shared->Prop} (hit:dO s.heap b it l i) (hl:fz s.heap b l items) (hx:items[i]?=some x)
  (hQ:∀ h',dO h' b it l (i+1)->Heap.SameBut it s.heap h'->Q x { s with heap:=h' }):wpAny (model prog w) A (Builtin.SmallTypes.nextOf (.ref it)) Q E s:=by
 cases b with
 | true=>exact wpAny_nextOf_list_item hit hl hx hQ
 | false=>exact gZ hit hl hx hQ
theorem gJ {b:Bool} {it l:Addr} {i:Nat} {items:Array Value} {Q:Value->Shared->Prop} (hh:A.handled=none) (hit:dO s.heap b it l i) (hl:fz s.heap b l items) (hx:items[i]?=none)
  (hE:∀ h' e,Heap.ExtBut it s.heap h'->(∃ o,h'.get? e=some o/\o.cls=.type "StopIteration")->E (.ref e) { s with heap:=h' }):wpAny (model prog w) A (Builtin.SmallTypes.nextOf (.ref it)) Q E s:=by
 cases b with
 | true=>exact wpAny_nextOf_list_end hh hit hl hx hE
 | false=>exact eQ hh hit hl hx hE
theorem zw {b1 b2:Bool} {z TI TO i1 i2 l1 l2:Addr} {k1 k2:Nat} {xs ys:Array Value} {x y a b:Value} {Q:Value->Shared->Prop} (D:ZipApart z TI TO i1 i2 l1 l2)
  (hz:IsZip s.heap z TI TO .none) (hTI:IsPair s.heap TI (.ref i1) (.ref i2)) (hTO:IsPair s.heap TO a b)
  (h1:dO s.heap b1 i1 l1 k1) (h2:dO s.heap b2 i2 l2 k2) (hl1:fz s.heap b1 l1 xs) (hl2:fz s.heap b2 l2 ys) (hx:xs[k1]?=some x) (hy:ys[k2]?=some y)
  (hQ:∀ h',IsZip h' z TI TO (rawInt s.heap.objs.size)->IsPair h' TO x y->dO h' b1 i1 l1 (k1+1)->dO h' b2 i2 l2 (k2+1)->IsPair h' s.heap.objs.size x y->h'.objs.size=s.heap.objs.size+1 ->
   (∀ c o,c≠z->c≠TO->c≠i1->c≠i2->s.heap.get? c=some o->h'.get? c=some o)->Q (.ref s.heap.objs.size) { s with heap:=h' }) :
  wpAny (model prog w) A (Builtin.«zip.__next__» ⟨[.ref z],[]⟩) (fun fin s'=>∃ v,fin=.done (.ret v)/\Q v s') E s:=by
 show wpAny _ _ (field (.ref z) 2 >>= _) _ _ _
 refine wpAny_bind (wpAny_field hz rfl (x:=.bool false) rfl ?_)
 show wpAny _ _ (field (.ref z) 3 >>= _) _ _ _
 refine wpAny_bind (wpAny_field hz rfl (x:=.ref TI) rfl ?_)
 refine wpAny_bind (wpAny_seqItems hTI rfl ?_)
 show wpAny _ _ (Builtin.SmallTypes.ownedTupleIsFree (.ref z) >>= _) _ _ _
 refine wpAny_bind ?_
 unfold Builtin.SmallTypes.ownedTupleIsFree
 refine wpAny_bind (wpAny_field hz rfl (x:=.none) rfl (wpAny_pure ?_))
 simp only [if_true]
 refine wpAny_bind (wpAny_rule ?_)
 refine wpAny_bind (wpAny_field hz rfl (x:=.ref TO) rfl ?_)
 refine wpAny_bind (wpAny_setField_rec hz (by simp) fun h₁ hz₁ hs₁=>?_)
 replace hz₁:IsZip h₁ z TI TO .ellipsis:=hz₁
 refine wpAny_bind ?_
 simp only [List.zipIdx_cons,List.zipIdx_nil,List.forIn_cons,List.forIn_nil]
 refine wpAny_bind (wpAny_bind (wpAny_onRaise ?_))
 show wpAny _ _ (Builtin.SmallTypes.nextOf (.ref i1) >>= _) _ _ _
 refine wpAny_bind (cG (h1.at fun o e=>hs₁.extBut _ _ D.i1z e) (hl1.at fun o e=>hs₁.extBut _ _ D.l1z e) hx fun h₂ h1₂ hs₂=>wpAny_pure ?_)
 have hTO₂:IsPair h₂ TO a b:=hs₂.extBut _ _ D.TOi1 (hs₁.extBut _ _ D.TOz hTO)
 refine wpAny_bind (wpAny_seqItems hTO₂ rfl ?_)
 refine wpAny_bind (wpAny_updateSeq_pair hTO₂ fun h₃ hTO₃ hs₃=>?_)
 replace hTO₃:IsPair h₃ TO x b:=hTO₃
 refine wpAny_bind (wpAny_letGo (wpAny_pure ?_))
 refine wpAny_bind (wpAny_bind (wpAny_onRaise ?_))
 show wpAny _ _ (Builtin.SmallTypes.nextOf (.ref i2) >>= _) _ _ _
 refine wpAny_bind (cG (h2.at fun o e=>hs₃.extBut _ _ D.TOi2.symm (hs₂.extBut _ _ D.i12.symm (hs₁.extBut _ _ D.i2z e)))
  (hl2.at fun o e=>hs₃.extBut _ _ D.l2TO (hs₂.extBut _ _ D.l2i1 (hs₁.extBut _ _ D.l2z e))) hy fun h₄ h2₄ hs₄=>wpAny_pure ?_)
 have hTO₄:IsPair h₄ TO x b:=hs₄.extBut _ _ D.TOi2 hTO₃
 refine wpAny_bind (wpAny_seqItems hTO₄ rfl ?_)
 refine wpAny_bind (wpAny_updateSeq_pair hTO₄ fun h₅ hTO₅ hs₅=>?_)
 replace hTO₅:IsPair h₅ TO x y:=hTO₅
 refine wpAny_bind (wpAny_letGo (wpAny_pure (wpAny_pure ?_)))
 refine wpAny_bind (wpAny_seqItems hTO₅ rfl ?_)
 refine wpAny_bind (wpAny_newTuple ?_)
 have hsz:h₅.objs.size=s.heap.objs.size:=by rw [hs₅.1,hs₄.1,hs₃.1,hs₂.1,hs₁.1]
 have hz₅:IsZip h₅ z TI TO .ellipsis:=hs₅.extBut _ _ D.TOz.symm (hs₄.extBut _ _ D.i2z.symm (hs₃.extBut _ _ D.TOz.symm (hs₂.extBut _ _ D.i1z.symm hz₁)))
 have hk₅:∀ c o,c≠z->c≠TO->c≠i1->c≠i2->s.heap.get? c=some o->h₅.get? c=some o:=fun c o c1 c2 c3 c4 e =>
  hs₅.extBut _ _ c2 (hs₄.extBut _ _ c4 (hs₃.extBut _ _ c2 (hs₂.extBut _ _ c3 (hs₁.extBut _ _ c1 e))))
 have h1₅:dO h₅ b1 i1 l1 (k1+1):=h1₂.at fun o e=>hs₅.extBut _ _ D.TOi1.symm (hs₄.extBut _ _ D.i12 (hs₃.extBut _ _ D.TOi1.symm e))
 have h2₅:dO h₅ b2 i2 l2 (k2+1):=h2₄.at fun o e=>hs₅.extBut _ _ D.TOi2.symm e
 have hzlt:z<h₅.objs.size:=Heap.lt_size hz₅
 show wpAny _ _ (Builtin.SmallTypes.ownedTupleHandOut (.ref z) (.ref h₅.objs.size) >>= _) _ _ _
 refine wpAny_bind ?_
 unfold Builtin.SmallTypes.ownedTupleHandOut
 have hz₆:IsZip (h₅.push { cls:=.type "tuple", data:=.seq #[x,y] }) z TI TO .ellipsis:=Heap.get?_push_of_some _ hz₅
 refine wpAny_bind (wpAny_setField_rec hz₆ (by simp) fun h₇ hz₇ hs₇=>?_)
 replace hz₇:IsZip h₇ z TI TO (rawInt h₅.objs.size):=hz₇
 refine wpAny_setField_rec hz₇ (by simp) fun h₈ hz₈ hs₈=>?_
 replace hz₈:IsZip h₈ z TI TO (rawInt h₅.objs.size):=hz₈
 have up:∀ c o,c≠z->h₅.get? c=some o->h₈.get? c=some o:=fun c o c1 e=>hs₈.extBut _ _ c1 (hs₇.extBut _ _ c1 (Heap.get?_push_of_some _ e))
 have hT₈:IsPair h₈ h₅.objs.size x y:=hs₈.extBut _ _ (Nat.ne_of_gt hzlt) (hs₇.extBut _ _ (Nat.ne_of_gt hzlt) (Heap.get?_push_size _ rfl))
 have hz8:h₈.objs.size=h₅.objs.size+1:=by rw [hs₈.1,hs₇.1,Heap.size_push]
 rw [hsz] at hz₈ hT₈ hz8
 refine wpAny_pure ⟨_,rfl,?_⟩
 show Q (.ref h₅.objs.size) _
 rw [hsz]
 exact hQ h₈ hz₈ (up _ _ D.TOz hTO₅) (h1₅.at fun o e=>up _ o D.i1z e) (h2₅.at fun o e=>up _ o D.i2z e) hT₈ hz8 fun c o c1 c2 c3 c4 e=>up c o c1 (hk₅ c o c1 c2 c3 c4 e)
theorem CI {b1 b2:Bool} {z TI TO i1 i2 l1 l2:Addr} {k1 k2:Nat} {xs ys:Array Value} {a b:Value} {Q:Fin->Shared->Prop} (hh:A.handled=none) (D:ZipApart z TI TO i1 i2 l1 l2)
  (hz:IsZip s.heap z TI TO .none) (hTI:IsPair s.heap TI (.ref i1) (.ref i2)) (hTO:IsPair s.heap TO a b)
  (h1:dO s.heap b1 i1 l1 k1) (h2:dO s.heap b2 i2 l2 k2) (hl1:fz s.heap b1 l1 xs) (hl2:fz s.heap b2 l2 ys) (hend:xs[k1]?=none\/ys[k2]?=none)
  (hE:∀ h' e,(∀ c o,c≠z->c≠TO->c≠i1->c≠i2->s.heap.get? c=some o->h'.get? c=some o)->(∃ o,h'.get? e=some o/\o.cls=.type "StopIteration")->E (.ref e) { s with heap:=h' }) :
  wpAny (model prog w) A (Builtin.«zip.__next__» ⟨[.ref z],[]⟩) Q E s:=by
 show wpAny _ _ (field (.ref z) 2 >>= _) _ _ _
 refine wpAny_bind (wpAny_field hz rfl (x:=.bool false) rfl ?_)
 show wpAny _ _ (field (.ref z) 3 >>= _) _ _ _
 refine wpAny_bind (wpAny_field hz rfl (x:=.ref TI) rfl ?_)
 refine wpAny_bind (wpAny_seqItems hTI rfl ?_)
 show wpAny _ _ (Builtin.SmallTypes.ownedTupleIsFree (.ref z) >>= _) _ _ _
 refine wpAny_bind ?_
 unfold Builtin.SmallTypes.ownedTupleIsFree
 refine wpAny_bind (wpAny_field hz rfl (x:=.none) rfl (wpAny_pure ?_))
 simp only [if_true]
 refine wpAny_bind (wpAny_rule ?_)
 refine wpAny_bind (wpAny_field hz rfl (x:=.ref TO) rfl ?_)
 refine wpAny_bind (wpAny_setField_rec hz (by simp) fun h₁ hz₁ hs₁=>?_)
 replace hz₁:IsZip h₁ z TI TO .ellipsis:=hz₁
 refine wpAny_bind ?_
 simp only [List.zipIdx_cons,List.zipIdx_nil,List.forIn_cons,List.forIn_nil]
 refine wpAny_bind (wpAny_bind (wpAny_onRaise ?_))
 show wpAny _ _ (Builtin.SmallTypes.nextOf (.ref i1) >>= _) _ _ _
 cases hx:xs[k1]? with
 | none =>
  refine wpAny_bind (gJ hh (h1.at fun o e=>hs₁.extBut _ _ D.i1z e) (hl1.at fun o e=>hs₁.extBut _ _ D.l1z e) hx fun h₂ e hs₂ he=>?_)
  obtain ⟨oe,hoe,hce⟩:=he
  have hz₂:IsZip h₂ z TI TO .ellipsis:=hs₂ _ _ D.i1z.symm hz₁
  have hez:e≠z:=fun x=>by subst x;rw [hz₂] at hoe;cases hoe;simp at hce
  refine wpAny_setField_rec hz₂ (by simp) fun h₃ _ hs₃=>hE h₃ e (fun c o c1 _ c3 _ x=>hs₃.extBut _ _ c1 (hs₂ _ _ c3 (hs₁.extBut _ _ c1 x))) ⟨oe,hs₃.extBut _ _ hez hoe,hce⟩
 | some x =>
  have hy:ys[k2]?=none:=by rcases hend with h | h;rw [hx] at h;cases h;exact h
  refine wpAny_bind (cG (h1.at fun o e=>hs₁.extBut _ _ D.i1z e) (hl1.at fun o e=>hs₁.extBut _ _ D.l1z e) hx fun h₂ h1₂ hs₂=>wpAny_pure ?_)
  have hTO₂:IsPair h₂ TO a b:=hs₂.extBut _ _ D.TOi1 (hs₁.extBut _ _ D.TOz hTO)
  refine wpAny_bind (wpAny_seqItems hTO₂ rfl ?_)
  refine wpAny_bind (wpAny_updateSeq_pair hTO₂ fun h₃ hTO₃ hs₃=>?_)
  refine wpAny_bind (wpAny_letGo (wpAny_pure ?_))
  refine wpAny_bind (wpAny_bind (wpAny_onRaise ?_))
  show wpAny _ _ (Builtin.SmallTypes.nextOf (.ref i2) >>= _) _ _ _
  refine wpAny_bind (gJ hh (h2.at fun o e=>hs₃.extBut _ _ D.TOi2.symm (hs₂.extBut _ _ D.i12.symm (hs₁.extBut _ _ D.i2z e)))
   (hl2.at fun o e=>hs₃.extBut _ _ D.l2TO (hs₂.extBut _ _ D.l2i1 (hs₁.extBut _ _ D.l2z e))) hy fun h₄ e hs₄ he=>?_)
  obtain ⟨oe,hoe,hce⟩:=he
  have hz₄:IsZip h₄ z TI TO .ellipsis:=hs₄ _ _ D.i2z.symm (hs₃.extBut _ _ D.TOz.symm (hs₂.extBut _ _ D.i1z.symm hz₁))
  have hez:e≠z:=fun x=>by subst x;rw [hz₄] at hoe;cases hoe;simp at hce
  refine wpAny_setField_rec hz₄ (by simp) fun h₅ _ hs₅=>hE h₅ e (fun c o c1 c2 c3 c4 x=>hs₅.extBut _ _ c1 (hs₄ _ _ c4 (hs₃.extBut _ _ c2 (hs₂.extBut _ _ c3 (hs₁.extBut _ _ c1 x))))) ⟨oe,hs₅.extBut _ _ hez hoe,hce⟩
theorem vF {b:Bool} {l:Addr} {items:Array Value} {Q:Value->Shared->Prop} (hl:fz s.heap b l items)
  (h:∀ o,o=({ cls:=.type (if b then "list_iterator" else "tuple_iterator"),data:=.fields #[.ref l,.int 0 0] }:Obj)->Q (.ref s.heap.objs.size) { s with heap:=s.heap.push o }):wpAny (model prog w) A (pyIter (.ref l)) Q E s:=by
 cases b with
 | true=>exact wpAny_pyIter_list hl (h _ rfl)
 | false=>exact wpAny_pyIter_tuple hl (h _ rfl)
theorem nh {b1 b2:Bool} {z TI TO i1 i2 l1 l2:Addr} {k1 k2:Nat} {xs ys:Array Value} {x y a b:Value} {Q:Option Value->Shared->Prop} (D:ZipApart z TI TO i1 i2 l1 l2)
  (hz:IsZip s.heap z TI TO .none) (hTI:IsPair s.heap TI (.ref i1) (.ref i2)) (hTO:IsPair s.heap TO a b)
  (h1:dO s.heap b1 i1 l1 k1) (h2:dO s.heap b2 i2 l2 k2) (hl1:fz s.heap b1 l1 xs) (hl2:fz s.heap b2 l2 ys) (hx:xs[k1]?=some x) (hy:ys[k2]?=some y)
  (hQ:∀ h',IsZip h' z TI TO (rawInt s.heap.objs.size)->IsPair h' TO x y->dO h' b1 i1 l1 (k1+1)->dO h' b2 i2 l2 (k2+1)->IsPair h' s.heap.objs.size x y->h'.objs.size=s.heap.objs.size+1 ->
   (∀ c o,c≠z->c≠TO->c≠i1->c≠i2->s.heap.get? c=some o->h'.get? c=some o)->Q (some (.ref s.heap.objs.size)) { s with heap:=h' }) :
  wpAny (model prog w) A (pyNext (.ref z)) Q E s:=by
 have hT:s.TypeIs (.ref z) "zip" := ⟨_,hz,rfl⟩
 unfold pyNext
 exact wpAny_bind (wpAny_attempt (wpAny_callSpecial?_slot (name:=Str.ofString "__next__") hT F.slot_zip_next
  (wpAny_call_entry F.slot_zip_next hT F.entry_zip_next
   (zw D hz hTI hTO h1 h2 hl1 hl2 hx hy fun h' a1 a2 a3 a4 a5 a6 a7=>wpAny_pure (hQ h' a1 a2 a3 a4 a5 a6 a7)) (F.args_zip_next_1 _))))
theorem oK {b1 b2:Bool} {z TI TO i1 i2 l1 l2:Addr} {k1 k2:Nat} {xs ys:Array Value} {a b:Value} {Q:Option Value->Shared->Prop} (hh:A.handled=none) (D:ZipApart z TI TO i1 i2 l1 l2)
  (hz:IsZip s.heap z TI TO .none) (hTI:IsPair s.heap TI (.ref i1) (.ref i2)) (hTO:IsPair s.heap TO a b)
  (h1:dO s.heap b1 i1 l1 k1) (h2:dO s.heap b2 i2 l2 k2) (hl1:fz s.heap b1 l1 xs) (hl2:fz s.heap b2 l2 ys) (hend:xs[k1]?=none\/ys[k2]?=none)
  (hQ:∀ h',(∀ c o,c≠z->c≠TO->c≠i1->c≠i2->s.heap.get? c=some o->h'.get? c=some o)->Q none { s with heap:=h' }):wpAny (model prog w) A (pyNext (.ref z)) Q E s:=by
 have hT:s.TypeIs (.ref z) "zip" := ⟨_,hz,rfl⟩
 unfold pyNext
 refine wpAny_bind (wpAny_attempt (wpAny_callSpecial?_slot (name:=Str.ofString "__next__") hT F.slot_zip_next
  (wpAny_call_entry F.slot_zip_next hT F.entry_zip_next (CI hh D hz hTI hTO h1 h2 hl1 hl2 hend fun h' e hk he=>?_) (F.args_zip_next_1 _))))
 obtain ⟨o,ho,hc⟩:=he
 refine wpAny_bind (wpAny_isInstance (T := "StopIteration") (b:=true) ⟨o,ho,hc⟩ isSubtype_stop ?_)
 exact wpAny_pure (hQ _ hk)
abbrev ER (b:Bool) (l:Addr):Obj:={ cls:=.type (if b then "list_iterator" else "tuple_iterator"),data:=.fields #[.ref l,.int 0 0] }
abbrev HB (h:Heap) (b1:Bool) (l1:Addr):Heap:=h.push (ER b1 l1)
abbrev Ff (h:Heap) (b1 b2:Bool) (l1 l2:Addr):Heap:=(HB h b1 l1).push (ER b2 l2)
abbrev Kp (h:Heap) (b1 b2:Bool) (l1 l2:Addr):Heap:=(Ff h b1 b2 l1 l2).push { cls:=.type "tuple", data:=.seq #[.ref h.objs.size,.ref (HB h b1 l1).objs.size] }
abbrev Ke (h:Heap) (b1 b2:Bool) (l1 l2:Addr):Heap:=(Kp h b1 b2 l1 l2).push { cls:=.type "tuple", data:=.seq #[.none,.none] }
abbrev HG (h:Heap) (b1 b2:Bool) (l1 l2:Addr):Heap:=(Ke h b1 b2 l1 l2).push { cls:=.type "zip", data:=.fields #[.none,.bool false,.bool false,.ref (Ff h b1 b2 l1 l2).objs.size,.ref (Kp h b1 b2 l1 l2).objs.size] }
end
theorem fu {prog:Program} {w:World} {A:Around} {E:Value->Shared->Prop} {s:Shared} {b:Bool} {l:Addr} {items:Array Value} {Q:Value->Shared->Prop} (hl:fz s.heap b l items)
  (h:Q (.ref s.heap.objs.size) { s with heap:=s.heap.push (ER b l) }):wpAny (model prog w) A (pyIter (.ref l)) Q E s:=vF hl fun o e=>by subst e;exact h
theorem fz.push {h:Heap} {b:Bool} {l:Addr} {xs:Array Value} (x:fz h b l xs) (o:Obj):fz (h.push o) b l xs:=x.at fun _ e=>Heap.get?_push_of_some _ e
theorem pV (b1 b2:Bool) (l1 l2:Addr) (xs ys:Array Value) :
  Meets (Builtin.«zip.__new__» ⟨[.type "zip", .ref l1,.ref l2],[]⟩) (fun _ R s=>fz s.heap b1 l1 xs/\fz s.heap b2 l2 ys ∧
   R (.ok (.ret (.ref (Ke s.heap b1 b2 l1 l2).objs.size))) { s with heap:=HG s.heap b1 b2 l1 l2 }) :=
 .of_wp fun prog w A R s h=>by
  obtain ⟨hp,g,d,tk,os⟩:=s;obtain ⟨hl1,hl2,h⟩:=h
  have hsub:=sub_zip
  have hL1:fz (Shared.heap ⟨hp,g,d,tk,os⟩) b1 l1 xs:=hl1
  have hL2:fz (Shared.heap ⟨hp.push (ER b1 l1),g,d,tk,os⟩) b2 l2 ys:=fz.push hl2 _
  wp_walk using fu hL1,fu hL2
  exact ⟨_,rfl,h⟩
section
variable {prog:Program} {w:World} {A:Around} {E:Value->Shared->Prop} {s:Shared}
theorem dO.new (h:Heap) (b:Bool) (it l:Addr) (e:h.get? it=some (ER b l)):dO h b it l 0:=by
 cases b with
 | true=>exact ⟨_,e,rfl,rfl⟩
 | false=>exact ⟨_,e,rfl,rfl⟩
theorem zX {b1 b2:Bool} {l1 l2:Addr} {xs ys:Array Value} {Q:Value->Shared->Prop} (hl1:fz s.heap b1 l1 xs) (hl2:fz s.heap b2 l2 ys)
  (h:∀ h',IsZip h' (s.heap.objs.size+4) (s.heap.objs.size+2) (s.heap.objs.size+3) .none->IsPair h' (s.heap.objs.size+2) (.ref s.heap.objs.size) (.ref (s.heap.objs.size+1)) ->
   IsPair h' (s.heap.objs.size+3) .none .none->dO h' b1 s.heap.objs.size l1 0->dO h' b2 (s.heap.objs.size+1) l2 0->h'.objs.size=s.heap.objs.size+5 ->
   (∀ c o,s.heap.get? c=some o->h'.get? c=some o)->Q (.ref (s.heap.objs.size+4)) { s with heap:=h' }) :
  wpAny (model prog w) A (call (.type "zip") [.ref l1,.ref l2]) Q E s:=by
 refine callType_new F.called_zip (by decide) (F.typeCall_zip_2 _ _) (F.newCall_zip_2 _ _) (fun obj=>F.args_object_init_3 obj _ _) F.entry_zip_new
  (pV b1 b2 l1 l2 xs ys) ⟨hl1,hl2,?_⟩
 have z1:(HB s.heap b1 l1).objs.size=s.heap.objs.size+1:=Heap.size_push ..
 have z2:(Ff s.heap b1 b2 l1 l2).objs.size=s.heap.objs.size+2:=by rw [Heap.size_push,z1]
 have z3:(Kp s.heap b1 b2 l1 l2).objs.size=s.heap.objs.size+3:=by rw [Heap.size_push,z2]
 have z4:(Ke s.heap b1 b2 l1 l2).objs.size=s.heap.objs.size+4:=by rw [Heap.size_push,z3]
 have z5:(HG s.heap b1 b2 l1 l2).objs.size=s.heap.objs.size+5:=by rw [Heap.size_push,z4]
 have g5:(HG s.heap b1 b2 l1 l2).get? (Ke s.heap b1 b2 l1 l2).objs.size=some _:=Heap.get?_push_size _ rfl
 have g4:(HG s.heap b1 b2 l1 l2).get? (Kp s.heap b1 b2 l1 l2).objs.size=some _:=Heap.get?_push_of_some _ (Heap.get?_push_size _ rfl)
 have g3:(HG s.heap b1 b2 l1 l2).get? (Ff s.heap b1 b2 l1 l2).objs.size=some _:=Heap.get?_push_of_some _ (Heap.get?_push_of_some _ (Heap.get?_push_size _ rfl))
 have g2:(HG s.heap b1 b2 l1 l2).get? (HB s.heap b1 l1).objs.size=some _:=Heap.get?_push_of_some _ (Heap.get?_push_of_some _ (Heap.get?_push_of_some _ (Heap.get?_push_size _ rfl)))
 have g1:(HG s.heap b1 b2 l1 l2).get? s.heap.objs.size=some _:=Heap.get?_push_of_some _ (Heap.get?_push_of_some _ (Heap.get?_push_of_some _ (Heap.get?_push_of_some _ (Heap.get?_push_size _ rfl))))
 show _/\_
 rw [z2,z3,z4] at g5
 rw [z1,z2] at g3
 rw [z3] at g4
 rw [z1] at g2
 rw [z4]
 exact ⟨⟨_,g5,rfl⟩,h _ g5 g3 g4 (dO.new _ b1 _ _ g1) (dO.new _ b2 _ _ g2) z5 fun c o x =>
  Heap.get?_push_of_some _ (Heap.get?_push_of_some _ (Heap.get?_push_of_some _ (Heap.get?_push_of_some _ (Heap.get?_push_of_some _ x))))⟩
end
def k9 (K:PySem.W.Frag) (H:Hp) (b:Bool) (a:Addr) (xs:List V):Prop:=match b with
 | true=>i4 K H a xs
 | false=>gT K H a xs
section
variable {X:Cx}
theorem Inv.row {pins:List (Addr×Obj)} {σ:St} {H:Hp} {s:Shared} {b:Bool} {a:Addr} {xs:List V} (I:Inv X pins σ H s) (h:k9 X.K H b a xs):∃ its:List Value,Vals xs its/\fz s.heap b a its.toArray/\xs.length<=sizeLine:=by
 cases b with
 | true =>
  obtain ⟨its,r,p,z⟩:=I.list h
  exact ⟨its,r,p.isList,z⟩
 | false =>
  obtain ⟨its,r,p,z⟩:=I.tuple h
  exact ⟨its,r,p,z⟩
theorem Inv.mw {pins:List (Addr×Obj)} {σ:St} {H:Hp} {s:Shared} {b:Bool} {a:Addr} {xs ys:List V} (I:Inv X pins σ H s) (h:k9 X.K H b a xs) (h':k9 X.K H b a ys):xs=ys:=by
 cases b with
 | true=>exact I.ql h h'
 | false=>exact I.nA h h'
theorem Inv.yv {pins:List (Addr×Obj)} {σ:St} {H:Hp} {s:Shared} {h':Heap} {t':Nat} {ch:List Addr} (I:Inv X pins σ H s) (k:∀ b u,b ∉ ch->s.heap.get? b=some u->h'.get? b=some u)
  (hch:∀ b∈ch,lQ X pins H b):Inv X pins σ H { s with heap:=h',toks:=t' }:=by
 have nitH:∀ b u,H b=some u->b ∉ ch:=fun b u e z=>by rw [(hch b z).1] at e;cases e
 refine I.step (g':=s.gens) (d':=s.drawn) (ch:=ch) (fun b hb=>?_) (fun b u _ _ hc e _=>k b u hc e) (fun b u _ _ hc e _=>⟨u.slots,k b u hc e⟩)
  (fun b u _ e n=>n) (fun b u hc e=>⟨u,k b u hc e⟩) (fun b xs e=>e) (fun b ob u e=>e) (fun b ps e=>⟨#[],by rw [e];simp⟩) (fun m hm=>?_) (fun b u e=>?_) I.bare
 ·obtain ⟨_,f1,_,f3,f4,f5⟩:=hch b hb
  exact ⟨f3,f1,f4,f5⟩
 ·obtain ⟨ob,es,ep,ho,r⟩:=hm
  exact ⟨ob,es,ep,k _ ob (fun z=>(hch _ z).2.1 rfl) ho,r⟩
 ·refine (I.a_ b u e).lN (fun c v hc q=>k c v ?_ q) (fun c q=>q) fun c ys q=>q
  rcases hc with z' | z'
  ·rw [z'];exact nitH b u e
  ·exact nitH c _ z'
theorem bZ {pins:List (Addr×Obj)} {σ:St} {H:Hp} {s:Shared} {b:Bool} {a c:Addr} {xs:List V} (I:Inv X pins σ H s) (h:k9 X.K H b a xs) (f:lQ X pins H c):a≠c:=by
 have rd:∀ {u:HO},Rd H a u->a≠c:=fun {u} r=>by
  rcases r with r | ⟨o,r⟩
  ·exact aS r f.1
  ·exact aS r f.1
 have mk:∀ {o:Obj},X.K.lookup a=some o->a≠c:=fun {o} e z=>by
  subst z
  have e':=I.ok.mod.E_ _ _ e
  rcases f.2.2.2.1 with q | q
  ·exact I.ok.rG _ _ e' q
  ·exact absurd (Nat.lt_of_lt_of_le (Heap.lt_size (I.ok.bs _ _ e').1) q) (Nat.lt_irrefl _)
 cases b with
 | true =>
  rcases (show i4 X.K H a xs from h) with r | ⟨o,its,n,e,_⟩
  ·exact rd r
  ·exact mk e
 | false =>
  rcases (show gT X.K H a xs from h) with r | ⟨o,its,n,e,_⟩
  ·exact rd r
  ·exact mk e
def K5 (K : PySem.W.Frag) (b1 b2 : Bool) (a1 a2 : Addr) : It :=
  ⟨fun i H => ∃ xs ys x y, k9 K H b1 a1 xs /\ k9 K H b2 a2 ys /\ xs[i]? = some x /\ ys[i]? = some y,
   fun i H v H' => ∃ p x y, H p = none /\ v = .ref p /\ H' = upd H p (.tup [x, y]) /\ (∀ xs, k9 K H b1 a1 xs -> xs[i]? = some x) /\ (∀ ys, k9 K H b2 a2 ys -> ys[i]? = some y),
   fun i H => ∃ xs ys, k9 K H b1 a1 xs /\ k9 K H b2 a2 ys /\ (xs.length <= i \/ ys.length <= i)⟩
theorem Cs {P:Program} {w:World} {K:PySem.W.Frag} {elts:List Expr} {x1:Nat} {tp:Pos} (b1 b2:Bool) (a1 a2 z TI TO i1 i2:Addr) (D:TI≠z/\TO≠z/\i1≠z/\i2≠z/\TI≠TO/\TI≠i1/\TI≠i2/\TO≠i1/\TO≠i2/\i1≠i2) :
  Turn P w K (.Tuple elts x1 tp) (K5 K b1 b2 a1 a2) [z,TO,i1,i2,TI] z (fun i h=>IsZip h z TI TO .none/\IsPair h TI (.ref i1) (.ref i2)/\(∃ a b,IsPair h TO a b)/\dO h b1 i1 a1 i/\dO h b2 i2 a2 i) where
 mem:=by simp
 obj:=fun i h st b hb=>by
  obtain ⟨hz,hTI,⟨a,c,hTO⟩,h1,h2⟩:=st
  simp only [List.mem_cons,List.mem_nil_iff,or_false] at hb
  rcases hb with q | q | q | q | q <;> subst q
  ·exact ⟨_,hz,fun v z=>by cases z⟩
  ·exact ⟨_,hTO,fun v z=>by cases z⟩
  ·obtain ⟨o,vs,e,d⟩:=h1.obj
   exact ⟨o,e,fun v z=>by rw [d] at z;cases z⟩
  ·obtain ⟨o,vs,e,d⟩:=h2.obj
   exact ⟨o,e,fun v z=>by rw [d] at z;cases z⟩
  ·exact ⟨_,hTI,fun v z=>by cases z⟩
 keep:=fun i h h' st k=>by
  obtain ⟨hz,hTI,⟨a,c,hTO⟩,h1,h2⟩:=st
  exact ⟨k z (by simp) _ hz,k TI (by simp) _ hTI,⟨a,c,k TO (by simp) _ hTO⟩,h1.at fun o e=>k i1 (by simp) o e,h2.at fun o e=>k i2 (by simp) o e⟩
 item:=by
  intro X hP hw hK hc i pins s σ H E I hf st hg
  subst hP hw hK
  obtain ⟨xs,ys,x,y,hq1,hq2,hx,hy⟩:=hg
  obtain ⟨its1,rv1,p1,hz1⟩:=I.row hq1
  obtain ⟨its2,rv2,p2,hz2⟩:=I.row hq2
  obtain ⟨u1,hu1,ru1⟩:=rv1.get hx
  obtain ⟨u2,hu2,ru2⟩:=rv2.get hy
  obtain ⟨hz,hTI,⟨a,c,hTO⟩,h1,h2⟩:=st
  obtain ⟨d1,d2,d3,d4,d5,d6,d7,d8,d9,d10⟩:=D
  obtain ⟨o1,n1,e1,dd1⟩:=p1.obj
  obtain ⟨o2,n2,e2,dd2⟩:=p2.obj
  obtain ⟨oi1,vs1,ei1,di1⟩:=h1.obj
  obtain ⟨oi2,vs2,ei2,di2⟩:=h2.obj
  have D:ZipApart z TI TO i1 i2 a1 a2:=⟨d1,d2,d3,d4,d5,d6,d7,d8,d9,d10,bZ I hq1 (hf z (by simp)),bZ I hq1 (hf TO (by simp)),bZ I hq1 (hf i1 (by simp)),bZ I hq1 (hf i2 (by simp)),
   bZ I hq2 (hf z (by simp)),bZ I hq2 (hf TO (by simp)),bZ I hq2 (hf i1 (by simp)),bZ I hq2 (hf i2 (by simp))⟩
  refine nh D hz hTI hTO h1 h2 p1 p2 (x:=u1) (y:=u2) (by simpa using hu1) (by simpa using hu2) fun h' g1 g2 g3 g4 g5 g6 g7=>⟨_,rfl,?_⟩
  refine wpAny_letOwnedTupleGo_zip (s:={ s with heap:=h' }) g1 fun h3 hz3 hs3=>?_
  have hnew:H s.heap.objs.size=none:=I.a_.fresh (Nat.le_refl _)
  have lt:∀ {c:Addr} {o:Obj},s.heap.get? c=some o->c≠s.heap.objs.size:=fun e=>Nat.ne_of_lt (Heap.lt_size e)
  have keep3:∀ b o,b ∉ [z,TO,i1,i2,TI]->s.heap.get? b=some o->h3.get? b=some o:=fun b o hb q=>by
   simp only [List.mem_cons,List.mem_nil_iff,or_false,not_or] at hb
   exact (hs3.2 b hb.1).trans (g7 b o hb.1 hb.2.1 hb.2.2.1 hb.2.2.2.1 q)
  have hT3:h3.get? s.heap.objs.size=some { cls:=.type "tuple", data:=.seq #[u1,u2] }:=(hs3.2 _ (lt hz).symm).trans g5
  have I3:Inv X pins σ (upd H s.heap.objs.size (.tup [x,y])) { s with heap:=h3,toks:=s.toks } :=
   I.kK (ch:=[z,TO,i1,i2,TI]) keep3 hf (Nat.le_refl _) (fun b hb=>by
    simp only [List.mem_cons,List.mem_nil_iff,or_false] at hb
    rcases hb with q | q | q | q | q <;> subst q
    ·exact ⟨_,hz⟩
    ·exact ⟨_,hTO⟩
    ·exact ⟨_,ei1⟩
    ·exact ⟨_,ei2⟩
    ·exact ⟨_,hTI⟩)
    ⟨by show 2<=sizeLine;decide,[u1,u2],.cons ru1 (.cons ru2 .nil),⟨_,hT3,rfl,_,rfl⟩⟩
  refine ⟨.ref s.heap.objs.size,_,I3,rfl,⟨_,x,y,hnew,rfl,rfl,fun zs hzs=>by rw [I.mw hzs hq1];exact hx,fun zs hzs=>by rw [I.mw hzs hq2];exact hy⟩,
   ⟨hz3,(hs3.2 TI d1).trans (g7 TI _ d1 d5 d6 d7 hTI),⟨_,_,(hs3.2 TO d2).trans g2⟩,g3.at fun o e=>(hs3.2 i1 d3).trans e,g4.at fun o e=>(hs3.2 i2 d4).trans e⟩,fun b hb=>?_⟩
  have nb:b≠s.heap.objs.size:=by
   simp only [List.mem_cons,List.mem_nil_iff,or_false] at hb
   rcases hb with q | q | q | q | q <;> subst q
   ·exact lt hz
   ·exact lt hTO
   ·exact lt ei1
   ·exact lt ei2
   ·exact lt hTI
  rw [ar nb]
  exact (hf b hb).1
 done:=by
  intro X hP hw hK hc i pins s σ H E I hf st hg
  subst hP hw hK
  obtain ⟨xs,ys,hq1,hq2,hend⟩:=hg
  obtain ⟨its1,rv1,p1,hz1⟩:=I.row hq1
  obtain ⟨its2,rv2,p2,hz2⟩:=I.row hq2
  obtain ⟨hz,hTI,⟨a,c,hTO⟩,h1,h2⟩:=st
  obtain ⟨d1,d2,d3,d4,d5,d6,d7,d8,d9,d10⟩:=D
  have D:ZipApart z TI TO i1 i2 a1 a2:=⟨d1,d2,d3,d4,d5,d6,d7,d8,d9,d10,bZ I hq1 (hf z (by simp)),bZ I hq1 (hf TO (by simp)),bZ I hq1 (hf i1 (by simp)),bZ I hq1 (hf i2 (by simp)),
   bZ I hq2 (hf z (by simp)),bZ I hq2 (hf TO (by simp)),bZ I hq2 (hf i1 (by simp)),bZ I hq2 (hf i2 (by simp))⟩
  have l1:=rv1.length
  have l2:=rv2.length
  refine oK (I.ok.hd hc) D hz hTI hTO h1 h2 p1 p2 ?_ fun h' k=>⟨rfl,?_⟩
  ·rcases hend with q | q
   ·exact .inl (by simp;omega)
   ·exact .inr (by simp;omega)
  ·exact I.yv (t':=s.toks) (ch:=[z,TO,i1,i2,TI]) (fun b u hb e=>by
    simp only [List.mem_cons,List.mem_nil_iff,or_false,not_or] at hb
    exact k b u hb.1 hb.2.1 hb.2.2.1 hb.2.2.2.1 e) hf
 self:=fun _ _ _ _ _ st h=>by
  obtain ⟨hz,_⟩:=st
  exact wpAny_pyIter_zip hz h
theorem FR (n:Nat):n+2≠n+4/\n+3≠n+4/\n≠n+4/\n+1≠n+4/\n+2≠n+3/\n+2≠n/\n+2≠n+1/\n+3≠n/\n+3≠n+1/\n≠n+1:=by
 refine ⟨?_,?_,?_,?_,?_,?_,?_,?_,?_,?_⟩ <;> omega
def J4 (K:PySem.W.Frag) (tl:TA):TI:=fun σ H R=>tl σ H fun vs H1=>∃ b1 b2 a1 a2,vs=[.ref a1,.ref a2]/\(∃ xs,k9 K H1 b1 a1 xs)/\(∃ ys,k9 K H1 b2 a2 ys)/\R (K5 K b1 b2 a1 a2) H1
theorem jV {elts:List Expr} {x1:Nat} {tp:Pos} {l1 l2:Expr} {tl:TA} {p pos:Pos} (hg:Gl X "zip") (hm:X.mg "zip" = none) (hl:PA X [l1,l2] tl) (hs:starEach [l1,l2] X.env=[(false,eval l1 X.env),(false,eval l2 X.env)]:=by rfl) (hs2:starEach [l2] X.env=[(false,eval l2 X.env)]:=by rfl) :
  PI X (.Tuple elts x1 tp) (.Call (.Name "zip" p) [l1,l2] [] pos) (J4 X.K tl):=by
 intro pins s σ H R I h
 refine Call_ (i5 I hg hm PyProof.Rows.boot_zip (PyProof.Rows.callWith_type1 (bJ (hl pos pins s σ H _ I h) fun us s1 ⟨vs,H1,I1,r1,q1⟩=>?_) (by rw [hs,hs2]) (by rw [hs2];rfl)))
 obtain ⟨b1,b2,a1,a2,e,⟨xs,hq1⟩,⟨ys,hq2⟩,q⟩:=q1
 subst e
 cases r1 with
 | cons r rr =>
  cases rr with
  | cons r' rr =>
   cases rr
   cases (show _=Value.ref a1 from r)
   cases (show _=Value.ref a2 from r')
   obtain ⟨its1,rv1,p1,hz1⟩:=I1.row hq1
   obtain ⟨its2,rv2,p2,hz2⟩:=I1.row hq2
   refine zX p1 p2 fun h' g1 g2 g3 g4 g5 g6 g7=>?_
   have I2:Inv X pins σ H1 { s1 with heap:=h' }:=I1.kept (t':=s1.toks) g7
   refine wpAny_pyIter_zip (s:={ s1 with heap:=h' }) g1 ?_
   refine ⟨s1.heap.objs.size+4,[s1.heap.objs.size+4,s1.heap.objs.size+3,s1.heap.objs.size,s1.heap.objs.size+1,s1.heap.objs.size+2],_,_,H1,rfl,I2,
    Cs b1 b2 a1 a2 _ _ _ _ _ (FR s1.heap.objs.size),⟨g1,g2,⟨_,_,g3⟩,g4,g5⟩,fun b hb=>?_,q⟩
   have hle:s1.heap.objs.size<=b:=by
    simp only [List.mem_cons,List.mem_nil_iff,or_false] at hb
    rcases hb with q | q | q | q | q
    ·rw [q];exact Nat.le_add_right _ 4
    ·rw [q];exact Nat.le_add_right _ 3
    ·rw [q];exact Nat.le_refl _
    ·rw [q];exact Nat.le_add_right _ 1
    ·rw [q];exact Nat.le_add_right _ 2
   exact I1.tZ hle (I1.a_.fresh hle)
end
end L2
namespace L2
open PySem PySem.Spec PyProof.Rows
def Og (K:PySem.W.Frag) (b:Bool) (a:Addr):It:=match b with
 | true=>QH K a
 | false=>QF K a
section
variable {X:Cx} {tg:Expr}
def Jx (K:PySem.W.Frag) (tl:TE):TI:=fun σ H R=>tl σ H fun x H1=>∃ b a,x=.ref a/\(∃ xs,k9 K H1 b a xs)/\R (Og K b a) H1
theorem iH {l:Expr} {tl:TE} (hl:PE X l tl):PI X tg l (Jx X.K tl):=by
 intro pins s σ H R I h
 refine bJ (hl pins s σ H _ I h) fun v s1 ⟨x,H1,I1,r1,q1⟩=>?_
 obtain ⟨b,a,e,⟨xs,hq⟩,q⟩:=q1
 subst e
 cases r1
 cases b with
 | true =>
  obtain ⟨its,rv,p,hz⟩:=I1.list hq
  refine wpAny_pyIter_list p.isList ?_
  refine ⟨s1.heap.objs.size,[s1.heap.objs.size],_,_,H1,rfl,I1.kept (t':=s1.toks) fun b o e=>Heap.get?_push_of_some _ e,yR a _,⟨_,Heap.get?_push_size _ rfl,rfl,rfl⟩,fun b hb=>?_,q⟩
  have e:b=s1.heap.objs.size:=by simpa using hb
  subst e
  exact I1.tZ (Nat.le_refl _) (I1.a_.fresh (Nat.le_refl _))
 | false =>
  obtain ⟨its,rv,p,hz⟩:=I1.tuple hq
  refine wpAny_pyIter_tuple (show s1.heap.IsTuple a its.toArray from p) ?_
  refine ⟨s1.heap.objs.size,[s1.heap.objs.size],_,_,H1,rfl,I1.kept (t':=s1.toks) fun b o e=>Heap.get?_push_of_some _ e,wZ a _,⟨_,Heap.get?_push_size _ rfl,rfl,rfl⟩,fun b hb=>?_,q⟩
  have e:b=s1.heap.objs.size:=by simpa using hb
  subst e
  exact I1.tZ (Nat.le_refl _) (I1.a_.fresh (Nat.le_refl _))
end
section
end
section
variable {X:Cx}
theorem ze (hc:X.calm=true):dH X (.builtin "sum") (fun xs H Q=>∃ (a:Addr) (ns:List Int),xs=[.ref a]/\i4 X.K H a (ns.map V.int)/\Q (.int ns.sum) H):=by
 intro pins s σ H xs us Q I r h
 obtain ⟨a,ns,rfl,hq,q⟩:=h
 cases r with
 | cons r1 r2 =>
  cases r2
  cases (show _=Value.ref a from r1)
  obtain ⟨its,rv,p,hz⟩:=I.list hq
  have hi:=intsAre_of rv
  obtain ⟨xs',e⟩:=hi.allInts.items
  have e3:numsOf (intItems xs').toList=ns:=by rw [← e];exact hi.numsOf
  rw [nums_intItems] at e3
  refine sum_intListG (I.ok.hd hc) (by rw [← e];exact p.isList) fun h' tk t' hk=>⟨.int ns.sum,H,I.kept (t':=tk) hk,⟨t',?_⟩,q⟩
  rw [preSum_eq,List.take_of_length_le (by simp),e3]
end
end L2
namespace L2
open PySem PySem.Spec PyProof.Rows
structure gG (K:PySem.W.Frag) (C:Addr):Prop where
 ga:PySem.W.findIn K (.ref C) "__getattribute__" = some (some (.builtin "BaseException.__getattribute__"))
 gn:PySem.W.findIn K (.ref C) "__getattr__" = some none
 hd:PySem.W.hasDictIn K C=true
 sa:PySem.W.findIn K (.ref C) "__setattr__" = some (some (.builtin "object.__setattr__"))
 mb:PySem.W.mroIn K C (.type "BaseException")=some true
 mo:PySem.W.mroIn K C (.type "object")=some true
 ca:PySem.W.findIn K (.ref C) "__class__" = some (some (.builtin "object.__class__"))
 cg:PySem.W.specialIn K (.builtin "object.__class__") "__get__" = some (some (.builtin "getset_descriptor.__get__"))
 ct:PySem.W.takesIn K (.builtin "object.__class__")=some true
section
variable {prog:Program} {w:World} {A:Around} {E:Value->Shared->Prop} {s:Shared} {K:PySem.W.Frag} {x C:Addr} {ox:Obj} {od:Option Obj} {name:Str}
theorem A0:builtinKind "BaseException.__getattribute__" = some .slot:=by decide +kernel
theorem Ac:splitId "BaseException.__getattribute__" = some ("BaseException", "__getattribute__"):=by decide +kernel
theorem Br {tk:Tok} {fill expr:Bool} {Q:Value->Shared->Prop} (c:gG K C) (X:K.In s.heap) (I:PySem.W.InstAt s.heap x ox C od)
  (h:wpAny (model prog w) A.in1 (Builtin.«object.__getattribute__» ⟨[.ref x,.str name tk],[]⟩)
   (fun fin s'=>match fin with | .done (.ret v)=>wpAny (model prog w) A (handedOut v) Q E s' | _=>False) (fun _ _=>False) s) :
  wpAny (model prog w) A (getAttrBy (.ref x) (.str name tk) fill expr) Q E s:=by
 have hx2:(Value.builtin "BaseException.__getattribute__" == Value.builtin "object.__getattribute__")=false:=by decide +kernel
 have hx1:(onTheHeap (Value.ref C)&&Value.builtin "BaseException.__getattribute__" == Value.builtin "object.__getattribute__")=false:=by rw [hx2];rfl
 have hx0:(expr&&onTheHeap (Value.builtin "BaseException.__getattribute__"))=false:=by cases expr <;> rfl
 have sub:PySem.W.Looks (model prog w) s.heap (isInstance (.ref x) (.type "BaseException")) true:=I.type.andThen (PySem.W.looks_mroIn X c.mb)
 unfold getAttrBy
 refine wpAny_holding (wpAny_bind (I.type.here (wpAny_bind ((PySem.W.looks_findIn X c.ga).here ?_))))
 dsimp only
 rw [hx1,if_neg Bool.false_ne_true]
 unfold getAttrByItsOwn hookBefore
 refine wpAny_bind ?_
 show wpAny _ _ (typeLookup (.ref C) "__getattr__") _ _ _
 refine (PySem.W.looks_findIn X c.gn).here ?_
 refine wpAny_bind (wpAny_attempt (wpAny_holding ?_))
 unfold callGetattribute
 rw [hx0,if_neg Bool.false_ne_true]
 unfold boundAndCalled
 refine wpAny_bind (wpAny_of_eq (PySem.F.attr_ValueError.ga.bind _) ?_)
 refine wpAny_call (codeAny_call_builtin PySem.F.attr_ValueError.ga.plain PySem.F.entry_bexc_ga (@PySem.W.check_slot (model prog w) _ _ s "BaseException.__getattribute__" "BaseException" "__getattribute__" (.ref x) [.str name tk] [] _ A0 Ac sub (PySem.F.args_bexc_ga _ _) ?_))
 refine wpAny_mono h (fun fin s' z=>?_) (fun _ _ z=>z.elim)
 rcases fin with (v | _ | _ | _) | _ <;> first | exact z | exact z.elim
theorem yZ {v:Value} {b:Bool} {Q:Value->Shared->Prop} (c:gG K C) (X:K.In s.heap) (I:PySem.W.InstAt s.heap x ox C od) (hf:PySem.W.findObj K C od name=some (.value v)) (hh:handedOut v=pure v)
  (h:Q v { s with toks:=s.toks+1 }):wpAny (model prog w) A (getAttr (.ref x) name b) Q E s:=by
 unfold getAttr
 refine wpAny_bind (wpAny_mkText (Br (s:={ s with toks:=s.toks+1 }) c X I ?_))
 unfold Builtin.«object.__getattribute__»
 refine wpAny_bind (wpAny_pure ?_)
 dsimp only
 refine wpAny_bind (wpAny_pure ?_)
 refine wpAny_bind (I.type.here (s:={ s with toks:=s.toks+1 }) (wpAny_bind ((PySem.W.looks_find X I hf).here (s:={ s with toks:=s.toks+1 }) ?_)))
 refine wpAny_pure ?_
 show wpAny _ _ (handedOut v) _ _ _
 rw [hh]
 exact wpAny_pure h
end
end L2
namespace L2
open PySem PySem.Spec PyProof.Rows
open PySem.Builtin.ObjectAttr (storeInOwnDict storeTaker? setByDescriptor)
abbrev eR:List Value:=[.type "ValueError", .type "Exception", .type "BaseException", .type "object"]
def f7:List Value->Bool
 | .ref _::r=>f7 r
 | l=>l==eR
theorem pB (self:Value):refuseLoop self "__setattr__" eR=pure ():=by kernel_rfl
theorem oj (self:Value):∀ {l:List Value},f7 l=true->refuseLoop self "__setattr__" l=pure ()
 | .ref c::r,e=>by rw [PySem.refuseLoop_ref];exact oj self e
 | [],e=>by cases (show false=true from e)
 | .type n::r,e=>by rw [show Value.type n::r=eR from beq_iff_eq.mp e];exact pB self
 | .none::r,e=>by rw [show Value.none::r=eR from beq_iff_eq.mp e];exact pB self
section
variable {prog:Program} {w:World} {A:Around} {E:Value->Shared->Prop} {s:Shared} {K:PySem.W.Frag} {x C:Addr} {ox:Obj} {od:Option Obj} {name:Str}
theorem rD {a g:Value} (hc:(PySem.W.clsIn K C).isSome=true) (ha:PySem.W.findIn K (.ref C) name=some (some a)) (hg:PySem.W.specialIn K a "__get__" = some (some g)) (ht:PySem.W.takesIn K a=some true):PySem.W.findObj K C od name=some (.bind g a):=by
 obtain ⟨cd,hc⟩:=Option.isSome_iff_exists.mp hc
 unfold PySem.W.findObj
 rw [hc,Option.bind_some,ha,Option.bind_some]
 simp [hg,ht]
theorem zD {Q:Option Value->Shared->Prop} (c:gG K C) (X:K.In s.heap) (I:PySem.W.InstAt s.heap x ox C od) (h:Q (some (.ref C)) { s with toks:=s.toks+1 }):wpAny (model prog w) A (getAttr? (.ref x) "__class__") Q E s:=by
 have hc:(PySem.W.clsIn K C).isSome=true:=by obtain ⟨cd,hc,_⟩:=PySem.W.any_some c.hd;rw [hc];rfl
 have hf:PySem.W.findObj K C od "__class__" = some (.bind (.builtin "getset_descriptor.__get__") (.builtin "object.__class__")):=rD hc c.ca c.cg c.ct
 unfold getAttr? getAttrBy?
 refine wpAny_bind (wpAny_mkText (wpAny_bind (wpAny_attempt ?_)))
 refine Br (s:={ s with toks:=s.toks+1 }) c X I ?_
 unfold Builtin.«object.__getattribute__»
 refine wpAny_bind (wpAny_pure ?_)
 dsimp only
 refine wpAny_bind (wpAny_pure ?_)
 refine wpAny_bind (I.type.here (s:={ s with toks:=s.toks+1 }) (wpAny_bind ((PySem.W.looks_find X I hf).here (s:={ s with toks:=s.toks+1 }) ?_)))
 show wpAny _ _ (holding [.builtin "object.__class__"] (call (.builtin "getset_descriptor.__get__") [.builtin "object.__class__", .ref x,.ref C]) >>= ret) _ _ _
 refine wpAny_bind (wpAny_holding (wpAny_call (PySem.W.class_get (s:={ s with toks:=s.toks+1 }) (ox:=ox) (od:=od) X I c.mo ?_)))
 refine wpAny_pure ?_
 exact PySem.W.handed_on rfl (wpAny_pure h)
theorem vG (c:gG K C):PySem.W.KitX K (.ref x) (.ref C) (fun h=>PySem.W.InstAt h x ox C od) where
 ty:=fun _ _ _ I=>I.type
 it:=fun _ _ X _=>by
  obtain ⟨cdD,hcD,_⟩:=PySem.W.any_some c.hd
  unfold PySem.W.clsIn at hcD
  split at hcD
  ·rename_i c' d' cd' sl' ho
   intro A' Q' E' s' k q
   unfold isType loadHead
   exact wpAny_bind (wpAny_loadPart (k _ _ (X _ _ ho)) (wpAny_pure q))
  ·cases hcD
 ne:=fun h tp dd its n sl X htp=>by
  obtain ⟨cdD,hcD,_⟩:=PySem.W.any_some c.hd
  refine Bool.eq_false_iff.mpr fun q=>?_
  have e:C=tp:=Value.ref.inj (beq_iff_eq.mp q)
  subst e
  unfold PySem.W.clsIn at hcD
  split at hcD
  ·rename_i c' d' cd' sl' ho
   have z:=(X _ _ ho).symm.trans htp
   cases z
  ·cases hcD
 ca:=fun X I k=>zD c X I k
theorem DE {tk:Tok} {v:Value} {R:Result->Shared->Prop} (po:((PySem.W.clsIn K C).any fun cd=>f7 cd.mro)=true) (c:gG K C) (X:K.In s.heap) (I:PySem.W.InstAt s.heap x ox C od) (ht:PySem.W.takerIn K C name=some none)
  (h:∀ b,wpAny (model prog w) A.in1 (storeInOwnDict (.ref x) (.ref C) (.str name tk) name v b)
   (fun fin s'=>match fin with | .done f=>R (.ok f) s' | .again c'=>c'.quiet=true/\codeAny (model prog w) A c' R s') (fun e s'=>R (.error e) s') s) :
  codeAny (model prog w) A (.call (.builtin "object.__setattr__") ⟨[.ref x,.str name tk,v],[]⟩) R s:=by
 have SF:=PySem.F.store_object
 obtain ⟨cd,hc,ho⟩:=PySem.W.any_some po
 have sub:PySem.W.Looks (model prog w) s.heap (isInstance (.ref x) (.type "object")) true:=I.type.andThen (PySem.W.looks_mroIn X c.mo)
 refine codeAny_call_builtin SF.slot.plain SF.entry (@PySem.W.check_slot (model prog w) _ _ s "object.__setattr__" "object" "__setattr__" (.ref x) [.str name tk,v] [] _ SF.kind SF.split sub (SF.args (.ref x) (.str name tk) v) ?_)
 obtain ⟨attr,ha,hr⟩:=Option.bind_eq_some_iff.mp ht
 have hm:PySem.W.Looks (model prog w) s.heap (mroOf (.ref C)) cd.mro:=(PySem.W.looks_clsIn X hc).andThen .now
 have L3:PySem.W.Looks (model prog w) s.heap (storeTaker? attr) none:=by
  cases attr with
  | none=>cases hr;exact .now
  | some a =>
   obtain ⟨b,hb,e⟩:=Option.map_eq_some_iff.mp hr
   refine (PySem.W.looks_takesIn X hb).andThen ?_
   cases b with
   | true=>cases e
   | false=>exact .now
 rw [PySem.W.osa_eq,PySem.refuse_eq]
 refine wpAny_bind (wpAny_bind (I.type.here (wpAny_bind (hm.here ?_))))
 rw [oj _ ho]
 refine wpAny_pure (wpAny_bind (I.type.here (wpAny_bind ((PySem.W.looks_findIn X ha).here (wpAny_bind (L3.here ?_))))))
 exact h _
theorem Cf {vs:Array Value} {v:Value} {Q:Unit->Shared->Prop} (po:((PySem.W.clsIn K C).any fun cd=>f7 cd.mro)=true) (c:gG K C) (X:K.In s.heap) (hx:s.heap.get? x=some ⟨.ref C,none,.fields vs,#[]⟩) (ht:PySem.W.takerIn K C name=some none)
  (h:∀ h' tk d,h'.get? x=some ⟨.ref C,some d,.fields vs,#[]⟩->s.heap.get? d=none->h'.Ns1 d (fun y=>if y=name then some v else none)->(∀ b o,b≠x->s.heap.get? b=some o->h'.get? b=some o)->Q () { s with heap:=h',toks:=tk }) :
  wpAny (model prog w) A (setAttr (.ref x) name v) Q E s:=by
 have I:PySem.W.InstAt s.heap x ⟨.ref C,none,.fields vs,#[]⟩ C none:=⟨hx,rfl,rfl,trivial⟩
 refine PySem.W.set_plain X I c.sa (DE (s:={ s with toks:=s.toks+1 }) po c X I ht fun b=>?_)
 obtain ⟨cd,hc,hd'⟩:=PySem.W.any_some c.hd
 have hlt:=Heap.lt_size hx
 refine wpAny_bind (wpAny_pure (wpAny_bind (wpAny_bind (wpAny_loadPart hx (wpAny_bind (PySem.W.Looks.here (s:={ s with toks:=s.toks+1 }) (PySem.W.looks_clsIn X hc) ?_))))))
 rw [hd']
 refine wpAny_bind (wpAny_alloc ?_)
 have hx1:(s.heap.push { cls:=.type "dict", data:=.dict #[] }).get? x=some ⟨.ref C,none,.fields vs,#[]⟩:=Heap.get?_push_of_some _ hx
 refine wpAny_bind (wpAny_update hx1 ?_)
 refine wpAny_pure (a:=some s.heap.objs.size) (wpAny_bind (wpAny_pure (wpAny_bind ?_)))
 have hx2:((s.heap.push { cls:=.type "dict", data:=.dict #[] }).update x fun o=>{ o with dict:=some s.heap.objs.size }).get? x=some ⟨.ref C,some s.heap.objs.size,.fields vs,#[]⟩:=Heap.get?_update_self _ hx1 rfl
 have e1:(s.heap.push { cls:=.type "dict", data:=.dict #[] }).get? s.heap.objs.size=some { cls:=.type "dict", data:=.dict #[] }:=Heap.get?_push_size s.heap rfl
 have nxd:s.heap.objs.size≠x:=Nat.ne_of_gt hlt
 have e2:((s.heap.push { cls:=.type "dict", data:=.dict #[] }).update x fun o=>{ o with dict:=some s.heap.objs.size }).get? s.heap.objs.size=some { cls:=.type "dict", data:=.dict #[] }:=by
  rw [Heap.get?_update_other _ _ (Ne.symm nxd)]
  exact e1
 have e3:((s.heap.push { cls:=.type "dict", data:=.dict #[] }).update x fun o=>{ o with dict:=some s.heap.objs.size }).Ns s.heap.objs.size (fun _=>none):=⟨_,#[],_,e2,rfl,(fun e he=>absurd he (by simp)),fun _=>rfl⟩
 refine wpAny_nsSet1 (s:={ s with heap:=(s.heap.push { cls:=.type "dict", data:=.dict #[] }).update x fun o=>{ o with dict:=some s.heap.objs.size },toks:=s.toks+1 }) (Heap.Ns1.of_empty e3) fun h' hn2 hs2=>?_
 obtain ⟨oD,esD,epD,hoD,hdD,hcD⟩:=hn2.count (PySem.Within.cons (ns:=[]) name v (fun y hy=>absurd rfl hy))
 refine wpAny_bind (wpAny_lookBehind hoD (by rw [hdD];exact pastItsLine_dict (Nat.le_trans hcD (by show 1<=sizeLine+1;exact Nat.le_add_left _ _))) ?_)
 refine wpAny_pure (h h' _ s.heap.objs.size ((hs2.2 x (Ne.symm nxd)).trans hx2) (Heap.get?_none_of_le (Nat.le_refl _)) hn2 fun b o hb e=>?_)
 refine (hs2.2 b (Nat.ne_of_lt (Heap.lt_size e))).trans ?_
 rw [Heap.get?_update_other _ _ (Ne.symm hb)]
 exact Heap.get?_push_of_some _ e
end
def p_ (K:PySem.W.Frag) (C:Addr) (newId:String) (f:Addr):Bool:=match K.lookup C with
 | some ⟨.type "type", _,.cls cd,sl⟩=>(match cd.mro,sl.toList with
  | .ref C'::bm,[_,_,_,_,some (.builtin n),_]=>C'==C&&n==newId&&!cd.hasDel&&PySem.W.tailIn K eR bm&&PySem.W.nsOkIn K cd.ns&&PySem.W.nsIn K cd.ns "__init__" == some (some (.ref f))
  | _,_=>false)
 | _=>false
section
variable {prog:Program} {w:World} {A:Around} {E:Value->Shared->Prop} {h:Heap} {g:Array GenState} {d:Drawn} {t:Nat} {os:OsState}
variable {nm q:Str} {C N:Addr} {bs bm:List Value} {hdct:Bool} {sn:List Str} {sub:List Value} {ab:Bool} {col:Option Bool} {dd:Option Addr} {k0 k1 k2 k3 k5:Option Value} {newId initId:String}
theorem pA (F:ExcBaseFacts "ValueError" newId initId eR) (T:OwnTail h eR bm) {mN:Str->Option Value} {rest:List Value} {f:Addr} {Q:Fin->Shared->Prop}
  (hC:h.get? C=some (excClassObj nm q C N bs bm hdct sn sub ab col dd k0 k1 k2 k3 k5 newId)) (hn:h.Ns N mN) (hni:mN "__init__" = some (.ref f))
  (hb:∀ h':Heap,(∀ b o,h.get? b=some o->h'.get? b=some o)->∀ self,PySem.W.Looks (model prog w) h' (bindSpecial (.ref f) self) (.ref f,[self]))
  (hq:∀ h':Heap,(∀ b o,h.get? b=some o->h'.get? b=some o)->h'.get? h.objs.size=some { cls:=.type "tuple", data:=.seq rest.toArray } ->
   h'.get? (h.objs.size+1)=some { cls:=.ref C,data:=.fields #[.ref h.objs.size,.none,.none,.none,.bool false,.none] }->h'.objs.size=h.objs.size+2 ->
   wpAny (model prog w) A (call (.ref f) (.ref (h.objs.size+1)::rest)) (fun v s'=>v=.none/\Q (.done (.ret (.ref (h.objs.size+1)))) s') E ⟨h',g,d,t,os⟩) (AJ:rest.length<=sizeLine:=by size_fits) :
  wpAny (model prog w) A (Builtin.«type.__call__» ⟨.ref C::rest,[]⟩) Q E ⟨h,g,d,t,os⟩:=by
 repeat (first | with_reducible refine wpAny_loadPart_at hC ?_ | with_reducible refine wpAny_madeBy_exc hC ?_ | wp_step)
 refine codeAny_call_builtin_code (Code.quiet_builtin _ F.quiet) (wpAny_check_new_subT F T hC ?_)
 refine codeAny_exc_new_subT F T hC ?_ AJ
 show wpAny _ _ _ _ _ _
 have kp:∀ b o,h.get? b=some o->((h.push { cls:=.type "tuple", data:=.seq rest.toArray }).push { cls:=.ref C,data:=.fields #[.ref h.objs.size,.none,.none,.none,.bool false,.none] }).get? b=some o:=fun b o e=>Heap.get?_push_of_some _ (Heap.get?_push_of_some _ e)
 have hC₁:=kp _ _ hC
 have hn₁:((h.push { cls:=.type "tuple", data:=.seq rest.toArray }).push { cls:=.ref C,data:=.fields #[.ref h.objs.size,.none,.none,.none,.bool false,.none] }).Ns N mN:=hn.keeps kp
 have hget:((h.push { cls:=.type "tuple", data:=.seq rest.toArray }).push
   { cls:=.ref C,data:=.fields #[.ref h.objs.size,.none,.none,.none,.bool false,.none] }).get? (h.objs.size+1)=some
   { cls:=.ref C,data:=.fields #[.ref h.objs.size,.none,.none,.none,.bool false,.none] }:=by heap_get
 have htup:((h.push { cls:=.type "tuple", data:=.seq rest.toArray }).push
   { cls:=.ref C,data:=.fields #[.ref h.objs.size,.none,.none,.none,.bool false,.none] }).get? h.objs.size=some { cls:=.type "tuple", data:=.seq rest.toArray }:=Heap.get?_push_of_some _ (Heap.get?_push_size _ rfl)
 have hsz:((h.push { cls:=.type "tuple", data:=.seq rest.toArray }).push { cls:=.ref C,data:=.fields #[.ref h.objs.size,.none,.none,.none,.bool false,.none] }).objs.size=h.objs.size+2:=by rw [Heap.size_push,Heap.size_push]
 have hcC:(Value.ref C::bm).contains (.ref C)=true:=by simp
 have T₁:=T.keeps kp
 have hb₁:=hb _ kp (.ref (h.objs.size+1))
 have fin:=hq _ kp htup hget hsz
 generalize ((h.push { cls:=.type "tuple", data:=.seq rest.toArray }).push { cls:=.ref C,data:=.fields #[.ref h.objs.size,.none,.none,.none,.bool false,.none] })=h1 at *
 unfold isInstance
 repeat (first | with_reducible refine wpAny_loadPart_at hget ?_ | (with_reducible refine wpAny_isSubtype_exc hC₁ ?_;rw [hcC]) | wp_step)
 show wpAny _ _ (typeLookup (.ref C) _) _ _ _
 refine wpAny_typeLookup_tail hC₁ hn₁ T₁ F.mroIs F.init.lookup ?_
 rw [hni]
 refine wpAny_holding (wpAny_bind (hb₁.here ?_))
 refine wpAny_bind (wpAny_mono fin (fun v s' z=>?_) fun _ _ z=>z)
 obtain ⟨rfl,z⟩:=z
 wp_walk
 exact z
end
end L2
namespace L2
open PySem PySem.Spec PyProof.Rows
def gU (C:Addr) (dd:Option Addr) (e:Addr):HO:=.ext fun h=>∃ vs,h.get? e=some ⟨.ref C,dd,.fields vs,#[]⟩
theorem D5 {P:Program} {w:World} {H:Hp} {h:Heap} {C e:Addr} {dd:Option Addr} {vs:Array Value} (he:h.get? e=some ⟨.ref C,dd,.fields vs,#[]⟩):bP P w H h e (gU C dd e) :=
 ⟨⟨vs,he⟩,⟨_,he⟩,fun _ _ ⟨vs,q⟩ k=>⟨vs,k _ q⟩⟩
def ExcAt (H:Hp) (e C:Addr) (fo:Option (List (Str×V))):Prop:=match fo with
 | none=>H e=some (gU C none e)
 | some fs=>∃ d,H e=some (gU C (some d) e)/\H d=some (.xd fs)
section
variable {X:Cx} {pins:List (Addr×Obj)} {σ:St} {H:Hp} {s:Shared}
theorem Inv.qi (I:Inv X pins σ H s) {C e:Addr} {dd:Option Addr} (he:H e=some (gU C dd e)):∃ vs,s.heap.get? e=some ⟨.ref C,dd,.fields vs,#[]⟩:=(I.a_ e _ he).1
theorem Inv.x9 (I:Inv X pins σ H s) {C e:Addr} {fo:Option (List (Str×V))} (h:ExcAt H e C fo):∃ ox od,PySem.W.InstAt s.heap e ox C od/\(fo=none->od=none) ∧
  ∀ fs,fo=some fs->∃ (o:Obj) (mA:Str->Option Value),od=some o/\(∀ n,PySem.W.lookIn n o=some (mA n))/\∀ f,l_ (fs.lookup f) (mA f):=by
 cases fo with
 | none =>
  obtain ⟨vs,q⟩:=I.qi h
  exact ⟨_,none,⟨q,rfl,rfl,trivial⟩,fun _=>rfl,fun fs z=>(by cases z)⟩
 | some fs =>
  obtain ⟨d,h1,h2⟩:=h
  obtain ⟨vs,q⟩:=I.qi h1
  obtain ⟨mA,n,r⟩:=(show ∃ mA,s.heap.Ns1 d mA/\∀ f,l_ (fs.lookup f) (mA f) from I.a_ d _ h2)
  obtain ⟨o,ho,hl⟩:=nP n
  refine ⟨_,some o,⟨q,rfl,rfl,ho⟩,fun z=>(by cases z),fun fs' z=>?_⟩
  cases z
  exact ⟨o,mA,rfl,hl,r⟩
theorem Inv.tW {a:Addr} (I:Inv X pins σ H s) (hn:s.heap.get? a=none):H a=none:=by
 cases q:H a with
 | none=>rfl
 | some u =>
  exfalso
  have:∀ (u:HO),bP X.prog X.w H s.heap a u->∃ ob,s.heap.get? a=some ob:=by
   intro u
   induction u with
   | lst xs=>intro ⟨_,_,_,_,e⟩;exact ⟨_,e⟩
   | tup xs=>intro ⟨_,_,_,p⟩;obtain ⟨ob,e,_⟩:=p;exact ⟨ob,e⟩
   | dK kvs=>intro ⟨_,_,_,_,p⟩;obtain ⟨ob,_,_,e,_⟩:=p;exact ⟨ob,e⟩
   | dT kvs=>intro ⟨_,_,_,_,ob,_,_,e,_⟩;exact ⟨ob,e⟩
   | set S n=>intro p;obtain ⟨es,ob,xs,ep,e,_⟩:=p;exact ⟨_,e⟩
   | ins C dx fs=>intro ⟨_,_,_,e,_⟩;exact ⟨_,e⟩
   | own x=>intro ⟨ob,e⟩;exact ⟨ob,e⟩
   | xd fs=>intro ⟨mA,n,_⟩;obtain ⟨ob,e,_⟩:=nP n;exact ⟨ob,e⟩
   | met f x=>intro e;exact ⟨_,e⟩
   | kz lo hi=>intro ⟨_,_,_,e⟩;exact ⟨_,e⟩
   | rK o u _=>intro ⟨e,_⟩;exact ⟨_,e⟩
   | Fp ps=>intro e;exact ⟨_,e⟩
   | ext φ=>intro ⟨_,⟨ob,e⟩,_⟩;exact ⟨ob,e⟩
  obtain ⟨ob,e⟩:=this u (I.a_ a u q)
  rw [hn] at e;cases e
theorem Inv.Fw {h':Heap} {t':Nat} {a:Addr} {o:HO} (I:Inv X pins σ H s) (k:∀ b u,s.heap.get? b=some u->h'.get? b=some u) (hn:s.heap.get? a=none) (new:bP X.prog X.w (upd H a o) h' a o) :
  Inv X pins σ (upd H a o) { s with heap:=h',toks:=t' }:=by
 have ne:∀ b u,s.heap.get? b=some u->b≠a:=fun b u e z=>by rw [z,hn] at e;cases e
 have hfr:H a=none:=I.tW hn
 have nea:∀ b u,H b=some u->b≠a:=fun b u e z=>by rw [z,hfr] at e;cases e
 refine I.un ⟨fun b u e _ _ _=>k b u e,fun b u e _ _ _=>⟨u.slots,k b u e⟩,fun b u e n _=>by rw [ar (ne b u e)];exact n,fun b u e _=>⟨u,k b u e⟩,
  fun b xs e=>by rw [ar (nea b _ e)];exact e,fun b ob u e=>by rw [ar (nea b _ e)];exact e,fun b ps e=>⟨#[],by rw [ar (nea b _ e),e];simp⟩⟩ fun b u e=>?_
 by_cases z:b=a
 ·subst z
  rw [aC] at e
  cases e
  exact new
 ·rw [ar z] at e
  refine (I.a_ b u e).lN (fun c v _ q=>k c v q) (fun c q=>?_) fun c ys q=>?_
  ·rw [ar (nea c _ q)];exact q
  ·rw [ar (nea c _ q)];exact q
end
section
variable {X:Cx} {o:Expr} {ta:TE} {f m:Str} {pos apos:Pos}
def PF (K:PySem.W.Frag):List V->Hp->VK->Prop:=fun xs H Q=>∃ e C fo b,gG K C/\ExcAt H e C fo ∧
 ((∃ T,xs=[.ref e,.ty T]/\PySem.W.kitOne K (.ref C) (.type T)=some b)\/(∃ D,xs=[.ref e,.ref D]/\PySem.W.kitOne K (.ref C) (.ref D)=some b))/\Q (.bl b) H
theorem CH:dH X (.builtin "isinstance") (PF X.K):=by
 intro pins s σ H xs us Q I r h
 obtain ⟨e,C,fo,b,c,ha,hc,q⟩:=h
 obtain ⟨ox,od,J,_⟩:=I.x9 ha
 rcases hc with ⟨T,rfl,hk⟩ | ⟨D,rfl,hk⟩
 ·cases r with
  | cons r1 r2 =>
   cases r2 with
   | cons r3 r4 =>
    cases r4
    cases (show _=Value.ref e from r1)
    cases (show _=Value.type T from r3)
    exact PySem.W.kia_one (vG c) I.jx J hk (fun z=>nomatch z) fun tk=>⟨.bl b,H,I.tok tk,rfl,q⟩
 ·cases r with
  | cons r1 r2 =>
   cases r2 with
   | cons r3 r4 =>
    cases r4
    cases (show _=Value.ref e from r1)
    cases (show _=Value.ref D from r3)
    exact PySem.W.kia_one (vG c) I.jx J hk (fun z=>nomatch z) fun tk=>⟨.bl b,H,I.tok tk,rfl,q⟩
def JP (K:PySem.W.Frag) (ta:TE) (f:Str):TE:=fun σ H Q=>ta σ H fun x H1=>∃ e C fs v,x=.ref e/\ExcAt H1 e C (some fs)/\gG K C/\bp K C f/\fs.lookup f=some v/\Q v H1
theorem Dy (he:PE X o ta) (hb:attributeBase o f X.env (eval o X.env)=eval o X.env):PE X (.Attribute o f pos) (JP X.K ta f):=by
 intro pins s σ H Q I h
 refine yy hb (bJ (he pins s σ H _ I h) fun u s1 ⟨x,H1,I1,rx,e,C,fs,v,ex,ha,c,n,l,q⟩=>?_)
 subst ex
 obtain rfl:u=Value.ref e:=rx
 obtain ⟨ox,od,J,_,hfo⟩:=I1.x9 ha
 obtain ⟨o',mA,rfl,hl,hr⟩:=hfo fs rfl
 obtain ⟨u',hu,ru⟩:=l_.some_of (v:=v) (o:=mA f) (by rw [← l];exact hr f)
 exact yZ c I1.jx J (PySem.W.findObj_own c.hd n rfl (by rw [hl,hu])) (PySem.W.handedOut_of (r_ ru)) ⟨v,H1,I1.tok _,ru,q⟩
end
theorem xK {K:PySem.W.Frag} {h:Heap} {N:Addr} {mg:Str->Option Value} {n:Str} {v:Value} (X:K.In h) (G:h.Ns N mg) (e:PySem.W.nsIn K N n=some (some v)):mg n=some v:=by
 obtain ⟨o,es,ep,ho,hd,_,hf⟩:=G
 unfold PySem.W.nsIn at e
 split at e
 ·rename_i c d es' n' sl q
  have:=X _ _ q
  rw [ho] at this
  cases this
  cases hd
  split at e
  ·rename_i en he
   cases e
   rw [← hf]
   unfold nsFind findBy
   rw [← Array.find?_toList,he]
   rfl
  ·split at e <;> cases e
 ·cases e
theorem DT {K:PySem.W.Frag} {h:Heap} {C:Addr} {newId:String} (X:K.In h) (q:PySem.W.excIn K C eR newId=true) :
  ∃ bm N nm qn bs hdct sn sub ab col dd k0 k1 k2 k3 k5 mN,h.get? C=some (excClassObj nm qn C N bs bm hdct sn sub ab col dd k0 k1 k2 k3 k5 newId)/\h.Ns N mN/\mN "__init__" = none/\OwnTail h eR bm:=by
 unfold PySem.W.excIn at q
 split at q
 ·rename_i dd cd sl ho
  split at q
  ·rename_i C' bm k0 k1 k2 k3 n k5 hm hs
   simp only [Bool.and_eq_true,beq_iff_eq,Bool.not_eq_true'] at q
   obtain ⟨⟨⟨⟨⟨rfl,rfl⟩,hdel⟩,ht⟩,a_⟩,hni⟩:=q
   obtain ⟨nm,bs,mro,ns,qn,hd,sn,sub,ab,col,del⟩:=cd
   dsimp only at hm hdel a_ hni
   subst hm hdel
   have hsl:sl=#[k0,k1,k2,k3,some (.builtin n),k5]:=by
    obtain ⟨l⟩:=sl
    simp only at hs
    rw [hs]
   subst hsl
   exact ⟨bm,ns,nm,qn,bs,hd,sn,sub,ab,col,dd,k0,k1,k2,k3,k5,_,X _ _ ho,.of_isNs (PySem.W.isNs_of_in X a_),PySem.W.nsMap_none_of_in X a_ hni,PySem.W.tail_of_in X ht⟩
  ·cases q
 ·cases q
theorem C9 {K:PySem.W.Frag} {h:Heap} {C f:Addr} {newId:String} (X:K.In h) (q:p_ K C newId f=true) :
  ∃ bm N nm qn bs hdct sn sub ab col dd k0 k1 k2 k3 k5 mN,h.get? C=some (excClassObj nm qn C N bs bm hdct sn sub ab col dd k0 k1 k2 k3 k5 newId)/\h.Ns N mN/\mN "__init__" = some (.ref f)/\OwnTail h eR bm:=by
 unfold p_ at q
 split at q
 ·rename_i dd cd sl ho
  split at q
  ·rename_i C' bm k0 k1 k2 k3 n k5 hm hs
   simp only [Bool.and_eq_true,beq_iff_eq,Bool.not_eq_true'] at q
   obtain ⟨⟨⟨⟨⟨rfl,rfl⟩,hdel⟩,ht⟩,a_⟩,hni⟩:=q
   obtain ⟨nm,bs,mro,ns,qn,hd,sn,sub,ab,col,del⟩:=cd
   dsimp only at hm hdel a_ hni
   subst hm hdel
   have hsl:sl=#[k0,k1,k2,k3,some (.builtin n),k5]:=by
    obtain ⟨l⟩:=sl
    simp only at hs
    rw [hs]
   subst hsl
   have hN:=Heap.Ns.of_isNs (PySem.W.isNs_of_in X a_)
   exact ⟨bm,ns,nm,qn,bs,hd,sn,sub,ab,col,dd,k0,k1,k2,k3,k5,_,X _ _ ho,hN,xK X hN hni,PySem.W.tail_of_in X ht⟩
  ·cases q
 ·cases q
section
variable {X:Cx} {C f:Addr} {fd:FuncData} {ps:List Str} {sp:Sp} {x:Str} {p pos:Pos} {e:Expr} {es:List Expr} {t:TA} {k:Nat}
end
end L2
namespace L2
open PySem PySem.Spec PyProof.Rows
open PySem.SeqAt (shaped noMix noMixAll)
section
variable {X:Cx}
end
end L2
namespace L2
open PySem PySem.Spec PyProof.Rows
open PySem.SeqAt (shaped noMix noMixAll)
section
variable {X:Cx} {pins:List (Addr×Obj)} {σ:St} {H:Hp} {s:Shared}
theorem Dq {x:V} {u t:Value} (I:Inv X pins σ H s) (rx:RelV x u) (ty:jK X.K H x t):∃ HH:Heap->Prop,PySem.W.KitX X.K u t HH/\HH s.heap/\u≠.builtin "__main__.__loader__#opaque" := by
 cases ty with
 | cS=>cases (show u=Value.none from rx);exact ⟨_,PySem.W.kitx_none,True.intro,fun z=>nomatch z⟩
 | bl y=>cases (show u=Value.bool y from rx);exact ⟨_,PySem.W.kitx_bool,True.intro,fun z=>nomatch z⟩
 | int i=>obtain ⟨t,q⟩:=(show ∃ t,u=Value.int i t from rx);cases q;exact ⟨_,PySem.W.kitx_int,True.intro,fun z=>nomatch z⟩
 | str y=>obtain ⟨t,q⟩:=(show ∃ t,u=Value.str y t from rx);cases q;exact ⟨_,PySem.W.kitx_str,True.intro,fun z=>nomatch z⟩
 | FG y=>obtain ⟨t,q⟩:=(show ∃ t,u=Value.float y t from rx);cases q;exact ⟨_,PySem.W.kitx_float,True.intro,fun z=>nomatch z⟩
 | @lst a xs ea =>
  cases (show u=Value.ref a from rx)
  obtain ⟨_,_,n,_,h1⟩:=(show bP X.prog X.w H s.heap a (.lst xs) from I.a_ a _ ea)
  exact ⟨_,PySem.W.kitx_list,⟨_,h1,rfl⟩,fun z=>nomatch z⟩
 | @rK a ob xs ea =>
  cases (show u=Value.ref a from rx)
  obtain ⟨_,_,_,n,_,h1⟩:=(show bP X.prog X.w H s.heap a (.rK ob (.lst xs)) from I.a_ a _ ea)
  exact ⟨_,PySem.W.kitx_list,⟨_,h1,rfl⟩,fun z=>nomatch z⟩
 | @tup a xs ea =>
  cases (show u=Value.ref a from rx)
  obtain ⟨_,_,_,o,h1,h2,_⟩:=(show bP X.prog X.w H s.heap a (.tup xs) from I.a_ a _ ea)
  exact ⟨_,PySem.W.kitx_tuple,⟨o,h1,h2⟩,fun z=>nomatch z⟩
 | @dK a kvs ea =>
  cases (show u=Value.ref a from rx)
  obtain ⟨_,_,vs,_,o,es,ep,h1,h2,_⟩:=(show bP X.prog X.w H s.heap a (.dK kvs) from I.a_ a _ ea)
  exact ⟨_,PySem.W.kitx_dict,⟨o,h1,h2.1⟩,fun z=>nomatch z⟩
 | @dT a kvs ea =>
  cases (show u=Value.ref a from rx)
  obtain ⟨_,_,xs,_,o,es,ep,h1,h2,_⟩:=(show bP X.prog X.w H s.heap a (.dT kvs) from I.a_ a _ ea)
  exact ⟨_,PySem.W.kitx_dict,⟨o,h1,h2.1⟩,fun z=>nomatch z⟩
 | @ins a C dx fs ea cl ha hn Iz hm =>
  cases (show u=Value.ref a from rx)
  obtain ⟨mA,O,_⟩:=l9 I.a_ ea
  obtain ⟨od,J,_⟩:=O.look
  exact ⟨_,PySem.W.kitx_own (cl.get _) cl.hd ha hn Iz hm,J,fun z=>nomatch z⟩
end
section
variable {X:Cx}
def JI (K:PySem.W.Frag):List V->Hp->VK->Prop:=fun xs H Q=>∃ (x:V) (tp:Addr) (Ts:List String) (t:Value) (b:Bool),xs=[x,.ref tp]/\H tp=some (.tup (Ts.map V.ty))/\jK K H x t/\PySem.W.kitAny K t (Ts.map Value.type)=some b/\Q (.bl b) H
theorem yF:∀ {Ts:List String} {us:List Value},Vals (Ts.map V.ty) us->us=Ts.map Value.type
 | [],us,r=>by rw [List.map_nil] at r;cases r;rfl
 | T::Ts,us,r=>by
  rw [List.map_cons] at r
  cases r with
  | cons r1 r2 =>
   cases (show _=Value.type T from r1)
   rw [yF r2]
   rfl
theorem z7:dH X (.builtin "isinstance") (JI X.K):=by
 intro pins s σ H xs us Q I r h
 obtain ⟨x,tp,Ts,t,b,rfl,htp,ty,e,q⟩:=h
 cases r with
 | cons r1 r2 =>
  cases r2 with
  | cons r3 r4 =>
   cases r4
   cases (show _=Value.ref tp from r3)
   obtain ⟨HH,Z,p,ne⟩:=Dq I r1 ty
   obtain ⟨_,its,rv,o,h1,h2,n,h3⟩:=(show bP X.prog X.w H s.heap tp (.tup (Ts.map V.ty)) from I.a_ tp _ htp)
   have ei:=yF rv
   subst ei
   obtain ⟨cls,dd,data,sl⟩:=o
   dsimp only at h2 h3
   subst h2 h3
   exact PySem.W.kia_tup Z I.jx p h1 e ne fun tk=>⟨.bl b,H,I.tok tk,rfl,q⟩
theorem yf:∀ {bs:List Bool} {us:List Value},Vals (bs.map V.bl) us->us=bs.map Value.bool
 | [],us,r=>by rw [List.map_nil] at r;cases r;rfl
 | b::bs,us,r=>by
  rw [List.map_cons] at r
  cases r with
  | cons r1 r2 =>
   cases (show _=Value.bool b from r1)
   rw [yf r2]
   rfl
theorem GH:bootBuiltins "all" = some (.builtin "all"):=by decide +kernel
theorem zH (hc:X.calm=true):dH X (.builtin "all") (fun xs H Q=>∃ (a:Addr) (bs:List Bool),xs=[.ref a]/\i4 X.K H a (bs.map V.bl)/\Q (.bl (bs.all id)) H):=by
 intro pins s σ H xs us Q I r h
 obtain ⟨a,bs,rfl,hq,q⟩:=h
 cases r with
 | cons r1 r2 =>
  cases r2
  cases (show _=Value.ref a from r1)
  obtain ⟨its,rv,p,hz⟩:=I.list hq
  have ei:=yf rv
  subst ei
  have hl:=p.isList
  have hlt:a<s.heap.objs.size:=by obtain ⟨_,e,_⟩:=hl;exact Heap.lt_size e
  refine call_all_walk (wpAny_pyIter_list hl ?_)
  refine ⟨s.heap.objs.size,[s.heap.objs.size,a],[s.heap.objs.size],(bs.map Value.bool).toArray.size,_,_,fun i=>(bs[i]?).getD true,rfl,Walks.list (A:=X.A.in1) (I.ok.hd hc) _ a (Nat.ne_of_lt hlt) (bs.map Value.bool).toArray,
   ⟨⟨_,Heap.get?_push_size _ rfl,rfl,rfl⟩,hl.push _⟩,fun i v s' Q' E' hP hQ=>?_,fun h' tk hk=>?_⟩
  ·have hP':(bs.map Value.bool)[i]?=some v:=by simpa using hP
   rw [List.getElem?_map] at hP'
   obtain ⟨b,e1,e2⟩:=Option.map_eq_some_iff.mp hP'
   subst e2
   simp only [e1,Option.getD_some] at hQ
   exact wpAny_truthy_bool hQ
  ·have e:((List.range (bs.map Value.bool).toArray.size).all fun i=>(bs[i]?).getD true)=bs.all id:=by
    rw [List.size_toArray,List.length_map]
    rw [Bool.eq_iff_iff,List.all_eq_true,List.all_eq_true]
    constructor
    ·intro h b hb
     obtain ⟨i,hi,e⟩:=List.getElem_of_mem hb
     have:=h i (List.mem_range.mpr hi)
     simp only [List.getElem?_eq_getElem hi,Option.getD_some,e] at this
     exact this
    ·intro h i hi
     have hi':=List.mem_range.mp hi
     simp only [List.getElem?_eq_getElem hi',Option.getD_some]
     exact h _ (List.getElem_mem hi')
   rw [e]
   refine ⟨.bl _,H,I.kept (t':=tk) (fun b x e=>?_),rfl,q⟩
   exact hk b x (fun hm=>by rw [List.mem_singleton.mp hm] at e;exact Nat.lt_irrefl _ (Heap.lt_size e)) (Heap.get?_push_of_some _ e)
end
end L2
namespace L2
open PySem PySem.Spec PyProof.Rows
open PySem.MeetsSeq PySem.MeetsSeq2 PySem.MeetsSeq3
theorem mQ:fillsNumberSlot (.type "tuple") "mul" = pure false :=
 PySem.fillsNumberSlot_seq (id := "tuple.__mul__") (r:=some (.builtin "tuple.__rmul__")) F.slot_tuple_mul.lookup (by decide +kernel) F.slot_tuple_rmul.lookup (by decide +kernel)
theorem tN:seqRepeat? (.type "tuple")=pure (some (.builtin "tuple.__mul__")):=by
 unfold seqRepeat?
 rw [PySem.seqSlot_of (T := "tuple") (name := "__mul__") (id := "tuple.__mul__") F.slot_tuple_mul.lookup (by decide +kernel),PySem.seqSlot_of (T := "tuple") (name := "__rmul__") (id := "tuple.__rmul__") F.slot_tuple_rmul.lookup (by decide +kernel)]
 rfl
theorem uH (a:Int) (t:Tok) (l:Addr) (items:Array Value) (n:Nat) (dd:Option Addr) (sl:Array (Option Value)) :
  Meets (Builtin.«int.__rmul__» ⟨[.int a t,.ref l],[]⟩) (fun _ R s=>s.heap.get? l=some ⟨.type "tuple", dd,.seq items n,sl⟩/\R (.ok (.ret Value.notImplemented)) s) :=
 .of_wp fun prog w A R s h=>by obtain ⟨hp,g,d,tk,os⟩:=s;obtain ⟨hl,h⟩:=h;wp_walk;exact ⟨_,rfl,h⟩
theorem zJ (l:Addr) (items:Array Value) (n:Nat) (dd:Option Addr) (sl:Array (Option Value)) (u:Tok) :
  Meets (Builtin.«tuple.__mul__» ⟨[.ref l,.int 1 u],[]⟩) (fun _ R s=>s.heap.get? l=some ⟨.type "tuple", dd,.seq items n,sl⟩/\R (.ok (.ret (.ref l))) s) :=
 .of_wp fun prog w A R s h=>by
  obtain ⟨hp,g,d,tk,os⟩:=s;obtain ⟨hl,h⟩:=h;have f1:=AutoSeq1.idx_int;have f2:=AutoSeq1.sub_tuple_tuple
  wp_walk using AutoSeq1.wpAny_loadPart' hl
  exact ⟨_,rfl,h⟩
theorem yP (l:Addr) (items:Array Value) (n:Nat) (dd:Option Addr) (sl:Array (Option Value)) (x:Int) (u:Tok) (c0:¬ (decide (x < -2^63)||decide (x>=2^63))=true) (c1:¬ (items.isEmpty||x==1)=true) (c2:¬ (decide (x<=0)||items.isEmpty)=true)
  (c3:¬ (items.size:Int)*x>(2^63-1)/8) (c4:¬ Builtin.Tuple.tupleTooMany ((items.size:Int)*x)=true) (hsz:(List.foldl (fun x1 x2=>x1++x2) #[] (List.replicate x.toNat items)).size<=sizeLine) :
  Meets (Builtin.«tuple.__mul__» ⟨[.ref l,.int x u],[]⟩) (fun _ R s=>s.heap.get? l=some ⟨.type "tuple", dd,.seq items n,sl⟩/\R (.ok (.ret (.ref s.heap.objs.size))) { s with heap:=s.heap.push { cls:=.type "tuple", data:=.seq (List.foldl (fun x1 x2=>x1++x2) #[] (List.replicate x.toNat items)) },toks:=s.toks }) :=
 .of_wp fun prog w A R s h=>by
  obtain ⟨hp,g,d,tk,os⟩:=s;obtain ⟨hl,h⟩:=h;have f1:=AutoSeq1.idx_int;have f2:=AutoSeq1.sub_tuple_tuple
  wp_walk using AutoSeq1.wpAny_loadPart' hl
  refine wpAny_ite_false (decide_eq_false c0) ?_;wp_walk using AutoSeq1.wpAny_loadPart' hl
  refine wpAny_ite_false (decide_eq_false c3) ?_;wp_walk using AutoSeq1.wpAny_loadPart' hl
  exact ⟨_,rfl,h⟩
theorem za (l:Addr) (items:Array Value) (n:Nat) (dd:Option Addr) (sl:Array (Option Value)) (x:Int) (u:Tok) (c0:¬ (decide (x < -2^63)||decide (x>=2^63))=true) (c1:¬ (items.isEmpty||x==1)=true) (c2:(decide (x<=0)||items.isEmpty)=true) :
  Meets (Builtin.«tuple.__mul__» ⟨[.ref l,.int x u],[]⟩) (fun _ R s=>s.heap.get? l=some ⟨.type "tuple", dd,.seq items n,sl⟩/\R (.ok (.ret (.ref s.heap.objs.size))) { s with heap:=s.heap.push { cls:=.type "tuple", data:=.seq #[] },toks:=s.toks }) :=
 .of_wp fun prog w A R s h=>by
  obtain ⟨hp,g,d,tk,os⟩:=s;obtain ⟨hl,h⟩:=h;have f1:=AutoSeq1.idx_int;have f2:=AutoSeq1.sub_tuple_tuple
  wp_walk using AutoSeq1.wpAny_loadPart' hl
  refine wpAny_ite_false (decide_eq_false c0) ?_;wp_walk using AutoSeq1.wpAny_loadPart' hl
  exact ⟨_,rfl,h⟩
section
variable {X:Cx}
def Fz (K:PySem.W.Frag):R2:=fun x y H Q=>∃ a k xs,x=.ref a/\y=.int k/\gT K H a xs/\xs≠[]/\-(2^63)<=k/\k<2^63/\xs.length*k.toNat<=sizeLine/\(k=1->Q (.ref a) H)/\(k≠1->∀ p,H p=none->Q (.ref p) (upd H p (.tup (List.replicate k.toNat xs).flatten)))
theorem Dv:gf X (binaryOp .Mult) (Fz X.K):=by
 intro pins s σ H x y v u Q I rx ry h
 obtain ⟨a,k,xs,rfl,rfl,hq,hne,h1,h2,hz,q1,q2⟩:=h
 cases rx
 obtain ⟨t,rfl⟩:=ry
 obtain ⟨its,r,⟨o,e,hc,n,hd⟩,_⟩:=I.tuple hq
 obtain ⟨cls,dd,data,sl⟩:=o
 dsimp only at hc hd
 subst hc hd
 have hl:=r.length
 refine wpAny_binaryOp_repeat_ref (T := "tuple") (U := "int") (by decide) ⟨_,e,rfl⟩ (fun s'=>typeIs_int s' k t) mQ F.fills_int_mul F.slot_int_rmul tN F.slot_int_index.lookup
  (call_meets F.slot_int_rmul (typeIs_int s k t) F.entry_int_rmul (F.args_int_rmul_2 _ _) (uH k t a its.toArray n dd sl) ⟨e,rfl,⟨_,e,rfl⟩,?_⟩)
 by_cases hk1:k=1
 ·subst hk1
  exact call_meets F.slot_tuple_mul ⟨_,e,rfl⟩ F.entry_tuple_mul (F.args_tuple_mul_2 _ _) (zJ a its.toArray n dd sl t) ⟨e,⟨.ref a,H,I,rfl,q1 rfl⟩⟩
 ·have hb1:(k==1)=false:=by simpa using hk1
  have hni:its≠[]:=fun z=>hne (r.mK.mp z)
  have hie:its.toArray.isEmpty=false:=by cases its with | nil=>exact absurd rfl hni | cons _ _=>rfl
  have c0:¬ (decide (k < -2^63)||decide (k>=2^63))=true:=by simp;omega
  have c1:¬ (its.toArray.isEmpty||k==1)=true:=by rw [hie,hb1];simp
  have fin:∀ ys,ys=(List.replicate k.toNat its).flatten.toArray->EP X pins σ Q (.ref s.heap.objs.size) { s with heap:=s.heap.push { cls:=.type "tuple", data:=.seq ys },toks:=s.toks }:=fun ys ey=>by
   subst ey
   refine ⟨.ref s.heap.objs.size,_,I.laid (t':=s.toks) (o:=.tup (List.replicate k.toNat xs).flatten) (fun b ob q=>Heap.get?_push_of_some _ q) (Nat.le_refl _) ?_,rfl,q2 hk1 _ (I.a_.fresh (Nat.le_refl _))⟩
   exact ⟨by rw [len_rep,Nat.mul_comm];exact hz,_,r.rep k.toNat,IsTup.new _ _⟩
  have hnew:List.foldl (fun x1 x2=>x1++x2) #[] (List.replicate k.toNat its.toArray)=(List.replicate k.toNat its).flatten.toArray:=by
   have:=foldl_rep its k.toNat []
   rw [List.nil_append] at this
   exact this
  by_cases hk0:k<=0
  ·have c2:(decide (k<=0)||its.toArray.isEmpty)=true:=by rw [decide_eq_true hk0];rfl
   refine call_meets F.slot_tuple_mul ⟨_,e,rfl⟩ F.entry_tuple_mul (F.args_tuple_mul_2 _ _) (za a its.toArray n dd sl k t c0 c1 c2) ⟨e,fin _ ?_⟩
   rw [show k.toNat=0 by omega]
   rfl
  ·have c2:¬ (decide (k<=0)||its.toArray.isEmpty)=true:=by rw [decide_eq_false hk0,hie];simp
   have em:((its.toArray.size:Nat):Int)*k=((xs.length*k.toNat:Nat):Int):=by
    rw [List.size_toArray,← hl,Int.natCast_mul,Int.toNat_of_nonneg (by omega)]
   have hs:(sizeLine:Int)<=(2^63-1)/8:=by decide
   refine call_meets F.slot_tuple_mul ⟨_,e,rfl⟩ F.entry_tuple_mul (F.args_tuple_mul_2 _ _) (yP a its.toArray n dd sl k t c0 c1 c2 ?_ ?_ ?_) ⟨e,fin _ hnew⟩
   ·rw [em];omega
   ·rw [em]
    unfold Builtin.Tuple.tupleTooMany
    simp only [decide_eq_true_eq]
    omega
   ·rw [hnew,List.size_toArray,len_rep,Nat.mul_comm,← hl]
    exact hz
end
end L2
namespace L2
open PySem PySem.Spec PyProof.Rows
structure aE (K:PySem.W.Frag) (x qual:Str) (st:Stmt) (dv:Value) (f:Addr) (fd:FuncData):Prop where
 ex:∃ (oc:Value) (od:Option Addr) (kV doc pm:Value) (an:Option Addr) (cdv ct:Value) (osl:Array (Option Value)),
  fd=PySem.W.fnOf x qual (g9 st) (ff st) (au st) dv kV doc pm an cdv ct/\K.lookup f=some ⟨oc,od,.func fd,osl⟩/\PySem.W.codeIn K cdv qual=true
 kp:PySem.W.keepIn K (.ref f)=true
section
variable {P:Program} {w:World} {K:PySem.W.Frag} {mg:Str->Option Value} {base:Heap}
theorem aE.binds {x qual:Str} {st:Stmt} {T:Addr} {o:Obj} {items:Array Value} {n:Nat} {f:Addr} {fd:FuncData} {ps:List Str} {ds:List Value} (F:aE K x qual st (.ref T) f fd) (ho:K.lookup T=some o) (hs:o.data=.seq items n)
  (h:∀ (kV doc pm:Value) (an:Option Addr) (cdv ct:Value) (us:List Value),(us++ds).length=ps.length->∃ k,bindArgs (PySem.W.fnOf x qual (g9 st) (ff st) (au st) (.ref T) kV doc pm an cdv ct) ⟨us,[]⟩=seqItems? (.ref T) >>= k/\k (some items)=pure (ps.zip (us++ds))):Binds K fd ps ds:=by
 obtain ⟨oc,od,kV,doc,pm,an,cdv,ct,osl,rfl,lk,hcd⟩:=F.ex
 intro s us X hl
 obtain ⟨k,h1,h2⟩:=h kV doc pm an cdv ct us hl
 exact BindsTo.of_defaults rfl (X _ _ ho) hs h1 h2
end
theorem IM {X:Cx} {x:Str} {v:V} {pos:Pos} (hg:Gl X x) (hm:∃ u,X.mg x=some u/\RelV v u) (hd:(x==("__debug__" : Str))=false:=by decide):PE X (.Name x pos) (tC v):=by
 obtain ⟨u,h1,h2⟩:=hm
 exact EG hg h1 h2 hd
theorem GC:bootBuiltins "max" = some (.builtin "max"):=by decide +kernel
end L2
namespace L2
open PySem PySem.Spec PyProof.Rows
theorem Bc {X : Cx} {tg elt iter : Expr} {ifs : List Expr} {scope : Scope} {cl : List (Str × Addr)} {pos cpos : Pos} {wi : TI} {g : TG} {tt : Option TT} {te : TE} {ts fs : List Str} {js : List Nat} (hcalm : X.calm = true)
    (hclos : closureFor scope X.env = pure cl) (hk : scope.kind = .function) (nc : iK scope.names = true) (lo : kT scope.names = true) (fh : kP cl scope.names = true) (ag : fG X cl) (fr : iP X scope cl fs js)
    (hi : PI X tg iter wi) (hg : ∀ C s₀ H₀ ex pins, PG (vi X scope cl (ts ++ fs) C s₀ H₀ ex pins) tg g)
    (ht : ∀ C s₀ H₀ ex pins, match ifs, tt with | [], none => True | [c], some t => PT (vi X scope cl (ts ++ fs) C s₀ H₀ ex pins) c t | _, _ => False)
    (he : ∀ C s₀ H₀ ex pins, PE (vi X scope cl (ts ++ fs) C s₀ H₀ ex pins) elt te)
    (hs : ∀ x, foldedSetIterable iter X.env x = pure x) {pins : List (Addr × Obj)} {s : Shared} {σ : St} {H : Hp} {Q : VK} (I : Inv X pins σ H s) (h : AG wi g tt te ts js σ H Q)
    (use : Option (Value -> Sem Unit)) (Qv : Value -> Shared -> Prop)
    (FN : ∀ (D : Addr) (H' : Hp) (s' : Shared) (C : Addr), Inv X pins σ H' s' -> Q (.ref D) H' -> (∃ m, s'.heap.Ns C m) -> lQ X pins H' C -> compPost (model X.prog X.w) X.A X.xe use Qv (.ref D) C (.ok .next) s') :
    wpAny (model X.prog X.w) X.A (comprehension (.ListComp elt [⟨tg, iter, ifs, 0⟩] scope pos) scope X.env cpos (newList []) false (eval iter X.env) use) Qv X.xe s := by
  have hcell : ∀ y ∈ scope.names, y.2 ≠ .cell := fun y hy => by
    have := List.all_eq_true.mp nc y hy
    simpa using this
  have hnames : ∀ y ∈ scope.names, y.2 = .local -> scope.names.lookup y.1 = some .local := fun y hy hl => by
    have := List.all_eq_true.mp lo y hy
    rw [hl] at this
    simpa using this
  refine wpAny_comprehension_free (use := use) rfl hs hclos hk hnames (bJ (hi pins s σ H _ I h) fun v s1 h1 => bJ h1 fun itv s2 h2 => ?_)
  obtain ⟨it, fp, tn, J, H1, e, I2, T, st2, f2, hJ⟩ := h2
  subst e
  refine wpAny_newObj_type (wpAny_newFunctionEnv hcell (by intro y hy; simp at hy) (fun h₁ hns₁ hsb₁ => ?_) hk)
  dsimp only at hns₁ hsb₁ ⊢
  generalize hH2 : s2.heap.push { cls := .type "list", dict := none, data := .seq ([] : List Value).toArray } = G at hns₁ hsb₁ ⊢
  have hC : G.objs.size = s2.heap.objs.size + 1 := by rw [← hH2, Heap.size_push]
  have old : ∀ b o, s2.heap.get? b = some o -> h₁.get? b = some o := fun b o e => by
    have hb := Heap.lt_size e
    refine hsb₁.extBut b o (Nat.ne_of_lt (Nat.lt_of_lt_of_le hb (Nat.le_of_lt (by rw [hC]; exact Nat.lt_succ_self _)))) (Heap.get?_push_of_some _ ?_)
    rw [← hH2]
    exact Heap.get?_push_of_some _ e
  have hacc : h₁.get? s2.heap.objs.size = some { cls := .type "list", dict := none, data := .seq #[] } := by
    refine hsb₁.extBut _ _ (Nat.ne_of_lt (by rw [hC]; exact Nat.lt_succ_self _)) (Heap.get?_push_of_some _ ?_)
    rw [← hH2]
    exact Heap.get?_push_size _ rfl
  have nD : H1 s2.heap.objs.size = none := I2.a_.fresh (Nat.le_refl _)
  have nC : H1 G.objs.size = none := I2.a_.fresh (by omega)
  obtain ⟨W, ⟨m0, w0⟩, turn⟩ := hJ _ nD
  have hfpS : ∀ b ∈ fp, b < s2.heap.objs.size := fun b hb => by
    obtain ⟨o, e, _⟩ := T.obj _ _ st2 b hb
    exact Heap.lt_size e
  have ltk : ∀ (x : Str) (c : Addr), cl.lookup x = some c -> c < s2.heap.objs.size /\ H1 c = none /\ (∃ v, s2.heap.IsCell c v) := fun x c e => by
    have e' := ag.at x c e
    obtain ⟨v, q⟩ := I2.cell x c e'
    exact ⟨q.lt, I2.fx x c e', v, q⟩
  let X' := vi X scope cl (ts ++ fs) G.objs.size s2 H1 fp pins
  have okX : X'.Ok := by
    refine ⟨I2.ok.mod, hk, I2.ok.glob, I2.ok.blt, by show s2.heap.objs.size <= G.objs.size; omega, fun x y c e1 e2 => I2.ok.inj x y c (ag.at x c e1) (ag.at y c e2), fun x hx => ?_, fun x c hf _ => (nomatch (show (false : Bool) = true from hf)), I2.ok.hd, I2.ok.frames, .inl rfl, fun b hb => ⟨?_, fun x c e z => ?_⟩, fun b o e => I2.bs b o e, Nat.le_trans I2.ok.Ao I2.sz, fun b o e hb => ?_, fun b hb hz => ?_, I2.stack, fun b hb => I2.o_ b hb⟩
    · have hfree := jJ (env := X.env) hx nc
      have hm : ∃ y ∈ scope.names, y.1 = x /\ y.2 = .free := by
        have : ∀ (l : List (Str × NameKind)), l.lookup x = some .free -> ∃ y ∈ l, y.1 = x /\ y.2 = .free := by
          intro l
          induction l with
          | nil => intro h; simp at h
          | cons p r ih =>
            intro h
            rw [List.lookup_cons] at h
            cases q : x == p.1 with
            | true =>
              rw [q] at h
              exact ⟨p, List.mem_cons_self, (by simpa using q : x = p.1).symm, Option.some.inj h⟩
            | false =>
              rw [q] at h
              obtain ⟨y, hy, r1, r2⟩ := ih h
              exact ⟨y, List.mem_cons_of_mem _ hy, r1, r2⟩
        exact this _ hfree
      obtain ⟨y, hy, r1, r2⟩ := hm
      have := List.all_eq_true.mp fh y hy
      rw [r2] at this
      have h' : (cl.lookup y.1).isSome = true := by simpa using this
      rw [r1] at h'
      exact Option.isSome_iff_exists.mp h'
    · exact Nat.ne_of_lt (Nat.lt_of_lt_of_le (hfpS b hb) (by show s2.heap.objs.size <= G.objs.size; omega))
    · exact (f2 b hb).2.2.2.2.1 x c (ag.at x c e) z
    · obtain ⟨_, _, _, f3, _, _⟩ := f2 b hb
      rcases f3 with z | z
      · exact I2.ok.rG b o e z
      · exact absurd (Nat.lt_of_lt_of_le (Heap.lt_size (I2.ok.bs b o e).1) z) (Nat.lt_irrefl _)
    · rcases List.mem_cons.mp (I2.nM b hz) with z | z
      · exact (f2 b hb).2.1 z
      · exact (f2 b hb).2.2.1 z
  have keepB : ∀ b o, s2.heap.get? b = some o -> h₁.get? b = some o := old
  have I3 : Inv X' [] (dj ts js σ) (upd H1 s2.heap.objs.size (.lst [])) { s2 with heap := h₁, toks := s2.toks + ([] : List (Str × Value)).length } := by
    have neD : ∀ b o, s2.heap.get? b = some o -> b ≠ s2.heap.objs.size := fun b o e => Nat.ne_of_lt (Heap.lt_size e)
    refine ⟨okX, rfl, I2.bare, ⟨fun b o e n hb hx => old b o e, fun b o e n hb hx => ⟨o.slots, old b o e⟩, fun b o e n hx => by rw [ar (neD b o e)]; exact n, fun b o e hx => ⟨o, old b o e⟩, fun b xs e => ?_, fun b o u e => ?_, fun b ps e => ?_⟩, ⟨_, hns₁, fun i x v e1 e2 e3 => ?_⟩, fun x c e => ?_, ?_, fun x c e => ?_, fun p hp => ?_, ?_, ?_⟩
    · rw [ar (aS e nD)]; exact e
    · rw [ar (aS e nD)]; exact e
    · exact ⟨#[], by rw [ar (aS e nD)]; exact Eq.trans e (by simp)⟩
    ·
      have hlen : (ts.map (fun _ => (none : Option V))).length = ts.length := List.length_map _
      unfold dj at e2
      by_cases hlt : i < ts.length
      · rw [List.getElem?_append_left (by rw [hlen]; exact hlt), List.getElem?_map] at e2
        cases q : ts[i]? <;> rw [q] at e2 <;> cases e2
      · rw [List.getElem?_append_right (by rw [hlen]; omega), hlen] at e2
        have e1' : fs[i - ts.length]? = some x := by
          have e1' : (ts ++ fs)[i]? = some x := e1
          rw [List.getElem?_append_right (by omega)] at e1'
          exact e1'
        have all : ∀ {fs : List Str} {js : List Nat}, iP X scope cl fs js -> ∀ k : Nat, fs[k]? = some x -> (js.map fun j => (σ[j]?).join)[k]? = some (some v) ->
            ∃ (j : Nat) (c : Addr), X.N[j]? = some x /\ σ[j]? = some (some v) /\ (X.env.kindOf x = some .cell \/ X.env.kindOf x = some .free) /\ X.env.cells.lookup x = some c /\ cl.lookup x = some c /\ scope.names.lookup x = some .free := by
          intro fs js r
          induction r with
          | nil => intro k e; simp at e
          | @cons y j c fs js hN hf hv hc hl r ih =>
            intro k e e'
            cases k with
            | zero =>
              have e0 : y = x := by simpa using e
              subst e0
              have e0' : (σ[j]?).join = some v := by simpa using e'
              refine ⟨j, c, hN, ?_, hv, hc, hl, hf⟩
              cases q : σ[j]? with
              | none => rw [q] at e0'; cases e0'
              | some z => rw [q] at e0'; cases z with
                | none => cases e0'
                | some z => have : z = v := by simpa using e0'
                            rw [this]
            | succ k => exact ih k (by simpa using e) (by simpa using e')
        obtain ⟨j, c, q1, q2, q3, q4, q5, q6⟩ := all fr (i - ts.length) e1' e2
        obtain ⟨m, hn, hl⟩ := I2.loc
        have vis : BB X.env.scope x := by
          rcases q3 with z | z
          · exact .inr (.inl z)
          · exact .inr (.inr z)
        obtain ⟨u, ru, lk⟩ := hl j x v q1 q2 vis
        refine ⟨u, ru, .inr ⟨?_, c, q5, ?_⟩⟩
        · rcases e3 with z | z | z
          · exfalso
            have key : ∀ (l : List (Str × NameKind)), (l.map fun (n, k) => if (k == NameKind.free && X.env.scope.kind == .function && X.env.kindOf n == some .cell) then (n, NameKind.cell) else (n, k)).lookup x = some .local -> l.lookup x = some .local := by
              intro l
              induction l with
              | nil => intro h; simp at h
              | cons p r ih =>
                obtain ⟨n, k⟩ := p
                intro h
                rw [List.map_cons] at h
                dsimp only at h
                by_cases hc : (k == NameKind.free && X.env.scope.kind == .function && X.env.kindOf n == some .cell) = true
                · rw [if_pos hc] at h
                  rw [List.lookup_cons] at h ⊢
                  cases q : x == n with
                  | true => rw [q] at h; cases h
                  | false => rw [q] at h; exact ih h
                · rw [if_neg hc] at h
                  rw [List.lookup_cons] at h ⊢
                  cases q : x == n with
                  | true => rw [q] at h; exact h
                  | false => rw [q] at h; exact ih h
            have := key _ z
            rw [q6] at this
            cases this
          · exact .inl z
          · exact .inr z
        · rcases lk with ⟨k, _⟩ | ⟨_, c', e4, z⟩
          · rcases q3 with z | z <;> rw [z] at k <;> cases k
          · rw [q4] at e4
            cases e4
            obtain ⟨o, ho, hd⟩ := z
            exact ⟨o, old c o ho, hd⟩
    · obtain ⟨_, _, v, o, ho, hd⟩ := ltk x c e
      exact ⟨v, o, old c o ho, hd⟩
    · show upd H1 s2.heap.objs.size (.lst []) G.objs.size = none
      rw [ar (Nat.ne_of_gt (by rw [hC]; exact Nat.lt_succ_self _))]; exact nC
    · obtain ⟨q1, q2, _⟩ := ltk x c e
      rw [ar (Nat.ne_of_lt q1)]; exact q2
    · have hp' : p ∈ X.pn ++ pins := by
        have : p ∈ (X.pn ++ pins) ++ [] := hp
        rwa [List.append_nil] at this
      obtain ⟨e, n, ne, nf, d⟩ := I2.pin p hp'
      have hlt := Heap.lt_size e
      refine ⟨old _ _ e, by rw [ar (Nat.ne_of_lt hlt)]; exact n, ?_, fun hz => ?_, d⟩
      · show p.1 ≠ G.objs.size
        exact Nat.ne_of_lt (Nat.lt_trans hlt (by rw [hC]; exact Nat.lt_succ_self _))
      · rcases List.mem_cons.mp (I2.nM _ hz) with z | z
        · exact ne z
        · exact nf z
    · exact I2.a_.laid old (Nat.le_refl _) ⟨Nat.zero_le _, [], 0, .nil, hacc⟩
    · show (dj ts js σ).length = (ts ++ fs).length
      have frl : ∀ {fs : List Str} {js : List Nat}, iP X scope cl fs js -> fs.length = js.length := by
        intro fs js r
        induction r with
        | nil => rfl
        | cons _ _ _ _ _ _ ih => rw [List.length_cons, List.length_cons, ih]
      unfold dj
      rw [List.length_append, List.length_append, List.length_map, List.length_map, frl fr]
  have stat : ∀ {H' : Hp}, (∀ b ∈ fp, H' b = none) -> ∀ b ∈ fp, lQ X' [] H' b := fun {H'} hn b hb => by
    obtain ⟨_, f1, f3, _, f4, f5⟩ := f2 b hb
    refine ⟨hn b hb, okX.FJ b hb |>.1, okX.tF b hb, .inl hb, fun x c e => f4 x c (ag.at x c e), fun p hp => f5 p ?_⟩
    have : p ∈ (X.pn ++ pins) ++ [] := hp
    rwa [List.append_nil] at this
  have fin : ∀ {σ' : St} {H' : Hp} {s' : Shared}, Inv X' [] σ' H' s' -> Q (.ref s2.heap.objs.size) H' ->
      compPost (model X.prog X.w) X.A X.xe use Qv (.ref s2.heap.objs.size) G.objs.size (.ok .next) s' := by
    intro σ' H' s' I4 q
    obtain ⟨m, hn, _⟩ := I4.loc
    have fC : H' G.objs.size = none := I4.free
    have Io : Inv X pins σ H' s' := by
      refine I2.x_ (s' := s') (ch := fp) I4.os ⟨fun b o e n hb hx => ?_, fun b o e n hb hx => ?_, fun b o e n hx => I4.base.free b o e n hx, fun b o e hx => ?_, I4.base.oJ, I4.base.lh, I4.base.oI⟩ I4.a_ I4.bare fun b hb => ?_
      · exact I4.base.keep b o e n hb hx
      · exact I4.base.slot b o e n hb hx
      · exact I4.base.there b o e hx
      · obtain ⟨_, f1, _, f3, f4, f5⟩ := f2 b hb
        exact ⟨f3, f1, f4, f5⟩
    have hCl : s2.heap.objs.size <= G.objs.size := by rw [hC]; exact Nat.le_succ _
    exact FN _ H' s' _ Io q ⟨m, hn⟩ (I2.tZ hCl fC)
  have loop : ∀ s3 : Shared, s3 = { s2 with heap := h₁, toks := s2.toks + ([] : List (Str × Value)).length } ->
      codeAny (model X.prog X.w) X.A (.compLoop (.ListComp elt [⟨tg, iter, ifs, 0⟩] scope pos) 0 (.ref it) (.ref s2.heap.objs.size) (compEnvC scope cl G.objs.size X.env))
        (compPost (model X.prog X.w) X.A X.xe use Qv (.ref s2.heap.objs.size) G.objs.size) s3 := by
    rintro s3 rfl
    refine r6 (fun n s' => ∃ i σ' H', Inv X' [] σ' H' s' /\ tn i s'.heap /\ (∀ b ∈ fp, H' b = none) /\ W i n σ' H') ?_ m0 ⟨0, _, _, I3, T.keep _ _ _ st2 fun b _ o e => old b o e, fun b hb => ?_, w0⟩
    · rintro n s3 ⟨i, σ3, H3, I3, st3, fr3, w3⟩
      rcases turn i n σ3 H3 w3 with ⟨stop, qn⟩ | ⟨go, N, hN, step⟩
      · refine bJ (T.done X' rfl rfl rfl hcalm i [] s3 σ3 H3 _ I3 (stat fr3) st3 stop) fun r s4 ⟨hr, I4⟩ => ?_
        subst hr
        exact fin I4 qn
      · refine bJ (T.item X' rfl rfl rfl hcalm i [] s3 σ3 H3 _ I3 (stat fr3) st3 go) fun r s4 ⟨u, hr, h4⟩ => ?_
        subst hr
        refine bJ h4 fun _ s5 ⟨x, H5, I5, r5, y5, st5, fr5⟩ => ?_
        have I5' := I5.pinned (stat fr5) (T.obj _ _ st5)
        refine bJ (hg _ _ _ _ _ _ s5 σ3 H5 x u _ I5' r5 (step x H5 y5)) fun _ s6 ⟨σ6, H6, I6, q6⟩ => ?_
        have again : ∀ {σ7 : St} {H7 : Hp} {s7 : Shared}, Inv X' ([] ++ jY fp s5.heap) σ7 H7 s7 -> N σ7 H7 -> ∃ m, m < n /\ ∃ i σ' H', Inv X' [] σ' H' s7 /\ tn i s7.heap /\ (∀ b ∈ fp, H' b = none) /\ W i m σ' H' := fun {σ7 H7 s7} I7 n7 => by
          obtain ⟨m', hm, w7⟩ := hN σ7 H7 n7
          refine ⟨m', hm, i + 1, σ7, H7, I7.kx, T.keep _ _ _ st5 fun b hb o e => (I7.pin (b, o) (List.mem_append_right _ (List.mem_append_right _ (eX hb e)))).1, fun b hb => ?_, w7⟩
          obtain ⟨o, e, d⟩ := T.obj _ _ st5 b hb
          exact (I7.pin (b, o) (List.mem_append_right _ (List.mem_append_right _ (eX hb e)))).2.1
        have tail : ∀ {H7 : Hp} {s7 : Shared}, Inv X' ([] ++ jY fp s5.heap) σ6 H7 s7 -> (te σ6 H7 fun y H4 => ∃ ys, H4 s2.heap.objs.size = some (.lst ys) /\ ys.length < sizeLine /\ N σ6 (upd H4 s2.heap.objs.size (.lst (ys ++ [y])))) ->
            wpAny (model X.prog X.w) X.A (eval elt (compEnvC scope cl G.objs.size X.env)) (fun x s₅ => wpAny (model X.prog X.w) X.A (call (.builtin "list.append") [.ref s2.heap.objs.size, x])
              (fun _ s₆ => ∃ m, m < n /\ ∃ i σ' H', Inv X' [] σ' H' s₆ /\ tn i s₆.heap /\ (∀ b ∈ fp, H' b = none) /\ W i m σ' H') (fun _ _ => False) s₅) (fun _ _ => False) s7 := by
          intro H7 s7 I7 q7
          refine bJ (he _ _ _ _ _ _ s7 σ6 H7 _ I7 q7) fun uy s8 ⟨y, H8, I8, ry, ys, hy, hl, q8⟩ => ?_
          refine bJ (nI (X := X') _ s8 σ6 H8 (.ref s2.heap.objs.size) [y] (.ref s2.heap.objs.size) [uy] (fun _ H9 => N σ6 H9) I8 rfl (.cons ry .nil) ⟨_, ys, y, rfl, rfl, hy, hl, q8⟩) fun _ s9 ⟨_, H9, I9, _, q9⟩ => ?_
          exact again I9 q9
        cases ifs with
        | nil =>
          cases tt with
          | none => exact wpAny_tests_nil (tail I6 q6)
          | some t => exact (ht 0 s2 H1 [] []).elim
        | cons c r =>
          cases r with
          | nil =>
            cases tt with
            | none => exact (ht 0 s2 H1 [] []).elim
            | some t =>
              refine wpAny_tests_one (bJ (ht G.objs.size s2 H1 fp pins _ s6 σ6 H6 _ I6 q6) fun b s7 ⟨H7, I7, q7⟩ => ?_)
              cases b with
              | true =>
                rw [if_pos rfl] at q7 ⊢
                exact tail I7 q7
              | false =>
                rw [if_neg Bool.false_ne_true] at q7 ⊢
                exact again I7 q7
          | cons _ _ => cases tt <;> exact (ht 0 s2 H1 [] []).elim
    · rw [ar (Nat.ne_of_lt (hfpS b hb))]
      exact (f2 b hb).1
  exact codeAny_compStart_list (loop _ rfl) (T.self _ 0 _ _ _ (T.keep _ _ _ st2 fun b _ o e => old b o e) (loop _ rfl))
theorem Inv.other {X:Cx} {pins:List (Addr×Obj)} {σ:St} {H:Hp} {s:Shared} {C:Addr} {h':Heap} (I:Inv X pins σ H s) (f:lQ X pins H C) (hs:Heap.SameBut C s.heap h'):Inv X pins σ H { s with heap:=h' }:=by
 obtain ⟨f0,f1,_,f3,f4,f5⟩:=f
 refine I.x_ (s':={ s with heap:=h' }) (ch:=[C]) rfl ⟨fun b o e n hb hx=>?_,fun b o e n hb hx=>?_,fun b o e n hx=>n,fun b o e hx=>?_,fun _ _ q=>q,fun _ _ _ q=>q,fun b ps q=>⟨#[],by rw [q];simp⟩⟩ (fun b u e=>?_) I.bare fun b hb=>?_
 ·exact (hs.2 b (fun z=>hx (by rw [z];exact List.mem_singleton.mpr rfl))).trans e
 ·exact ⟨o.slots,(hs.2 b (fun z=>hx (by rw [z];exact List.mem_singleton.mpr rfl))).trans e⟩
 ·exact ⟨o,(hs.2 b (fun z=>hx (by rw [z];exact List.mem_singleton.mpr rfl))).trans e⟩
 ·refine (I.a_ b u e).lN (fun c v hc q=>(hs.2 c ?_).trans q) (fun _ q=>q) fun _ _ q=>q
  rcases hc with z | z
  ·rw [z];exact aS e f0
  ·exact aS z f0
 ·rw [List.mem_singleton.mp hb]
  exact ⟨f3,f1,f4,f5⟩
theorem Eg {X:Cx} {tg elt iter:Expr} {scope:Scope} {cl:List (Str×Addr)} {pos spos py:Pos} {i:Nat} {y:Str} {wi:TI} {g:TG} {te:TE} {ts fs:List Str} {js:List Nat} (hN:X.N.Nodup) (hiy:X.N[i]?=some y) (hy:Loc X.env.scope y) (hcalm:X.calm=true)
  (hclos:closureFor scope X.env=pure cl) (hk:scope.kind=.function) (nc:iK scope.names=true) (lo:kT scope.names=true) (fh:kP cl scope.names=true) (ag:fG X cl) (fr:iP X scope cl fs js)
  (hi:PI X tg iter wi) (hg:∀ C s₀ H₀ ex pins,PG (vi X scope cl (ts++fs) C s₀ H₀ ex pins) tg g) (he:∀ C s₀ H₀ ex pins,PE (vi X scope cl (ts++fs) C s₀ H₀ ex pins) elt te)
  (hs:∀ x,foldedSetIterable iter X.env x=pure x:=by intro _;rfl) (hsw:swapsWith (.ListComp elt [⟨tg,iter,[],0⟩] scope pos) (some (.Name y py)) spos.line X.env=pure true:=by rfl)
  (hf:X.fn y=true\/X.env.scope.names.lookup y=some .local:=by first | exact .inl rfl | exact .inr rfl | assumption) :
  PS X (.Assign [.Name y py] (.ListComp elt [⟨tg,iter,[],0⟩] scope pos) spos) (Gz (xH wi g te ts js) (aF i)):=by
 intro pins s σ H D I h
 rw [exec_Assign_Name_used _ _ _ _ hsw]
 refine wpAny_bind (wpAny_standAt (wpAny_bind ?_))
 show wpAny _ X.A (do let _ ← comprehension (.ListComp elt [⟨tg,iter,[],0⟩] scope pos) scope X.env _ (newList []) false (eval iter X.env) (some (assign (.Name y py) X.env))) _ _ s
 refine wpAny_bind (wpAny_mono (Bc (tt:=none) hcalm hclos hk nc lo fh ag fr hi hg (fun _ _ _ _ _=>trivial) he hs I (show AG wi g none te ts js σ H (fun x H1=>D.nx (σ.set i (some x)) H1) from h) (some (assign (.Name y py) X.env)) (fun _ s'=>SP X pins D .next s') fun Dd H' s' C Io q hm f=>?_) (fun _ s' hq=>wpAny_pure (wpAny_pure hq)) fun _ _ e=>e)
 show wpAny _ X.A (assign (.Name y py) X.env (.ref Dd)) _ _ s'
 refine wpAny_assign_Name (r9 Io hN hiy hy (v:=.ref Dd) rfl (fun s'' I'' ⟨a,sb,ha⟩=>?_) hf)
 obtain ⟨m,hn⟩:=hm
 obtain ⟨f0,f1,f2,f3,f4,f5⟩:=f
 have naC:a≠C:=by
  rcases ha with z | z
  ·rw [z];exact fun w=>f1 w.symm
  ·exact f4 y a z
 refine ⟨m,hn.sameBut sb (Ne.symm naC),fun h' hs'=>?_⟩
 exact ⟨_,H',I''.other ⟨f0,f1,f2,f3,f4,f5⟩ hs',q⟩
end L2
namespace L2
open PySem PySem.Spec PyProof.Rows
end L2
namespace L2
open PySem PySem.Spec PyProof.Rows
theorem qB (a b c:Value):checkTypeCall "zip" ⟨[a,b,c],[]⟩=pure ():=by kernel_rfl
theorem rM (a b c:Value):checkBuiltinCall "zip.__new__" ⟨[.type "zip", a,b,c],[]⟩=pure ():=by kernel_rfl
abbrev bq (h:Heap) (T:Addr) (a b c:Value):Prop:=h.get? T=some { cls:=.type "tuple", data:=.seq #[a,b,c] }
structure Z3 (z TI TO i1 i2 i3:Addr):Prop where
 TIz:TI≠z
 TOz:TO≠z
 i1z:i1≠z
 i2z:i2≠z
 Iw:i3≠z
 TITO:TI≠TO
 TIi1:TI≠i1
 TIi2:TI≠i2
 PY:TI≠i3
 TOi1:TO≠i1
 TOi2:TO≠i2
 En:TO≠i3
 i12:i1≠i2
 Pq:i1≠i3
 Lx:i2≠i3
structure L3 (z TO i1 i2 i3 l:Addr):Prop where
 z:l≠z
 o:l≠TO
 i1:l≠i1
 i2:l≠i2
 i3:l≠i3
section
variable {prog:Program} {w:World} {A:Around} {E:Value->Shared->Prop} {s:Shared}
theorem c7 {T:Addr} {a b c x:Value} {k:Nat} {Q:Unit->Shared->Prop} (hT:bq s.heap T a b c)
  (h:∀ h',h'.get? T=some { cls:=.type "tuple", data:=.seq ((#[a,b,c]:Array Value).setIfInBounds k x) }->Heap.SameBut T s.heap h'->Q () { s with heap:=h' }) :
  wpAny (model prog w) A (updateSeq T (·.setIfInBounds k x)) Q E s:=by
 refine wpAny_updateSeq hT rfl (h _ ?_ (Heap.SameBut.update ..))
 rw [Heap.get?_update_self _ hT rfl]
 simp [Obj.mapSeq]
variable {b1 b2 b3:Bool} {z TI TO i1 i2 i3 l1 l2 l3:Addr} {k1 k2 k3:Nat} {xs ys zs:Array Value} {x y v a b c:Value}
theorem zx {Q:Value->Shared->Prop} (D:Z3 z TI TO i1 i2 i3) (D1:L3 z TO i1 i2 i3 l1) (D2:L3 z TO i1 i2 i3 l2) (D3:L3 z TO i1 i2 i3 l3)
  (hz:IsZip s.heap z TI TO .none) (hTI:bq s.heap TI (.ref i1) (.ref i2) (.ref i3)) (hTO:bq s.heap TO a b c)
  (h1:dO s.heap b1 i1 l1 k1) (h2:dO s.heap b2 i2 l2 k2) (h3:dO s.heap b3 i3 l3 k3) (hl1:fz s.heap b1 l1 xs) (hl2:fz s.heap b2 l2 ys) (hl3:fz s.heap b3 l3 zs) (hx:xs[k1]?=some x) (hy:ys[k2]?=some y) (hv:zs[k3]?=some v)
  (hQ:∀ h',IsZip h' z TI TO (rawInt s.heap.objs.size)->bq h' TO x y v->dO h' b1 i1 l1 (k1+1)->dO h' b2 i2 l2 (k2+1)->dO h' b3 i3 l3 (k3+1)->bq h' s.heap.objs.size x y v->h'.objs.size=s.heap.objs.size+1 ->
   (∀ c o,c≠z->c≠TO->c≠i1->c≠i2->c≠i3->s.heap.get? c=some o->h'.get? c=some o)->Q (.ref s.heap.objs.size) { s with heap:=h' }) :
  wpAny (model prog w) A (Builtin.«zip.__next__» ⟨[.ref z],[]⟩) (fun fin s'=>∃ v,fin=.done (.ret v)/\Q v s') E s:=by
 show wpAny _ _ (field (.ref z) 2 >>= _) _ _ _
 refine wpAny_bind (wpAny_field hz rfl (x:=.bool false) rfl ?_)
 show wpAny _ _ (field (.ref z) 3 >>= _) _ _ _
 refine wpAny_bind (wpAny_field hz rfl (x:=.ref TI) rfl ?_)
 refine wpAny_bind (wpAny_seqItems hTI rfl ?_)
 show wpAny _ _ (Builtin.SmallTypes.ownedTupleIsFree (.ref z) >>= _) _ _ _
 refine wpAny_bind ?_
 unfold Builtin.SmallTypes.ownedTupleIsFree
 refine wpAny_bind (wpAny_field hz rfl (x:=.none) rfl (wpAny_pure ?_))
 simp only [if_true]
 refine wpAny_bind (wpAny_rule ?_)
 refine wpAny_bind (wpAny_field hz rfl (x:=.ref TO) rfl ?_)
 refine wpAny_bind (wpAny_setField_rec hz (by simp) fun h₁ hz₁ hs₁=>?_)
 replace hz₁:IsZip h₁ z TI TO .ellipsis:=hz₁
 refine wpAny_bind ?_
 simp only [List.zipIdx_cons,List.zipIdx_nil,List.forIn_cons,List.forIn_nil]
 refine wpAny_bind (wpAny_bind (wpAny_onRaise ?_))
 show wpAny _ _ (Builtin.SmallTypes.nextOf (.ref i1) >>= _) _ _ _
 refine wpAny_bind (cG (h1.at fun o e=>hs₁.extBut _ _ D.i1z e) (hl1.at fun o e=>hs₁.extBut _ _ D1.z e) hx fun h₂ h1₂ hs₂=>wpAny_pure ?_)
 have hTO₂:bq h₂ TO a b c:=hs₂.extBut _ _ D.TOi1 (hs₁.extBut _ _ D.TOz hTO)
 refine wpAny_bind (wpAny_seqItems hTO₂ rfl ?_)
 refine wpAny_bind (c7 hTO₂ fun h₃ hTO₃ hs₃=>?_)
 replace hTO₃:bq h₃ TO x b c:=hTO₃
 refine wpAny_bind (wpAny_letGo (wpAny_pure ?_))
 have kk3:∀ q o,q≠z->q≠TO->q≠i1->s.heap.get? q=some o->h₃.get? q=some o:=fun q o c1 c2 c3 e=>hs₃.extBut _ _ c2 (hs₂.extBut _ _ c3 (hs₁.extBut _ _ c1 e))
 refine wpAny_bind (wpAny_bind (wpAny_onRaise ?_))
 show wpAny _ _ (Builtin.SmallTypes.nextOf (.ref i2) >>= _) _ _ _
 refine wpAny_bind (cG (h2.at fun o e=>kk3 _ o D.i2z D.TOi2.symm D.i12.symm e) (hl2.at fun o e=>kk3 _ o D2.z D2.o D2.i1 e) hy fun h₄ h2₄ hs₄=>wpAny_pure ?_)
 have hTO₄:bq h₄ TO x b c:=hs₄.extBut _ _ D.TOi2 hTO₃
 refine wpAny_bind (wpAny_seqItems hTO₄ rfl ?_)
 refine wpAny_bind (c7 hTO₄ fun h₅ hTO₅ hs₅=>?_)
 replace hTO₅:bq h₅ TO x y c:=hTO₅
 refine wpAny_bind (wpAny_letGo (wpAny_pure ?_))
 have k5:∀ q o,q≠z->q≠TO->q≠i1->q≠i2->s.heap.get? q=some o->h₅.get? q=some o:=fun q o c1 c2 c3 c4 e=>hs₅.extBut _ _ c2 (hs₄.extBut _ _ c4 (kk3 q o c1 c2 c3 e))
 refine wpAny_bind (wpAny_bind (wpAny_onRaise ?_))
 show wpAny _ _ (Builtin.SmallTypes.nextOf (.ref i3) >>= _) _ _ _
 refine wpAny_bind (cG (h3.at fun o e=>k5 _ o D.Iw D.En.symm D.Pq.symm D.Lx.symm e) (hl3.at fun o e=>k5 _ o D3.z D3.o D3.i1 D3.i2 e) hv fun h₆ h3₆ hs₆=>wpAny_pure ?_)
 have hTO₆:bq h₆ TO x y c:=hs₆.extBut _ _ D.En hTO₅
 refine wpAny_bind (wpAny_seqItems hTO₆ rfl ?_)
 refine wpAny_bind (c7 hTO₆ fun h₇ hTO₇ hs₇=>?_)
 replace hTO₇:bq h₇ TO x y v:=hTO₇
 refine wpAny_bind (wpAny_letGo (wpAny_pure (wpAny_pure ?_)))
 refine wpAny_bind (wpAny_seqItems hTO₇ rfl ?_)
 refine wpAny_bind (wpAny_newTuple ?_)
 have hsz:h₇.objs.size=s.heap.objs.size:=by rw [hs₇.1,hs₆.1,hs₅.1,hs₄.1,hs₃.1,hs₂.1,hs₁.1]
 have hz₃:IsZip h₃ z TI TO .ellipsis:=hs₃.extBut _ _ D.TOz.symm (hs₂.extBut _ _ D.i1z.symm hz₁)
 have hz₅:IsZip h₅ z TI TO .ellipsis:=hs₅.extBut _ _ D.TOz.symm (hs₄.extBut _ _ D.i2z.symm hz₃)
 have hz₇:IsZip h₇ z TI TO .ellipsis:=hs₇.extBut _ _ D.TOz.symm (hs₆.extBut _ _ D.Iw.symm hz₅)
 have k7:∀ q o,q≠z->q≠TO->q≠i1->q≠i2->q≠i3->s.heap.get? q=some o->h₇.get? q=some o:=fun q o c1 c2 c3 c4 c5 e=>hs₇.extBut _ _ c2 (hs₆.extBut _ _ c5 (k5 q o c1 c2 c3 c4 e))
 have h1₇:dO h₇ b1 i1 l1 (k1+1):=h1₂.at fun o e=>hs₇.extBut _ _ D.TOi1.symm (hs₆.extBut _ _ D.Pq (hs₅.extBut _ _ D.TOi1.symm (hs₄.extBut _ _ D.i12 (hs₃.extBut _ _ D.TOi1.symm e))))
 have h2₇:dO h₇ b2 i2 l2 (k2+1):=h2₄.at fun o e=>hs₇.extBut _ _ D.TOi2.symm (hs₆.extBut _ _ D.Lx (hs₅.extBut _ _ D.TOi2.symm e))
 have h3₇:dO h₇ b3 i3 l3 (k3+1):=h3₆.at fun o e=>hs₇.extBut _ _ D.En.symm e
 have hzlt:z<h₇.objs.size:=Heap.lt_size hz₇
 show wpAny _ _ (Builtin.SmallTypes.ownedTupleHandOut (.ref z) (.ref h₇.objs.size) >>= _) _ _ _
 refine wpAny_bind ?_
 unfold Builtin.SmallTypes.ownedTupleHandOut
 have hz₈:IsZip (h₇.push { cls:=.type "tuple", data:=.seq #[x,y,v] }) z TI TO .ellipsis:=Heap.get?_push_of_some _ hz₇
 refine wpAny_bind (wpAny_setField_rec hz₈ (by simp) fun h₉ hz₉ hs₉=>?_)
 replace hz₉:IsZip h₉ z TI TO (rawInt h₇.objs.size):=hz₉
 refine wpAny_setField_rec hz₉ (by simp) fun hA hzA hsA=>?_
 replace hzA:IsZip hA z TI TO (rawInt h₇.objs.size):=hzA
 have up:∀ c o,c≠z->h₇.get? c=some o->hA.get? c=some o:=fun c o c1 e=>hsA.extBut _ _ c1 (hs₉.extBut _ _ c1 (Heap.get?_push_of_some _ e))
 have hTA:bq hA h₇.objs.size x y v:=hsA.extBut _ _ (Nat.ne_of_gt hzlt) (hs₉.extBut _ _ (Nat.ne_of_gt hzlt) (Heap.get?_push_size _ rfl))
 have hzA8:hA.objs.size=h₇.objs.size+1:=by rw [hsA.1,hs₉.1,Heap.size_push]
 rw [hsz] at hzA hTA hzA8
 refine wpAny_pure ⟨_,rfl,?_⟩
 show Q (.ref h₇.objs.size) _
 rw [hsz]
 exact hQ hA hzA (up _ _ D.TOz hTO₇) (h1₇.at fun o e=>up _ o D.i1z e) (h2₇.at fun o e=>up _ o D.i2z e) (h3₇.at fun o e=>up _ o D.Iw e) hTA hzA8 fun c o c1 c2 c3 c4 c5 e=>up c o c1 (k7 c o c1 c2 c3 c4 c5 e)
theorem A7 {Q:Fin->Shared->Prop} (hh:A.handled=none) (D:Z3 z TI TO i1 i2 i3) (D1:L3 z TO i1 i2 i3 l1) (D2:L3 z TO i1 i2 i3 l2) (D3:L3 z TO i1 i2 i3 l3)
  (hz:IsZip s.heap z TI TO .none) (hTI:bq s.heap TI (.ref i1) (.ref i2) (.ref i3)) (hTO:bq s.heap TO a b c)
  (h1:dO s.heap b1 i1 l1 k1) (h2:dO s.heap b2 i2 l2 k2) (h3:dO s.heap b3 i3 l3 k3) (hl1:fz s.heap b1 l1 xs) (hl2:fz s.heap b2 l2 ys) (hl3:fz s.heap b3 l3 zs) (hend:xs[k1]?=none\/ys[k2]?=none\/zs[k3]?=none)
  (hE:∀ h' e,(∀ c o,c≠z->c≠TO->c≠i1->c≠i2->c≠i3->s.heap.get? c=some o->h'.get? c=some o)->(∃ o,h'.get? e=some o/\o.cls=.type "StopIteration")->E (.ref e) { s with heap:=h' }) :
  wpAny (model prog w) A (Builtin.«zip.__next__» ⟨[.ref z],[]⟩) Q E s:=by
 show wpAny _ _ (field (.ref z) 2 >>= _) _ _ _
 refine wpAny_bind (wpAny_field hz rfl (x:=.bool false) rfl ?_)
 show wpAny _ _ (field (.ref z) 3 >>= _) _ _ _
 refine wpAny_bind (wpAny_field hz rfl (x:=.ref TI) rfl ?_)
 refine wpAny_bind (wpAny_seqItems hTI rfl ?_)
 show wpAny _ _ (Builtin.SmallTypes.ownedTupleIsFree (.ref z) >>= _) _ _ _
 refine wpAny_bind ?_
 unfold Builtin.SmallTypes.ownedTupleIsFree
 refine wpAny_bind (wpAny_field hz rfl (x:=.none) rfl (wpAny_pure ?_))
 simp only [if_true]
 refine wpAny_bind (wpAny_rule ?_)
 refine wpAny_bind (wpAny_field hz rfl (x:=.ref TO) rfl ?_)
 refine wpAny_bind (wpAny_setField_rec hz (by simp) fun h₁ hz₁ hs₁=>?_)
 replace hz₁:IsZip h₁ z TI TO .ellipsis:=hz₁
 refine wpAny_bind ?_
 simp only [List.zipIdx_cons,List.zipIdx_nil,List.forIn_cons,List.forIn_nil]
 refine wpAny_bind (wpAny_bind (wpAny_onRaise ?_))
 show wpAny _ _ (Builtin.SmallTypes.nextOf (.ref i1) >>= _) _ _ _
 cases hx:xs[k1]? with
 | none =>
  refine wpAny_bind (gJ hh (h1.at fun o e=>hs₁.extBut _ _ D.i1z e) (hl1.at fun o e=>hs₁.extBut _ _ D1.z e) hx fun h₂ e hs₂ he=>?_)
  obtain ⟨oe,hoe,hce⟩:=he
  have hz₂:IsZip h₂ z TI TO .ellipsis:=hs₂ _ _ D.i1z.symm hz₁
  have hez:e≠z:=fun x=>by subst x;rw [hz₂] at hoe;cases hoe;simp at hce
  refine wpAny_setField_rec hz₂ (by simp) fun h₃ _ hs₃=>hE h₃ e (fun c o c1 _ c3 _ _ x=>hs₃.extBut _ _ c1 (hs₂ _ _ c3 (hs₁.extBut _ _ c1 x))) ⟨oe,hs₃.extBut _ _ hez hoe,hce⟩
 | some x =>
  refine wpAny_bind (cG (h1.at fun o e=>hs₁.extBut _ _ D.i1z e) (hl1.at fun o e=>hs₁.extBut _ _ D1.z e) hx fun h₂ h1₂ hs₂=>wpAny_pure ?_)
  have hTO₂:bq h₂ TO a b c:=hs₂.extBut _ _ D.TOi1 (hs₁.extBut _ _ D.TOz hTO)
  refine wpAny_bind (wpAny_seqItems hTO₂ rfl ?_)
  refine wpAny_bind (c7 hTO₂ fun h₃ hTO₃ hs₃=>?_)
  replace hTO₃:bq h₃ TO x b c:=hTO₃
  refine wpAny_bind (wpAny_letGo (wpAny_pure ?_))
  have kk3:∀ q o,q≠z->q≠TO->q≠i1->s.heap.get? q=some o->h₃.get? q=some o:=fun q o c1 c2 c3 e=>hs₃.extBut _ _ c2 (hs₂.extBut _ _ c3 (hs₁.extBut _ _ c1 e))
  have hz₃:IsZip h₃ z TI TO .ellipsis:=hs₃.extBut _ _ D.TOz.symm (hs₂.extBut _ _ D.i1z.symm hz₁)
  refine wpAny_bind (wpAny_bind (wpAny_onRaise ?_))
  show wpAny _ _ (Builtin.SmallTypes.nextOf (.ref i2) >>= _) _ _ _
  cases hy:ys[k2]? with
  | none =>
   refine wpAny_bind (gJ hh (h2.at fun o e=>kk3 _ o D.i2z D.TOi2.symm D.i12.symm e) (hl2.at fun o e=>kk3 _ o D2.z D2.o D2.i1 e) hy fun h₄ e hs₄ he=>?_)
   obtain ⟨oe,hoe,hce⟩:=he
   have hz₄:IsZip h₄ z TI TO .ellipsis:=hs₄ _ _ D.i2z.symm hz₃
   have hez:e≠z:=fun x=>by subst x;rw [hz₄] at hoe;cases hoe;simp at hce
   refine wpAny_setField_rec hz₄ (by simp) fun h₅ _ hs₅=>hE h₅ e (fun c o c1 c2 c3 c4 _ x=>hs₅.extBut _ _ c1 (hs₄ _ _ c4 (kk3 c o c1 c2 c3 x))) ⟨oe,hs₅.extBut _ _ hez hoe,hce⟩
  | some y =>
   have hv:zs[k3]?=none:=by
    rcases hend with h | h | h
    ·rw [hx] at h;cases h
    ·rw [hy] at h;cases h
    ·exact h
   refine wpAny_bind (cG (h2.at fun o e=>kk3 _ o D.i2z D.TOi2.symm D.i12.symm e) (hl2.at fun o e=>kk3 _ o D2.z D2.o D2.i1 e) hy fun h₄ h2₄ hs₄=>wpAny_pure ?_)
   have hTO₄:bq h₄ TO x b c:=hs₄.extBut _ _ D.TOi2 hTO₃
   refine wpAny_bind (wpAny_seqItems hTO₄ rfl ?_)
   refine wpAny_bind (c7 hTO₄ fun h₅ hTO₅ hs₅=>?_)
   refine wpAny_bind (wpAny_letGo (wpAny_pure ?_))
   have k5:∀ q o,q≠z->q≠TO->q≠i1->q≠i2->s.heap.get? q=some o->h₅.get? q=some o:=fun q o c1 c2 c3 c4 e=>hs₅.extBut _ _ c2 (hs₄.extBut _ _ c4 (kk3 q o c1 c2 c3 e))
   have hz₅:IsZip h₅ z TI TO .ellipsis:=hs₅.extBut _ _ D.TOz.symm (hs₄.extBut _ _ D.i2z.symm hz₃)
   refine wpAny_bind (wpAny_bind (wpAny_onRaise ?_))
   show wpAny _ _ (Builtin.SmallTypes.nextOf (.ref i3) >>= _) _ _ _
   refine wpAny_bind (gJ hh (h3.at fun o e=>k5 _ o D.Iw D.En.symm D.Pq.symm D.Lx.symm e) (hl3.at fun o e=>k5 _ o D3.z D3.o D3.i1 D3.i2 e) hv fun h₆ e hs₆ he=>?_)
   obtain ⟨oe,hoe,hce⟩:=he
   have hz₆:IsZip h₆ z TI TO .ellipsis:=hs₆ _ _ D.Iw.symm hz₅
   have hez:e≠z:=fun x=>by subst x;rw [hz₆] at hoe;cases hoe;simp at hce
   refine wpAny_setField_rec hz₆ (by simp) fun h₇ _ hs₇=>hE h₇ e (fun c o c1 c2 c3 c4 c5 x=>hs₇.extBut _ _ c1 (hs₆ _ _ c5 (k5 c o c1 c2 c3 c4 x))) ⟨oe,hs₇.extBut _ _ hez hoe,hce⟩
end
end L2
namespace L2
open PySem PySem.Spec PyProof.Rows
section
variable {prog:Program} {w:World} {A:Around} {E:Value->Shared->Prop} {s:Shared}
variable {b1 b2 b3:Bool} {z TI TO i1 i2 i3 l1 l2 l3:Addr} {k1 k2 k3:Nat} {xs ys zs:Array Value} {x y v a b c:Value}
theorem ng {Q:Option Value->Shared->Prop} (D:Z3 z TI TO i1 i2 i3) (D1:L3 z TO i1 i2 i3 l1) (D2:L3 z TO i1 i2 i3 l2) (D3:L3 z TO i1 i2 i3 l3)
  (hz:IsZip s.heap z TI TO .none) (hTI:bq s.heap TI (.ref i1) (.ref i2) (.ref i3)) (hTO:bq s.heap TO a b c)
  (h1:dO s.heap b1 i1 l1 k1) (h2:dO s.heap b2 i2 l2 k2) (h3:dO s.heap b3 i3 l3 k3) (hl1:fz s.heap b1 l1 xs) (hl2:fz s.heap b2 l2 ys) (hl3:fz s.heap b3 l3 zs) (hx:xs[k1]?=some x) (hy:ys[k2]?=some y) (hv:zs[k3]?=some v)
  (hQ:∀ h',IsZip h' z TI TO (rawInt s.heap.objs.size)->bq h' TO x y v->dO h' b1 i1 l1 (k1+1)->dO h' b2 i2 l2 (k2+1)->dO h' b3 i3 l3 (k3+1)->bq h' s.heap.objs.size x y v->h'.objs.size=s.heap.objs.size+1 ->
   (∀ c o,c≠z->c≠TO->c≠i1->c≠i2->c≠i3->s.heap.get? c=some o->h'.get? c=some o)->Q (some (.ref s.heap.objs.size)) { s with heap:=h' }) :
  wpAny (model prog w) A (pyNext (.ref z)) Q E s:=by
 have hT:s.TypeIs (.ref z) "zip" := ⟨_,hz,rfl⟩
 unfold pyNext
 exact wpAny_bind (wpAny_attempt (wpAny_callSpecial?_slot (name:=Str.ofString "__next__") hT F.slot_zip_next
  (wpAny_call_entry F.slot_zip_next hT F.entry_zip_next
   (zx D D1 D2 D3 hz hTI hTO h1 h2 h3 hl1 hl2 hl3 hx hy hv fun h' a1 a2 a3 a4 a5 a6 a7 a8=>wpAny_pure (hQ h' a1 a2 a3 a4 a5 a6 a7 a8)) (F.args_zip_next_1 _))))
theorem oN {Q:Option Value->Shared->Prop} (hh:A.handled=none) (D:Z3 z TI TO i1 i2 i3) (D1:L3 z TO i1 i2 i3 l1) (D2:L3 z TO i1 i2 i3 l2) (D3:L3 z TO i1 i2 i3 l3)
  (hz:IsZip s.heap z TI TO .none) (hTI:bq s.heap TI (.ref i1) (.ref i2) (.ref i3)) (hTO:bq s.heap TO a b c)
  (h1:dO s.heap b1 i1 l1 k1) (h2:dO s.heap b2 i2 l2 k2) (h3:dO s.heap b3 i3 l3 k3) (hl1:fz s.heap b1 l1 xs) (hl2:fz s.heap b2 l2 ys) (hl3:fz s.heap b3 l3 zs) (hend:xs[k1]?=none\/ys[k2]?=none\/zs[k3]?=none)
  (hQ:∀ h',(∀ c o,c≠z->c≠TO->c≠i1->c≠i2->c≠i3->s.heap.get? c=some o->h'.get? c=some o)->Q none { s with heap:=h' }):wpAny (model prog w) A (pyNext (.ref z)) Q E s:=by
 have hT:s.TypeIs (.ref z) "zip" := ⟨_,hz,rfl⟩
 unfold pyNext
 refine wpAny_bind (wpAny_attempt (wpAny_callSpecial?_slot (name:=Str.ofString "__next__") hT F.slot_zip_next
  (wpAny_call_entry F.slot_zip_next hT F.entry_zip_next (A7 hh D D1 D2 D3 hz hTI hTO h1 h2 h3 hl1 hl2 hl3 hend fun h' e hk he=>?_) (F.args_zip_next_1 _))))
 obtain ⟨o,ho,hc⟩:=he
 refine wpAny_bind (wpAny_isInstance (T := "StopIteration") (b:=true) ⟨o,ho,hc⟩ isSubtype_stop ?_)
 exact wpAny_pure (hQ _ hk)
end
abbrev Km (h:Heap) (b1 b2 b3:Bool) (l1 l2 l3:Addr):Heap:=(Ff h b1 b2 l1 l2).push (ER b3 l3)
abbrev Kq (h:Heap) (b1 b2 b3:Bool) (l1 l2 l3:Addr):Heap:=(Km h b1 b2 b3 l1 l2 l3).push { cls:=.type "tuple", data:=.seq #[.ref h.objs.size,.ref (HB h b1 l1).objs.size,.ref (Ff h b1 b2 l1 l2).objs.size] }
abbrev Kc (h:Heap) (b1 b2 b3:Bool) (l1 l2 l3:Addr):Heap:=(Kq h b1 b2 b3 l1 l2 l3).push { cls:=.type "tuple", data:=.seq #[.none,.none,.none] }
abbrev FV (h:Heap) (b1 b2 b3:Bool) (l1 l2 l3:Addr):Heap:=(Kc h b1 b2 b3 l1 l2 l3).push { cls:=.type "zip", data:=.fields #[.none,.bool false,.bool false,.ref (Km h b1 b2 b3 l1 l2 l3).objs.size,.ref (Kq h b1 b2 b3 l1 l2 l3).objs.size] }
theorem pQ (b1 b2 b3:Bool) (l1 l2 l3:Addr) (xs ys zs:Array Value) :
  Meets (Builtin.«zip.__new__» ⟨[.type "zip", .ref l1,.ref l2,.ref l3],[]⟩) (fun _ R s=>fz s.heap b1 l1 xs/\fz s.heap b2 l2 ys/\fz s.heap b3 l3 zs ∧
   R (.ok (.ret (.ref (Kc s.heap b1 b2 b3 l1 l2 l3).objs.size))) { s with heap:=FV s.heap b1 b2 b3 l1 l2 l3 }) :=
 .of_wp fun prog w A R s h=>by
  obtain ⟨hp,g,d,tk,os⟩:=s;obtain ⟨hl1,hl2,hl3,h⟩:=h
  have hsub:=sub_zip
  have hL1:fz (Shared.heap ⟨hp,g,d,tk,os⟩) b1 l1 xs:=hl1
  have hL2:fz (Shared.heap ⟨hp.push (ER b1 l1),g,d,tk,os⟩) b2 l2 ys:=fz.push hl2 _
  have hL3:fz (Shared.heap ⟨(hp.push (ER b1 l1)).push (ER b2 l2),g,d,tk,os⟩) b3 l3 zs:=fz.push (fz.push hl3 _) _
  wp_walk using fu hL1,fu hL2,fu hL3
  exact ⟨_,rfl,h⟩
section
variable {prog:Program} {w:World} {A:Around} {E:Value->Shared->Prop} {s:Shared}
theorem zk {b1 b2 b3:Bool} {l1 l2 l3:Addr} {xs ys zs:Array Value} {Q:Value->Shared->Prop} (hl1:fz s.heap b1 l1 xs) (hl2:fz s.heap b2 l2 ys) (hl3:fz s.heap b3 l3 zs)
  (h:∀ h',IsZip h' (s.heap.objs.size+5) (s.heap.objs.size+3) (s.heap.objs.size+4) .none->bq h' (s.heap.objs.size+3) (.ref s.heap.objs.size) (.ref (s.heap.objs.size+1)) (.ref (s.heap.objs.size+2)) ->
   bq h' (s.heap.objs.size+4) .none .none .none->dO h' b1 s.heap.objs.size l1 0->dO h' b2 (s.heap.objs.size+1) l2 0->dO h' b3 (s.heap.objs.size+2) l3 0 ->
   (∀ c o,s.heap.get? c=some o->h'.get? c=some o)->Q (.ref (s.heap.objs.size+5)) { s with heap:=h' }) :
  wpAny (model prog w) A (call (.type "zip") [.ref l1,.ref l2,.ref l3]) Q E s:=by
 refine callType_new F.called_zip (by decide) (qB _ _ _) (rM _ _ _) (fun obj=>F.initArgs_range_3 obj _ _ _) F.entry_zip_new
  (pQ b1 b2 b3 l1 l2 l3 xs ys zs) ⟨hl1,hl2,hl3,?_⟩
 have z1:(HB s.heap b1 l1).objs.size=s.heap.objs.size+1:=Heap.size_push ..
 have z2:(Ff s.heap b1 b2 l1 l2).objs.size=s.heap.objs.size+2:=by rw [Heap.size_push,z1]
 have z3:(Km s.heap b1 b2 b3 l1 l2 l3).objs.size=s.heap.objs.size+3:=by rw [Heap.size_push,z2]
 have z4:(Kq s.heap b1 b2 b3 l1 l2 l3).objs.size=s.heap.objs.size+4:=by rw [Heap.size_push,z3]
 have z5:(Kc s.heap b1 b2 b3 l1 l2 l3).objs.size=s.heap.objs.size+5:=by rw [Heap.size_push,z4]
 have g6:(FV s.heap b1 b2 b3 l1 l2 l3).get? (Kc s.heap b1 b2 b3 l1 l2 l3).objs.size=some _:=Heap.get?_push_size _ rfl
 have g5:(FV s.heap b1 b2 b3 l1 l2 l3).get? (Kq s.heap b1 b2 b3 l1 l2 l3).objs.size=some _:=Heap.get?_push_of_some _ (Heap.get?_push_size _ rfl)
 have g4:(FV s.heap b1 b2 b3 l1 l2 l3).get? (Km s.heap b1 b2 b3 l1 l2 l3).objs.size=some _:=Heap.get?_push_of_some _ (Heap.get?_push_of_some _ (Heap.get?_push_size _ rfl))
 have g3:(FV s.heap b1 b2 b3 l1 l2 l3).get? (Ff s.heap b1 b2 l1 l2).objs.size=some _:=Heap.get?_push_of_some _ (Heap.get?_push_of_some _ (Heap.get?_push_of_some _ (Heap.get?_push_size _ rfl)))
 have g2:(FV s.heap b1 b2 b3 l1 l2 l3).get? (HB s.heap b1 l1).objs.size=some _:=Heap.get?_push_of_some _ (Heap.get?_push_of_some _ (Heap.get?_push_of_some _ (Heap.get?_push_of_some _ (Heap.get?_push_size _ rfl))))
 have g1:(FV s.heap b1 b2 b3 l1 l2 l3).get? s.heap.objs.size=some _:=Heap.get?_push_of_some _ (Heap.get?_push_of_some _ (Heap.get?_push_of_some _ (Heap.get?_push_of_some _ (Heap.get?_push_of_some _ (Heap.get?_push_size _ rfl)))))
 show _/\_
 rw [z3,z4,z5] at g6
 rw [z1,z2,z3] at g4
 rw [z4] at g5
 rw [z2] at g3
 rw [z1] at g2
 rw [z5]
 exact ⟨⟨_,g6,rfl⟩,h _ g6 g4 g5 (dO.new _ b1 _ _ g1) (dO.new _ b2 _ _ g2) (dO.new _ b3 _ _ g3) fun c o x =>
  Heap.get?_push_of_some _ (Heap.get?_push_of_some _ (Heap.get?_push_of_some _ (Heap.get?_push_of_some _ (Heap.get?_push_of_some _ (Heap.get?_push_of_some _ x)))))⟩
end
def Qj (K : PySem.W.Frag) (b1 b2 b3 : Bool) (a1 a2 a3 : Addr) : It :=
  ⟨fun i H => ∃ xs ys zs x y v, k9 K H b1 a1 xs /\ k9 K H b2 a2 ys /\ k9 K H b3 a3 zs /\ xs[i]? = some x /\ ys[i]? = some y /\ zs[i]? = some v,
   fun i H r H' => ∃ p x y v, H p = none /\ r = .ref p /\ H' = upd H p (.tup [x, y, v]) /\ (∀ xs, k9 K H b1 a1 xs -> xs[i]? = some x) /\ (∀ ys, k9 K H b2 a2 ys -> ys[i]? = some y) /\ (∀ zs, k9 K H b3 a3 zs -> zs[i]? = some v),
   fun i H => ∃ xs ys zs, k9 K H b1 a1 xs /\ k9 K H b2 a2 ys /\ k9 K H b3 a3 zs /\ (xs.length <= i \/ ys.length <= i \/ zs.length <= i)⟩
theorem sP {X:Cx} {pins:List (Addr×Obj)} {σ:St} {H:Hp} {s:Shared} {b:Bool} {z TI TO i1 i2 i3 a:Addr} {xs:List V} (I:Inv X pins σ H s) (h:k9 X.K H b a xs) (hf:∀ b∈[z,TO,i1,i2,i3,TI],lQ X pins H b):L3 z TO i1 i2 i3 a :=
 ⟨bZ I h (hf z (by simp)),bZ I h (hf TO (by simp)),bZ I h (hf i1 (by simp)),bZ I h (hf i2 (by simp)),bZ I h (hf i3 (by simp))⟩
theorem zr {P:Program} {w:World} {K:PySem.W.Frag} {elts:List Expr} {x1:Nat} {tp:Pos} (b1 b2 b3:Bool) (a1 a2 a3 z TI TO i1 i2 i3:Addr) (D:Z3 z TI TO i1 i2 i3) :
  Turn P w K (.Tuple elts x1 tp) (Qj K b1 b2 b3 a1 a2 a3) [z,TO,i1,i2,i3,TI] z (fun i h=>IsZip h z TI TO .none/\bq h TI (.ref i1) (.ref i2) (.ref i3)/\(∃ a b c,bq h TO a b c)/\dO h b1 i1 a1 i/\dO h b2 i2 a2 i/\dO h b3 i3 a3 i) where
 mem:=by simp
 obj:=fun i h st b hb=>by
  obtain ⟨hz,hTI,⟨a,c,d,hTO⟩,h1,h2,h3⟩:=st
  simp only [List.mem_cons,List.mem_nil_iff,or_false] at hb
  rcases hb with q | q | q | q | q | q <;> subst q
  ·exact ⟨_,hz,fun v z=>by cases z⟩
  ·exact ⟨_,hTO,fun v z=>by cases z⟩
  ·obtain ⟨o,vs,e,d⟩:=h1.obj
   exact ⟨o,e,fun v z=>by rw [d] at z;cases z⟩
  ·obtain ⟨o,vs,e,d⟩:=h2.obj
   exact ⟨o,e,fun v z=>by rw [d] at z;cases z⟩
  ·obtain ⟨o,vs,e,d⟩:=h3.obj
   exact ⟨o,e,fun v z=>by rw [d] at z;cases z⟩
  ·exact ⟨_,hTI,fun v z=>by cases z⟩
 keep:=fun i h h' st k=>by
  obtain ⟨hz,hTI,⟨a,c,d,hTO⟩,h1,h2,h3⟩:=st
  exact ⟨k z (by simp) _ hz,k TI (by simp) _ hTI,⟨a,c,d,k TO (by simp) _ hTO⟩,h1.at fun o e=>k i1 (by simp) o e,h2.at fun o e=>k i2 (by simp) o e,h3.at fun o e=>k i3 (by simp) o e⟩
 item:=by
  intro X hP hw hK hc i pins s σ H E I hf st hg
  subst hP hw hK
  obtain ⟨xs,ys,zs,x,y,v,hq1,hq2,hq3,hx,hy,hv⟩:=hg
  obtain ⟨its1,rv1,p1,hz1⟩:=I.row hq1
  obtain ⟨its2,rv2,p2,hz2⟩:=I.row hq2
  obtain ⟨its3,rv3,p3,hz3'⟩:=I.row hq3
  obtain ⟨u1,hu1,ru1⟩:=rv1.get hx
  obtain ⟨u2,hu2,ru2⟩:=rv2.get hy
  obtain ⟨u3,hu3,ru3⟩:=rv3.get hv
  obtain ⟨hz,hTI,⟨a,c,d,hTO⟩,h1,h2,h3⟩:=st
  obtain ⟨oi1,vs1,ei1,di1⟩:=h1.obj
  obtain ⟨oi2,vs2,ei2,di2⟩:=h2.obj
  obtain ⟨oi3,vs3,ei3,di3⟩:=h3.obj
  refine ng D (sP I hq1 hf) (sP I hq2 hf) (sP I hq3 hf) hz hTI hTO h1 h2 h3 p1 p2 p3 (x:=u1) (y:=u2) (v:=u3) (by simpa using hu1) (by simpa using hu2) (by simpa using hu3) fun h' g1 g2 g3 g4 g4' g5 g6 g7=>⟨_,rfl,?_⟩
  refine wpAny_letOwnedTupleGo_zip (s:={ s with heap:=h' }) g1 fun hN hz3 hs3=>?_
  have hnew:H s.heap.objs.size=none:=I.a_.fresh (Nat.le_refl _)
  have lt:∀ {c:Addr} {o:Obj},s.heap.get? c=some o->c≠s.heap.objs.size:=fun e=>Nat.ne_of_lt (Heap.lt_size e)
  have keep3:∀ b o,b ∉ [z,TO,i1,i2,i3,TI]->s.heap.get? b=some o->hN.get? b=some o:=fun b o hb q=>by
   simp only [List.mem_cons,List.mem_nil_iff,or_false,not_or] at hb
   exact (hs3.2 b hb.1).trans (g7 b o hb.1 hb.2.1 hb.2.2.1 hb.2.2.2.1 hb.2.2.2.2.1 q)
  have hT3:hN.get? s.heap.objs.size=some { cls:=.type "tuple", data:=.seq #[u1,u2,u3] }:=(hs3.2 _ (lt hz).symm).trans g5
  have I3:Inv X pins σ (upd H s.heap.objs.size (.tup [x,y,v])) { s with heap:=hN,toks:=s.toks } :=
   I.kK (ch:=[z,TO,i1,i2,i3,TI]) keep3 hf (Nat.le_refl _) (fun b hb=>by
    simp only [List.mem_cons,List.mem_nil_iff,or_false] at hb
    rcases hb with q | q | q | q | q | q <;> subst q
    ·exact ⟨_,hz⟩
    ·exact ⟨_,hTO⟩
    ·exact ⟨_,ei1⟩
    ·exact ⟨_,ei2⟩
    ·exact ⟨_,ei3⟩
    ·exact ⟨_,hTI⟩)
    ⟨by show 3<=sizeLine;decide,[u1,u2,u3],.cons ru1 (.cons ru2 (.cons ru3 .nil)),⟨_,hT3,rfl,_,rfl⟩⟩
  refine ⟨.ref s.heap.objs.size,_,I3,rfl,⟨_,x,y,v,hnew,rfl,rfl,fun zs' hzs=>by rw [I.mw hzs hq1];exact hx,fun zs' hzs=>by rw [I.mw hzs hq2];exact hy,fun zs' hzs=>by rw [I.mw hzs hq3];exact hv⟩,
   ⟨hz3,(hs3.2 TI D.TIz).trans (g7 TI _ D.TIz D.TITO D.TIi1 D.TIi2 D.PY hTI),⟨_,_,_,(hs3.2 TO D.TOz).trans g2⟩,g3.at fun o e=>(hs3.2 i1 D.i1z).trans e,g4.at fun o e=>(hs3.2 i2 D.i2z).trans e,g4'.at fun o e=>(hs3.2 i3 D.Iw).trans e⟩,fun b hb=>?_⟩
  have nb:b≠s.heap.objs.size:=by
   simp only [List.mem_cons,List.mem_nil_iff,or_false] at hb
   rcases hb with q | q | q | q | q | q <;> subst q
   ·exact lt hz
   ·exact lt hTO
   ·exact lt ei1
   ·exact lt ei2
   ·exact lt ei3
   ·exact lt hTI
  rw [ar nb]
  exact (hf b hb).1
 done:=by
  intro X hP hw hK hc i pins s σ H E I hf st hg
  subst hP hw hK
  obtain ⟨xs,ys,zs,hq1,hq2,hq3,hend⟩:=hg
  obtain ⟨its1,rv1,p1,hz1⟩:=I.row hq1
  obtain ⟨its2,rv2,p2,hz2⟩:=I.row hq2
  obtain ⟨its3,rv3,p3,hz3'⟩:=I.row hq3
  obtain ⟨hz,hTI,⟨a,c,d,hTO⟩,h1,h2,h3⟩:=st
  have l1:=rv1.length
  have l2:=rv2.length
  have l3:=rv3.length
  refine oN (I.ok.hd hc) D (sP I hq1 hf) (sP I hq2 hf) (sP I hq3 hf) hz hTI hTO h1 h2 h3 p1 p2 p3 ?_ fun h' k=>⟨rfl,?_⟩
  ·rcases hend with q | q | q
   ·exact .inl (by simp;omega)
   ·exact .inr (.inl (by simp;omega))
   ·exact .inr (.inr (by simp;omega))
  ·exact I.yv (t':=s.toks) (ch:=[z,TO,i1,i2,i3,TI]) (fun b u hb e=>by
    simp only [List.mem_cons,List.mem_nil_iff,or_false,not_or] at hb
    exact k b u hb.1 hb.2.1 hb.2.2.1 hb.2.2.2.1 hb.2.2.2.2.1 e) hf
 self:=fun _ _ _ _ _ st h=>by
  obtain ⟨hz,_⟩:=st
  exact wpAny_pyIter_zip hz h
theorem ED (n:Nat):Z3 (n+5) (n+3) (n+4) n (n+1) (n+2):=by
 refine ⟨?_,?_,?_,?_,?_,?_,?_,?_,?_,?_,?_,?_,?_,?_,?_⟩ <;> (show @Ne Nat _ _;omega)
section
variable {X:Cx}
def Ft (K:PySem.W.Frag) (tl:TA):TI:=fun σ H R=>tl σ H fun vs H1=>∃ b1 b2 b3 a1 a2 a3,vs=[.ref a1,.ref a2,.ref a3]/\(∃ xs,k9 K H1 b1 a1 xs)/\(∃ ys,k9 K H1 b2 a2 ys)/\(∃ zs,k9 K H1 b3 a3 zs)/\R (Qj K b1 b2 b3 a1 a2 a3) H1
theorem xY {elts:List Expr} {x1:Nat} {tp:Pos} {l1 l2 l3:Expr} {tl:TA} {p pos:Pos} (hg:Gl X "zip") (hm:X.mg "zip" = none) (hl:PA X [l1,l2,l3] tl) (hs:starEach [l1,l2,l3] X.env=[(false,eval l1 X.env),(false,eval l2 X.env),(false,eval l3 X.env)]:=by rfl) (hs2:starEach [l2,l3] X.env=[(false,eval l2 X.env),(false,eval l3 X.env)]:=by rfl) :
  PI X (.Tuple elts x1 tp) (.Call (.Name "zip" p) [l1,l2,l3] [] pos) (Ft X.K tl):=by
 intro pins s σ H R I h
 refine Call_ (i5 I hg hm PyProof.Rows.boot_zip (PyProof.Rows.callWith_type1 (bJ (hl pos pins s σ H _ I h) fun us s1 ⟨vs,H1,I1,r1,q1⟩=>?_) (by rw [hs,hs2]) (by rw [hs2];rfl)))
 obtain ⟨b1,b2,b3,a1,a2,a3,e,⟨xs,hq1⟩,⟨ys,hq2⟩,⟨zs,hq3⟩,q⟩:=q1
 subst e
 cases r1 with
 | cons r rr =>
  cases rr with
  | cons r' rr =>
   cases rr with
   | cons r'' rr =>
    cases rr
    cases (show _=Value.ref a1 from r)
    cases (show _=Value.ref a2 from r')
    cases (show _=Value.ref a3 from r'')
    obtain ⟨its1,rv1,p1,hz1⟩:=I1.row hq1
    obtain ⟨its2,rv2,p2,hz2⟩:=I1.row hq2
    obtain ⟨its3,rv3,p3,hz3⟩:=I1.row hq3
    refine zk p1 p2 p3 fun h' g1 g2 g3 g4 g5 g6 g7=>?_
    have I2:Inv X pins σ H1 { s1 with heap:=h' }:=I1.kept (t':=s1.toks) g7
    refine wpAny_pyIter_zip (s:={ s1 with heap:=h' }) g1 ?_
    refine ⟨s1.heap.objs.size+5,[s1.heap.objs.size+5,s1.heap.objs.size+4,s1.heap.objs.size,s1.heap.objs.size+1,s1.heap.objs.size+2,s1.heap.objs.size+3],_,_,H1,rfl,I2,
     zr b1 b2 b3 a1 a2 a3 _ _ _ _ _ _ (ED s1.heap.objs.size),⟨g1,g2,⟨_,_,_,g3⟩,g4,g5,g6⟩,fun b hb=>?_,q⟩
    have hle:s1.heap.objs.size<=b:=by
     simp only [List.mem_cons,List.mem_nil_iff,or_false] at hb
     rcases hb with q | q | q | q | q | q
     ·rw [q];exact Nat.le_add_right _ 5
     ·rw [q];exact Nat.le_add_right _ 4
     ·rw [q];exact Nat.le_refl _
     ·rw [q];exact Nat.le_add_right _ 1
     ·rw [q];exact Nat.le_add_right _ 2
     ·rw [q];exact Nat.le_add_right _ 3
    exact I1.tZ hle (I1.a_.fresh hle)
end
end L2
namespace L2
open PySem PySem.Spec PyProof.Rows
section
variable {M:Model} {A:Around} {E:Value->Shared->Prop} {s:Shared}
theorem r0 {base:Heap} {env:Env} {outer:List Env} {L e:Addr} {oe:Obj} {vs:Array Value} {head:Value} {hadNext:Bool} {Q:Unit->Shared->Prop}
  (hfr:A.frames=some (env::outer)) (hl:s.heap.FunFrames base (env::outer)) (hf:env.frame=some L)
  (he:s.heap.get? e=some oe) (hd:oe.data=.fields vs) (hsz:1<vs.size)
  (h:∀ h' T oT ts,h'.get? e=some (Obj.mapFields (·.setIfInBounds 1 (.ref T)) oe)->s.heap.objs.size<=T->T≠e->h'.get? T=some oT->oT.data=.fields ts->ts[3]?=some (rawInt L) ->
   (∀ b o,b≠e->b ∉ wu (env::outer)->s.heap.get? b=some o->h'.get? b=some o)->(∀ b o,b≠e->s.heap.get? b=some o->∃ sl,h'.get? b=some { o with slots:=sl })->Q () { s with heap:=h' }) :
  wpAny M A (do let a ← frameOf env;let pl ← entryPlaceOf L hadNext;let b ← EntryCells.newEntry head a .none (rawInt L) .none pl;setField (.ref e) 1 b) Q E s:=by
 have hene:e ∉ (env::outer).filterMap (·.frame):=fun hm=>by
  obtain ⟨_,o,ho,hnf⟩:=hl.mem hm
  rw [he] at ho;injection ho with ho;subst ho;exact hnf vs hd
 refine wpAny_bind (wpAny_frameOf_fun hfr hl hf fun h₁ hs₁=>?_)
 refine wpAny_bind (wpAny_entryPlaceOf fun pl hpl=>?_)
 unfold EntryCells.newEntry newFields
 refine wpAny_bind (wpAny_newObj_type ?_ (hpl.sizeOk5 _ _ _ _ _))
 have he₁:h₁.get? e=some oe:=(hs₁.2.1 e hene).trans he
 have he₂:=Heap.get?_push_of_some (h:=h₁) { cls:=.type "traceback", dict:=none,data:=.fields ([head,.ref L,.none,rawInt L,.none]++(if pl.isEmpty then List.replicate 6 Value.none else pl)).toArray } he₁
 have hTe:h₁.objs.size≠e:=Nat.ne_of_gt (Heap.lt_size he₁)
 have hd₃:=Obj.data_mapFields hd (·.setIfInBounds 1 (Value.ref h₁.objs.size))
 have he₃:=Heap.get?_update_self (Obj.mapFields (·.setIfInBounds 1 (Value.ref h₁.objs.size))) he₂ (Obj.isFreed_of_fields hd₃)
 have hT₃:=(Heap.get?_update_other (h₁.push { cls:=.type "traceback", dict:=none,data:=.fields ([head,.ref L,.none,rawInt L,.none]++(if pl.isEmpty then List.replicate 6 Value.none else pl)).toArray })
  (Obj.mapFields (·.setIfInBounds 1 (Value.ref h₁.objs.size))) (Ne.symm hTe)).trans (Heap.get?_push_size h₁ rfl)
 have keep:∀ b o,b≠e->h₁.get? b=some o ->
   ((h₁.push { cls:=.type "traceback", dict:=none,data:=.fields ([head,.ref L,.none,rawInt L,.none]++(if pl.isEmpty then List.replicate 6 Value.none else pl)).toArray }).update e (Obj.mapFields (·.setIfInBounds 1 (Value.ref h₁.objs.size)))).get? b=some o:=fun b o hbe hb=>by
  rw [Heap.get?_update_other _ _ (Ne.symm hbe)]
  exact Heap.get?_push_of_some _ hb
 refine wpAny_setField he₂ hd hsz (h _ h₁.objs.size _ _ he₃ ?_ hTe hT₃ rfl (by first | (simp;done) | (rcases hpl with rfl | ⟨_,_,_,_,_,_,_,rfl⟩ <;> simp)) ?_ ?_)
 ·exact Nat.le_of_eq hs₁.1.symm
 ·intro b o hbe hbf hb
  exact keep b o hbe ((hs₁.2.1 b hbf).trans hb)
 ·intro b o hbe hb
  obtain ⟨sl,hs⟩:=hs₁.2.2 b o hb
  exact ⟨sl,keep b _ hbe hs⟩
def Lies (h:Heap) (e:Addr) (vs:Array Value) (to:Option Addr):Prop:=match to with
 | none=>vs[1]?=some .none
 | some T=>vs[1]?=some (.ref T)/\T≠e/\∃ oT ts,h.get? T=some oT/\oT.data=.fields ts/\ts[3]?=some .none
theorem zv {base:Heap} {env:Env} {outer:List Env} {L e:Addr} {oe:Obj} {vs:Array Value} {to:Option Addr} {Q:Unit->Shared->Prop}
  (hfr:A.frames=some (env::outer)) (hl:s.heap.FunFrames base (env::outer)) (hf:env.frame=some L)
  (he:s.heap.get? e=some oe) (hd:oe.data=.fields vs) (hto:Lies s.heap e vs to)
  (h:∀ h' T oT ts,h'.get? e=some (Obj.mapFields (·.setIfInBounds 1 (.ref T)) oe)->s.heap.objs.size<=T->T≠e->h'.get? T=some oT->oT.data=.fields ts->ts[3]?=some (rawInt L) ->
   (∀ b o,b≠e->(∀ T,to=some T->b≠T)->b ∉ wu (env::outer)->s.heap.get? b=some o->h'.get? b=some o) ->
   (∀ b o,b≠e->(∀ T,to=some T->b≠T)->s.heap.get? b=some o->∃ sl,h'.get? b=some { o with slots:=sl })->(∀ b o,s.heap.get? b=some o->∃ o',h'.get? b=some o')->Q () { s with heap:=h' }) :
  wpAny M A (noteFrame (.ref e) env) Q E s:=by
 unfold noteFrame
 simp only [hf]
 cases to with
 | none =>
  have h1:vs[1]?=some .none:=hto
  refine wpAny_bind (wpAny_field he hd h1 ?_)
  rw [if_neg (by decide)]
  refine r0 hfr hl hf he hd (Array.getElem?_eq_some_iff.mp h1).1 fun h' T oT ts a1 a2 a3 a4 a5 a6 a7 a8=>?_
  refine h h' T oT ts a1 a2 a3 a4 a5 a6 (fun b o n1 _ n2 q=>a7 b o n1 n2 q) (fun b o n1 _ q=>a8 b o n1 q) fun b o q=>?_
  by_cases z:b=e
  ·subst z;exact ⟨_,a1⟩
  ·obtain ⟨sl,r⟩:=a8 b o z q;exact ⟨_,r⟩
 | some T0 =>
  obtain ⟨h1,hTe,oT,ts,hT,hdT,h3⟩:=hto
  refine wpAny_bind (wpAny_field he hd h1 ?_)
  rw [if_pos (show (Value.ref T0 != Value.none)=true from by simp)]
  refine wpAny_bind (wpAny_field hT hdT h3 ?_)
  rw [if_neg (show ¬ ((Value.none==rawInt L)=true) from by simp [rawInt])]
  refine wpAny_bind (wpAny_setField hT hdT (Array.getElem?_eq_some_iff.mp h3).1 ?_)
  have other:∀ b,b≠T0->(s.heap.update T0 (Obj.mapFields (·.setIfInBounds 3 Value.none))).get? b=s.heap.get? b:=fun b hb=>Heap.get?_update_other _ _ (Ne.symm hb)
  have noRecord:∀ b o,s.heap.get? b=some o->(∀ vs,o.data≠.fields vs)->b≠T0:=fun b o hb hnf q=>by
   rw [q,hT] at hb;injection hb with hb;subst hb;exact hnf ts hdT
  have hT2:=Heap.get?_update_self (Obj.mapFields (·.setIfInBounds 3 Value.none)) hT (Obj.isFreed_of_fields (Obj.data_mapFields hdT _))
  refine r0 hfr (hl.of_keeps fun b o hb hnf=>⟨o,(other b (noRecord b o hb hnf)).trans hb,rfl⟩) hf ((other e (Ne.symm hTe)).trans he) hd (Array.getElem?_eq_some_iff.mp h1).1 fun h' T oT' ts' a1 a2 a3 a4 a5 a6 a7 a8=>?_
  refine h h' T oT' ts' a1 (by simpa [Heap.update] using a2) a3 a4 a5 a6 (fun b o n1 n2 n3 q=>a7 b o n1 n3 ((other b (n2 T0 rfl)).trans q)) (fun b o n1 n2 q=>a8 b o n1 ((other b (n2 T0 rfl)).trans q)) fun b o q=>?_
  by_cases z:b=e
  ·subst z;exact ⟨_,a1⟩
  ·by_cases z2:b=T0
   ·subst z2
    obtain ⟨sl,r⟩:=a8 b _ z hT2;exact ⟨_,r⟩
   ·obtain ⟨sl,r⟩:=a8 b o z ((other b z2).trans q);exact ⟨_,r⟩
end
end L2
namespace L2
open PySem PySem.Spec PyProof.Rows
def k6 (C:Addr) (dd:Option Addr) (e:Addr):HO:=.ext fun h=>∃ t,h.get? e=some ⟨.ref C,dd,.fields #[.ref t,.none,.none,.none,.bool false,.none],#[]⟩
def Js (C:Addr) (dd:Option Addr) (e T:Addr):HO:=.ext fun h=>∃ vs,h.get? e=some ⟨.ref C,dd,.fields vs,#[]⟩/\vs[1]?=some (.ref T)
def QM (fl:Value) (T:Addr):HO:=.ext fun h=>∃ oT ts,h.get? T=some oT/\oT.data=.fields ts/\ts[3]?=some fl
def m_ (Hc:Hp) (e T C:Addr) (dd:Option Addr) (fl:Value):Hp:=upd (upd Hc T (QM fl T)) e (Js C dd e T)
theorem pI {Hc:Hp} {e T C:Addr} {dd:Option Addr} {fl:Value}:m_ Hc e T C dd fl e=some (Js C dd e T):=aC
theorem qk {Hc:Hp} {e T C:Addr} {dd:Option Addr} {fl:Value} (n:T≠e):m_ Hc e T C dd fl T=some (QM fl T):=by unfold m_;rw [ar n,aC]
theorem jf {Hc:Hp} {e T C b:Addr} {dd:Option Addr} {fl:Value} (n:b≠e) (n2:b≠T):m_ Hc e T C dd fl b=Hc b:=by unfold m_;rw [ar n,ar n2]
section
variable {X:Cx} {pins:List (Addr×Obj)} {σ:St} {H:Hp} {s:Shared}
theorem Inv.note {Hc:Hp} {e C:Addr} {dd:Option Addr} {to:Option Addr} {vs:Array Value} {φ:Heap->Prop} {Q:Unit->Shared->Prop} {E:Value->Shared->Prop} (I:Inv X pins σ H s) (hst:X.stack=X.env::X.outer) (hf:X.env.frame=some X.env.locals)
  (he:H e=some (.ext φ)) (hx:s.heap.get? e=some ⟨.ref C,dd,.fields vs,#[]⟩) (lies:Lies s.heap e vs to) (hT:∀ T,to=some T->(∃ ψ,H T=some (.ext ψ))/\Hc T=none) (hc:∀ b,b≠e->(∀ T,to=some T->b≠T)->Hc b=H b)
  (h:∀ h' T,Hc T=none->T≠e->Inv X pins σ (m_ Hc e T C dd (rawInt X.env.locals)) { s with heap:=h' }->Q () { s with heap:=h' }) :
  wpAny (model X.prog X.w) X.A (noteFrame (.ref e) X.env) Q E s:=by
 have hl:=I.stack
 have hfr:=I.ok.frames
 have sf:=I.o_
 rw [hst] at hl hfr sf
 refine zv (base:=X.base) hfr hl hf hx rfl lies fun h' T oT ts a1 a2 a3 a4 a5 a6 a7 a8 a9=>?_
 have hTn:H T=none:=I.a_.fresh a2
 have nT:∀ b u,H b=some u->b≠T:=fun b u q z=>by rw [z,hTn] at q;cases q
 have ext_ne:∀ b u,H b=some u->(∀ ψ,u≠.ext ψ)->b≠e/\∀ T0,to=some T0->b≠T0:=by
  intro b u q hu
  refine ⟨fun z=>?_,fun T0 z w=>?_⟩
  ·rw [z,he] at q;exact hu _ (Option.some.inj q).symm
  ·obtain ⟨⟨ψ,q2⟩,_⟩:=hT T0 z
   rw [w,q2] at q;exact hu _ (Option.some.inj q).symm
 have old:∀ b u,H b=some u->(∀ ψ,u≠.ext ψ)->m_ Hc e T C dd (rawInt X.env.locals) b=some u:=fun b u q hu=>by
  obtain ⟨n1,n2⟩:=ext_ne b u q hu
  rw [jf n1 (nT b u q),hc b n1 n2];exact q
 have hcT:Hc T=none:=by
  by_cases z:∃ T0,to=some T0/\T=T0
  ·obtain ⟨T0,z1,z2⟩:=z;rw [z2];exact (hT T0 z1).2
  ·rw [hc T a3 fun T0 z1 z2=>z ⟨T0,z1,z2⟩];exact hTn
 have un:∀ b o,s.heap.get? b=some o->H b=none->b≠e/\(∀ T0,to=some T0->b≠T0)/\b≠T:=by
  intro b o q n
  refine ⟨fun z=>?_,fun T0 z w=>?_,Nat.ne_of_lt (Nat.lt_of_lt_of_le (Heap.lt_size q) a2)⟩
  ·rw [z,he] at n;cases n
  ·obtain ⟨⟨ψ,q2⟩,_⟩:=hT T0 z
   rw [w,q2] at n;cases n
 refine h h' T hcT a3 ?_
 have U:Un (wu X.stack) [] H (m_ Hc e T C dd (rawInt X.env.locals)) s.heap h':=by
  rw [hst]
  refine ⟨fun b o q n nf _=>?_,fun b o q n _ _=>?_,fun b o q n _=>?_,fun b o q _=>a9 b o q,fun b xs q=>old b _ q (fun _ z=>nomatch z),fun b ob u q=>old b _ q (fun _ z=>nomatch z),fun b ps q=>⟨#[],?_⟩⟩
  ·obtain ⟨n1,n2,_⟩:=un b o q n;exact a7 b o n1 n2 nf q
  ·obtain ⟨n1,n2,_⟩:=un b o q n;exact a8 b o n1 n2 q
  ·obtain ⟨n1,n2,n3⟩:=un b o q n
   rw [jf n1 n3,hc b n1 n2];exact n
  ·rw [old b _ q (fun _ z=>nomatch z)];simp
 have ok:mV X.prog X.w (m_ Hc e T C dd (rawInt X.env.locals)) h':=fun b u q=>by
  by_cases z:b=e
  ·subst z
   rw [pI] at q;cases q
   refine ⟨⟨_,a1,?_⟩,⟨_,a1⟩,fun h1 h2 ⟨ws,q1,q2⟩ k=>⟨ws,k _ q1,q2⟩⟩
   have hsz:1<vs.size:=by
    cases to with
    | none=>exact (Array.getElem?_eq_some_iff.mp (show vs[1]?=some .none from lies)).1
    | some T0=>exact (Array.getElem?_eq_some_iff.mp lies.1).1
   simp [hsz]
  ·by_cases z2:b=T
   ·subst z2
    rw [qk a3] at q;cases q
    exact ⟨⟨oT,ts,a4,a5,a6⟩,⟨_,a4⟩,fun h1 h2 ⟨o1,t1,q1,q2,q3⟩ k=>⟨o1,t1,k _ q1,q2,q3⟩⟩
   ·rw [jf z z2] at q
    have z3:∀ T0,to=some T0->b≠T0:=fun T0 w w2=>by rw [w2,(hT T0 w).2] at q;cases q
    rw [hc b z z3] at q
    have nf:∀ c u',H c=some u'->c ∉ wu (X.env::X.outer):=fun c u' q' hm=>by have:=sf c hm;rw [q'] at this;cases this
    refine (I.a_ b u q).lN (fun c v hc' q'=>?_) (fun c q'=>old c _ q' (fun _ z=>nomatch z)) fun c xs q'=>old c _ q' (fun _ z=>nomatch z)
    rcases hc' with rfl | hc'
    ·exact a7 c v z z3 (nf c u q) q'
    ·obtain ⟨n1,n2⟩:=ext_ne c _ hc' (fun _ z=>nomatch z)
     exact a7 c v n1 n2 (nf c _ hc') q'
 exact I.call (ch:=[]) U ok I.bare (fun b z=>absurd z (by simp))
theorem Inv.yO {Hc:Hp} {e T C:Addr} {dd:Option Addr} {fl:Value} (I:Inv X pins σ (m_ Hc e T C dd fl) s) (n:T≠e):∃ vs oT ts,s.heap.get? e=some ⟨.ref C,dd,.fields vs,#[]⟩/\vs[1]?=some (.ref T)/\s.heap.get? T=some oT/\oT.data=.fields ts/\ts[3]?=some fl:=by
 obtain ⟨vs,h1,h2⟩:=(I.a_ e _ pI).1
 obtain ⟨oT,ts,q⟩:=(I.a_ T _ (qk n)).1
 exact ⟨vs,oT,ts,h1,h2,q⟩
theorem Inv.Jt {Hc:Hp} {e T C:Addr} {dd:Option Addr} {fl:Value} {Q:Unit->Shared->Prop} {E:Value->Shared->Prop} (I:Inv X pins σ (m_ Hc e T C dd fl) s) (hfl:fl=.none\/fl=rawInt X.env.locals) (n:T≠e) (hcT:Hc T=none) (hst:X.stack=X.env::X.outer) (hf:X.env.frame=some X.env.locals)
  (h:∀ h' T,Hc T=none->T≠e->Inv X pins σ (m_ Hc e T C dd (rawInt X.env.locals)) { s with heap:=h' }->Q () { s with heap:=h' }) :
  wpAny (model X.prog X.w) X.A (noteFrame (.ref e) X.env) Q E s:=by
 obtain ⟨vs,oT,ts,hx,h1,hT,hd,h3⟩:=I.yO n
 rcases hfl with rfl | rfl
 ·refine I.note (Hc:=Hc) (to:=some T) hst hf pI hx ⟨h1,n,oT,ts,hT,hd,h3⟩ (fun T0 z=>?_) (fun b n1 n2=>(jf n1 (n2 T rfl)).symm) h
  cases z
  exact ⟨⟨_,qk n⟩,hcT⟩
 ·unfold noteFrame
  simp only [hf]
  refine wpAny_bind (wpAny_field hx rfl h1 ?_)
  rw [if_pos (show (Value.ref T != Value.none)=true from by simp)]
  refine wpAny_bind (wpAny_field hT hd h3 ?_)
  rw [if_pos (show (rawInt X.env.locals==rawInt X.env.locals)=true from by simp)]
  exact wpAny_pure (h s.heap T hcT n I)
theorem Inv.IJ {e C:Addr} {dd:Option Addr} {Q:Unit->Shared->Prop} {E:Value->Shared->Prop} (I:Inv X pins σ H s) (he:H e=some (k6 C dd e)) (hst:X.stack=X.env::X.outer) (hf:X.env.frame=some X.env.locals)
  (h:∀ h' T,upd H e (gU C dd e) T=none->T≠e->Inv X pins σ (m_ (upd H e (gU C dd e)) e T C dd (rawInt X.env.locals)) { s with heap:=h' }->Q () { s with heap:=h' }) :
  wpAny (model X.prog X.w) X.A (noteFrame (.ref e) X.env) Q E s:=by
 obtain ⟨t,hx⟩:=(I.a_ e _ he).1
 exact I.note (Hc:=upd H e (gU C dd e)) (to:=none) hst hf he hx rfl (fun _ z=>by cases z) (fun b n1 _=>ar n1) h
theorem Inv.qm {Hc:Hp} {e T C:Addr} {dd:Option Addr} {fl:Value} {fr:Option Addr} {Q:Unit->Shared->Prop} {E:Value->Shared->Prop} (I:Inv X pins σ (m_ Hc e T C dd fl) s) (n:T≠e)
  (h:∀ h',Inv X pins σ (m_ Hc e T C dd (fr.elim .none fun f=>rawInt f)) { s with heap:=h' }->Q () { s with heap:=h' }) :
  wpAny (model X.prog X.w) X.A (setFlight (.ref e) fr) Q E s:=by
 obtain ⟨vs,oT,ts,hx,h1,hT,hd,h3⟩:=I.yO n
 unfold setFlight
 refine wpAny_bind (wpAny_field hx rfl h1 ?_)
 rw [if_pos (show (Value.ref T != Value.none)=true from by simp)]
 have hsz:3<ts.size:=(Array.getElem?_eq_some_iff.mp h3).1
 refine wpAny_setField hT hd hsz (h _ ?_)
 have other:∀ b,b≠T->(s.heap.update T (Obj.mapFields (·.setIfInBounds 3 (fr.elim Value.none fun f=>rawInt f)))).get? b=s.heap.get? b:=fun b hb=>Heap.get?_update_other _ _ (Ne.symm hb)
 have hT2:=Heap.get?_update_self (Obj.mapFields (·.setIfInBounds 3 (fr.elim Value.none fun f=>rawInt f))) hT (Obj.isFreed_of_fields (Obj.data_mapFields hd _))
 have nT:∀ b,m_ Hc e T C dd fl b=none->b≠T:=fun b q z=>by rw [z,qk n] at q;cases q
 have same:∀ b,b≠T->m_ Hc e T C dd (fr.elim .none fun f=>rawInt f) b=m_ Hc e T C dd fl b:=fun b z=>by
  by_cases w:b=e
  ·subst w;rw [pI,pI]
  ·rw [jf w z,jf w z]
 have ne:∀ b u,m_ Hc e T C dd fl b=some u->(∀ ψ,u≠.ext ψ)->b≠T:=fun b u q hu z=>by rw [z,qk n] at q;exact hu _ (Option.some.inj q).symm
 refine I.un (t':=s.toks) ⟨fun b o q z _ _=>(other b (nT b z)).trans q,fun b o q z _ _=>⟨o.slots,(other b (nT b z)).trans q⟩,fun b o q z _=>by rw [same b (nT b z)];exact z,fun b o q _=>?_,fun b xs q=>?_,fun b ob u q=>?_,fun b ps q=>⟨#[],?_⟩⟩ fun b u q=>?_
 ·by_cases z:b=T
  ·subst z;exact ⟨_,hT2⟩
  ·exact ⟨o,(other b z).trans q⟩
 ·rw [same b (ne b _ q fun _ z=>nomatch z)];exact q
 ·rw [same b (ne b _ q fun _ z=>nomatch z)];exact q
 ·rw [same b (ne b _ q fun _ z=>nomatch z),q];simp
 ·by_cases z:b=T
  ·subst z
   rw [qk n] at q;cases q
   refine ⟨⟨_,_,hT2,Obj.data_mapFields hd _,?_⟩,⟨_,hT2⟩,fun h1 h2 ⟨o1,t1,q1,q2,q3⟩ k=>⟨o1,t1,k _ q1,q2,q3⟩⟩
   simp [hsz]
  ·rw [same b z] at q
   refine (I.a_ b u q).lN (fun c v hc q'=>(other c ?_).trans q') (fun c q'=>?_) fun c xs q'=>?_
   ·rcases hc with rfl | hc
    ·exact z
    ·exact ne c _ hc fun _ z=>nomatch z
   ·rw [same c (ne c _ q' fun _ z=>nomatch z)];exact q'
   ·rw [same c (ne c _ q' fun _ z=>nomatch z)];exact q'
end
def bT (P:Program) (w:World):Ec:=fun outer H s E e s'=>∃ (ea T C:Addr) (dd:Option Addr) (Hc:Hp),e=.ref ea/\s'.os=s.os/\AllBare s'.gens/\Un (wu outer) [] H (m_ Hc ea T C dd .none) s.heap s'.heap/\mV P w (m_ Hc ea T C dd .none) s'.heap ∧
 Hc ea=some (gU C dd ea)/\Hc T=none/\T≠ea/\E (.ref ea) none Hc
def Zx (X : Cx) (E : St -> XK) (e : Value) (s : Shared) : Prop := ∃ (ea C : Addr) (dd : Option Addr) (pins : List (Addr × Obj)) (σ : St), e = .ref ea ∧
  ((∃ H, Inv X pins σ H s /\ H ea = some (k6 C dd ea) /\ E σ (.ref ea) none (upd H ea (gU C dd ea))) ∨
   (∃ Hc T fl, Inv X pins σ (m_ Hc ea T C dd fl) s /\ (fl = .none \/ fl = rawInt X.env.locals) /\ Hc ea = some (gU C dd ea) /\ Hc T = none /\ T ≠ ea /\ E σ (.ref ea) none Hc))
theorem Zx.note {X:Cx} {E:St->XK} {e:Value} {s:Shared} {Q:Unit->Shared->Prop} {F:Value->Shared->Prop} (z:Zx X E e s) (hst:X.stack=X.env::X.outer) (hf:X.env.frame=some X.env.locals)
  (h:∀ s' ea C dd pins σ Hc T,e=.ref ea->Inv X pins σ (m_ Hc ea T C dd (rawInt X.env.locals)) s'->Hc ea=some (gU C dd ea)->Hc T=none->T≠ea->E σ (.ref ea) none Hc->Q () s') :
  wpAny (model X.prog X.w) X.A (noteFrame e X.env) Q F s:=by
 obtain ⟨ea,C,dd,pins,σ,rfl,⟨H,I,h1,h2⟩ | ⟨Hc,T,fl,I,h1,h2,h3,h4,h5⟩⟩:=z
 ·exact I.IJ h1 hst hf fun h' T q1 q2 I2=>h _ ea C dd pins σ _ T rfl I2 aC q1 q2 h2
 ·exact I.Jt h1 h4 h3 hst hf fun h' T q1 q2 I2=>h _ ea C dd pins σ _ T rfl I2 h2 q1 q2 h5
theorem Zx.FQ {X:Cx} {E:XK} {e:Value} {s:Shared} {F:Value->Shared->Prop} (z:Zx X (fun _=>E) e s) (hst:X.stack=X.env::X.outer) (hf:X.env.frame=some X.env.locals) (hex:X.ex=[]) :
  wpAny (model X.prog X.w) X.A (leaving X.env e) (fun _ s'=>bT X.prog X.w X.outer X.H₀ X.s₀ E e s') F s:=by
 unfold leaving
 refine wpAny_bind (z.note hst hf fun s' ea C dd pins σ Hc T he I h1 h2 h3 h4=>?_)
 subst he
 refine I.qm h3 fun h' I2=>⟨ea,T,C,dd,Hc,rfl,I2.os,I2.bare,?_,I2.a_,h1,h2,h3,h4⟩
 have:=I2.base
 rw [hex] at this
 exact this
theorem Zx.own {X:Cx} {E:St->XK} (hst:X.stack=X.env::X.outer) (hf:X.env.frame=some X.env.locals):PassesOwn (model X.prog X.w) X.A X.env (Zx X E):=by
 intro e s z
 refine z.note hst hf fun s' ea C dd pins σ Hc T he I h1 h2 h3 h4=>?_
 subst he
 obtain ⟨vs,oT,ts,hx,q1,_⟩:=I.yO h3
 show wpAny _ _ _ _ _ _
 refine wpAny_bind (wpAny_field hx rfl q1 ?_)
 rw [if_neg (show ¬ ((Value.ref T==Value.none)=true) from by simp)]
 rw [hf]
 refine I.qm h3 fun h' I2=>⟨ea,C,dd,pins,σ,rfl,.inr ⟨Hc,T,_,I2,.inr rfl,h1,h2,h3,h4⟩⟩
structure eU (X:Cx) (E:St->XK):Prop where
 pass:∀ (pins:List (Addr×Obj)) (σ:St) (H:Hp) (s:Shared) (e:Value) (s':Shared),Inv X pins σ H s->bT X.prog X.w X.stack H s (E σ) e s'->X.xe e s'
 new:∀ (pins:List (Addr×Obj)) (σ:St) (H:Hp) (s:Shared) (e C:Addr) (dd:Option Addr),Inv X pins σ H s->H e=some (k6 C dd e)->E σ (.ref e) none (upd H e (gU C dd e))->X.xe (.ref e) s
 own:PassesOwn (model X.prog X.w) X.A X.env X.xe
abbrev Cx.out (X:Cx) (E:St->XK):Cx:=X.pR (Zx X E)
theorem Bk {X:Cx} {E:St->XK} (hst:X.stack=X.env::X.outer) (hf:X.env.frame=some X.env.locals):eU (X.out E) E where
 pass:=by
  intro pins σ H s e s' I h
  obtain ⟨ea,T,C,dd,Hc,rfl,os,bare,un,a_,h1,h2,h3,hE⟩:=h
  have I':=I.eB.x_ (ch:=[]) os un a_ bare (fun b z=>absurd z (by simp))
  exact ⟨ea,C,dd,pins,σ,rfl,.inr ⟨Hc,T,.none,I',.inl rfl,h1,h2,h3,hE⟩⟩
 new:=fun pins σ H s e C dd I he hE=>⟨e,C,dd,pins,σ,rfl,.inl ⟨H,I.eB,he,hE⟩⟩
 own:=Zx.own hst hf
theorem wR {P:Program} {w:World} {K:PySem.W.Frag} {mg:Str->Option Value} {base:Heap} {k:Nat} {f:Addr} {name qual:Str} {params:Arguments} {body:List Stmt} {scope:Scope} {dV kV doc pm cdv ct oc:Value} {an od:Option Addr}
  {osl:Array (Option Value)} {N ps:List Str} {sp:Sp} (lk:K.lookup f=some ⟨oc,od,.func (PySem.W.fnOf name qual params body scope dV kV doc pm an cdv ct),osl⟩) (hcd:PySem.W.codeIn K cdv qual=true) (S:ay N ps scope)
  (len:∀ vs H Q E,sp vs H Q E->vs.length=ps.length)
  (hbody:∀ (A:Around) (outer:List Env) (s:Shared) (H:Hp) (vs:List V) (Q:VK) (E:XK),bV k (A.deeper (envOfC qual scope s.heap.objs.size f cdv))->sp vs H Q E ->
   ∃ t,lZ ((ot (bT P w) P w K mg base N qual scope f cdv A outer s H E).out fun _=>E) body t/\t { nx:=fun _ H'=>Q .cS H',rt:=Q } (start N vs) H) :
  aN P w K mg base (bT P w) (k+1) f (PySem.W.fnOf name qual params body scope dV kV doc pm an cdv ct) ps sp:=by
 refine Jb lk hcd S len fun A outer s H vs Q E hr hs=>?_
 obtain ⟨t,h1,h2⟩:=hbody A outer s H vs Q E hr hs
 refine ⟨t,fun pins s1 σ H1 D I q=>?_,h2⟩
 refine wpAny_mono (h1 pins s1 σ H1 D (I.pR _) q) (fun f s' z=>z.eB) fun e s' z=>?_
 exact z.FQ rfl rfl rfl
end L2
namespace L2
open PySem PySem.Spec PyProof.Rows
open PySem.Builtin.ObjectAttr (storeInOwnDict storeTaker? setByDescriptor)
theorem uc {P:Program} {w:World} {H:Hp} {h:Heap} {C e t:Addr} {dd:Option Addr} (he:h.get? e=some ⟨.ref C,dd,.fields #[.ref t,.none,.none,.none,.bool false,.none],#[]⟩):bP P w H h e (k6 C dd e) :=
 ⟨⟨t,he⟩,⟨_,he⟩,fun _ _ ⟨t,q⟩ k=>⟨t,k _ q⟩⟩
section
variable {X:Cx} {C f:Addr} {fd:FuncData} {ps:List Str} {sp:Sp} {x:Str} {p pos:Pos} {e:Expr} {es:List Expr} {t:TA} {k:Nat}
def JD (C:Addr) (t:TA):TE:=fun σ H Q=>t σ H fun vs H1=>vs.length<=sizeLine/\∀ a,H1 a=none->Q (.ref a) (upd H1 a (k6 C none a))
theorem DI (hc:PySem.W.excIn X.K C eR "ValueError.__new__" = true) (kp:PySem.W.keepIn X.K (.ref C)=true) (hg:Gl X x) (hm:X.mg x=some (.ref C))
  (ha:PA X (e::es) t) (hdb:(x==("__debug__" : Str))=false:=by decide) (he:starEach (e::es) X.env=(false,eval e X.env)::starEach es X.env:=by rfl) (hpl:(backTo pos (starEach es X.env)).any (·.1)=false:=by rfl) :
  PE X (.Call (.Name x p) (e::es) [] pos) (JD C t):=by
 intro pins s σ H Q I h
 refine wpAny_Call_Name_kw (jj I hg hm ?_ hdb)
 refine PySem.W.callWith_K (h₀:=X.base) I.ok.mod.E_ kp (bJ (ha pos pins s σ H _ I h) fun us s1 ⟨vs,H1,I1,r,hl,q⟩=>⟨I1.jx,?_⟩) he hpl
 obtain ⟨bm,N,nm,qn,bs,hdct,sn,sub,ab,col,dd,k0,k1,k2,k3,k5,mN,hC,hN,hni,T⟩:=DT I1.jx hc
 obtain ⟨hp,g,d,tk,os⟩:=s1
 refine wpAny_call_exc_subT PySem.F.excBase_ValueError T hC hN hni (fun h' a M=>?_) (by show us.length<=sizeLine;rw [← r.length];exact hl)
 obtain ⟨t',e1,_,_⟩:=M.there
 have I2:Inv X pins σ (upd H1 a (k6 C none a)) ⟨h',g,d,tk,os⟩:=I1.Fw (t':=tk) M.keeps M.new (uc e1)
 have hn:H1 a=none:=I1.tW M.new
 exact ⟨.ref a,_,I2,rfl,q a hn⟩
def FO (C:Addr) (sp:Sp) (t:TA):TE:=fun σ H Q=>t σ H fun vs H1=>vs.length<=sizeLine/\∀ a,H1 a=none->sp (.ref a::vs) (upd H1 a (k6 C none a)) (fun v H2=>v=.cS/\Q (.ref a) H2) E0
theorem Ci (hc:p_ X.K C "ValueError.__new__" f=true) (hf:PySem.W.isFn X.K (.ref f)=true) (kp:PySem.W.keepIn X.K (.ref C)=true) (F:aN X.prog X.w X.K X.mg X.base (bT X.prog X.w) k f fd ps sp) (hr:bV (k+1) X.A) (hb:Binds X.K fd ps []) (hg:Gl X x) (hm:X.mg x=some (.ref C))
  (ha:PA X (e::es) t) (hdb:(x==("__debug__" : Str))=false:=by decide) (he:starEach (e::es) X.env=(false,eval e X.env)::starEach es X.env:=by rfl) (hpl:(backTo pos (starEach es X.env)).any (·.1)=false:=by rfl) :
  PE X (.Call (.Name x p) (e::es) [] pos) (FO C sp t):=by
 intro pins s σ H Q I h
 refine wpAny_Call_Name_kw (jj I hg hm ?_ hdb)
 refine PySem.W.callWith_K (h₀:=X.base) I.ok.mod.E_ kp (bJ (ha pos pins s σ H _ I h) fun us s1 ⟨vs,H1,I1,r,hl,q⟩=>⟨I1.jx,?_⟩) he hpl
 have X1:=I1.jx
 obtain ⟨bm,N,nm,qn,bs,hdct,sn,sub,ab,col,dd,k0,k1,k2,k3,k5,mN,hC,hN,hni,T⟩:=C9 X1 hc
 obtain ⟨hp,g,d,tk,os⟩:=s1
 have f1:=tc_lookup
 have f2:=tc_bind (.ref C)
 have hT:(⟨hp,g,d,tk,os⟩:Shared).TypeIs (.ref C) "type" := ⟨_,hC,rfl⟩
 refine wpAny_call (codeAny_of_tree ?_)
 show wpAny _ _ (callAny (.ref C) _) _ _ _
 repeat (any_goals (first | assumption | with_reducible refine wpAny_loadPart_at hC ?_ | wp_step))
 refine ⟨rfl,?_⟩
 refine codeAny_call_builtin_at (Code.quiet_builtin _ (by decide +kernel)) entry_typeCall (wpAny_check_type_call_sub hC (pA PySem.F.excBase_ValueError T hC hN hni
  (fun h' kk self=>PySem.W.bind_fn (fun b o z=>kk b o (X1 b o z)) self (beq_iff_eq.mp hf)) (fun h' kk ht hx hz=>?_) (by show us.length<=sizeLine;rw [← r.length];exact hl)))
 have I2:Inv X pins σ (upd H1 (hp.objs.size+1) (k6 C none (hp.objs.size+1))) ⟨h',g,d,tk,os⟩:=I1.Fw (t':=tk) kk (Heap.get?_none_of_le (Nat.le_succ _)) (uc hx)
 have hq:=q (hp.objs.size+1) (I1.tW (Heap.get?_none_of_le (Nat.le_succ _)))
 have r2:Vals (V.ref (hp.objs.size+1)::vs) (Value.ref (hp.objs.size+1)::us):=.cons rfl r
 have hlen:(Value.ref (hp.objs.size+1)::us++[]).length=ps.length:=by
  rw [List.append_nil,← r2.length]
  exact F.len _ _ _ _ hq
 refine wpAny_call (codeAny_mono (F.run _ X.stack _ _ ⟨Value.ref (hp.objs.size+1)::us,[]⟩ (Value.ref (hp.objs.size+1)::us) _ _ E0 (hr.make C us []) (I2.lP.make C us []) (by have:=hb _ (Value.ref (hp.objs.size+1)::us) I2.jx hlen;rwa [List.append_nil] at this) r2 hq) fun r s' hq'=>?_)
 cases r with
 | error e =>
  obtain ⟨_,_,_,_,_,_,_,_,_,_,_,_,_,z⟩:=hq'
  exact z.elim
 | ok fl =>
  cases fl with
  | ret u =>
   obtain ⟨v,H',I3,rv,ev,q3⟩:=I2.after hq'
   subst ev
   exact ⟨rv,⟨V.ref (hp.objs.size+1),H',I3,rfl,q3⟩⟩
  | next=>exact False.elim hq'
  | brk=>exact False.elim hq'
  | cont=>exact False.elim hq'
def Ga (K:PySem.W.Frag) (ta tv:TE) (f:Str):TS:=fun D σ H=>tv σ H fun y H1=>ta σ H1 fun x H2=>∃ a C,x=.ref a/\H2 a=some (k6 C none a)/\gG K C/\((PySem.W.clsIn K C).any fun cd=>f7 cd.mro)=true/\bp K C f ∧
 ∀ d,H2 d=none->d≠a->D.nx σ (upd (upd H2 d (.xd [(f,y)])) a (k6 C (some d) a))
theorem Bp {o value:Expr} {ta tv:TE} {n:Str} {pos':Pos} (ha:PE X o ta) (hv:PE X value tv) (hs:swapsWith value (some (.Attribute o n pos')) pos.line X.env=pure false):PS X (.Assign [.Attribute o n pos'] value pos) (Ga X.K ta tv n):=by
 intro pins s σ H D I h
 refine plainObj_wpAny_Assign_Attribute (bJ (hv pins s σ H _ I h) fun u s1 ⟨y,H1,I1,ry,q⟩=>bJ (ha pins s1 σ H1 _ I1 q) fun ov s2 ⟨x,H2,I2,rx,a,C,ex,ea,c,po,na,q2⟩=>?_) hs
 subst ex
 obtain rfl:ov=Value.ref a:=rx
 obtain ⟨tt,hx⟩:=(I2.a_ a _ ea).1
 refine Cf po c I2.jx hx na.Fs fun h' tk d e1 e2 e3 e4=>?_
 have hd:H2 d=none:=I2.tW e2
 have nda:d≠a:=fun z=>by rw [z,ea] at hd;cases hd
 refine ⟨σ,_,?_,q2 d hd nda⟩
 have up:∀ b,b≠a->b≠d->upd (upd H2 d (.xd [(n,y)])) a (k6 C (some d) a) b=H2 b:=fun b h1 h2=>by rw [ar h1,ar h2]
 have nd:∀ b u,s2.heap.get? b=some u->b≠d:=fun b u e z=>by rw [z,e2] at e;cases e
 have nH:∀ b u,H2 b=some u->b≠d:=fun b u e z=>by rw [z,hd] at e;cases e
 have nE:∀ b u,H2 b=some u->(∀ C dd,u≠k6 C dd a)->b≠a:=fun b u e hu z=>by
  rw [z,ea] at e
  exact hu C none (Option.some.inj e).symm
 refine I2.un (t':=tk) ⟨fun b u e z _ _=>e4 b u (fun w=>by rw [w,ea] at z;cases z) e,fun b u e z _ _=>⟨u.slots,e4 b u (fun w=>by rw [w,ea] at z;cases z) e⟩,fun b u e z _=>?_,fun b u e _=>?_,fun b xs e=>?_,fun b ob u e=>?_,fun b ps e=>?_⟩ fun b u e=>?_
 ·rw [up b (fun w=>by rw [w,ea] at z;cases z) (nd b u e)];exact z
 ·by_cases w:b=a
  ·rw [w];exact ⟨_,e1⟩
  ·exact ⟨u,e4 b u w e⟩
 ·rw [up b (nE b _ e fun _ _ z=>by cases z) (nH b _ e)];exact e
 ·rw [up b (nE b _ e fun _ _ z=>by cases z) (nH b _ e)];exact e
 ·exact ⟨#[],by rw [up b (nE b _ e fun _ _ z=>by cases z) (nH b _ e),e];simp⟩
 ·by_cases w:b=a
  ·subst w
   rw [aC] at e
   cases e
   exact uc e1
  ·rw [ar w] at e
   by_cases w2:b=d
   ·subst w2
    rw [aC] at e
    cases e
    refine ⟨_,e3,fun g=>?_⟩
    show l_ (List.lookup g [(n,y)]) (if g=n then some _ else none)
    rw [List.lookup_cons]
    by_cases z:g=n
    ·rw [if_pos z,show (g==n)=true from by simp [z]];exact ry
    ·rw [if_neg z,show (g==n)=false from by simp [z]];exact True.intro
   ·rw [ar w2] at e
    refine (I2.a_ b u e).lN (fun c v hc z=>e4 c v ?_ z) (fun c z=>?_) fun c ys z=>?_
    ·rcases hc with z' | z'
     ·rw [z'];exact w
     ·exact nE c _ z' fun _ _ z=>by cases z
    ·rw [up c (nE c _ z fun _ _ z=>by cases z) (nH c _ z)];exact z
    ·rw [up c (nE c _ z fun _ _ z=>by cases z) (nH c _ z)];exact z
end
end L2
namespace L2
open PySem PySem.Spec PyProof.Rows
section
variable {M:Model} {A:Around} {E:Value->Shared->Prop} {s:Shared}
theorem Bz {e:Addr} {o:Obj} {Q:Value->Shared->Prop} (hx:s.heap.get? e=some o) (h:Q o.cls s):wpAny M A (typeOf (.ref e)) Q E s:=by
 unfold typeOf
 exact wpAny_bind (wpAny_loadPart hx (wpAny_pure h))
theorem xU {e:Addr} {o:Obj} {vs:Array Value} {Q:Bool->Shared->Prop} (hx:s.heap.get? e=some o) (hd:o.data=.fields vs) (h:Q false s):wpAny M A (isType (.ref e)) Q E s:=by
 unfold isType loadHead
 refine wpAny_bind (wpAny_loadPart hx (wpAny_pure ?_))
 rw [hd];exact h
end
section
variable {X:Cx} {pins:List (Addr×Obj)} {σ:St} {H:Hp} {s:Shared}
def HV (K:PySem.W.Frag) (E:St->XK) (te:TE):TS:=fun D σ H=>te σ H fun v H1=>∃ e C dd,v=.ref e/\H1 e=some (k6 C dd e)/\gG K C/\PySem.W.typeIn K (.ref C)=some (.type "type")/\E σ (.ref e) none (upd H1 e (gU C dd e))
theorem uX {exc:Expr} {te:TE} {pos:Pos} {E:St->XK} (O:eU X E) (hcalm:X.calm=true) (he:PE X exc te):PS X (.Raise (some exc) none pos) (HV X.K E te):=by
 intro pins s σ H D I h
 rw [arm_exec_Raise]
 refine wpAny_bind (wpAny_standAt ?_)
 unfold raiseStmt
 dsimp only [evalOpt,Option.map]
 refine wpAny_bind (wpAny_bind (bJ (he pins s σ H _ I h) fun u s1 hq=>wpAny_bind (wpAny_standAt (wpAny_pure ?_))))
 obtain ⟨v,H1,I1,rv,e,C,dd,ev,hN,c,ht,hE⟩:=hq
 subst ev
 obtain rfl:u=Value.ref e:=rv
 obtain ⟨t,hx⟩:=(I1.a_ e _ hN).1
 have X1:=I1.jx
 refine wpAny_bind (wpAny_pure ?_)
 refine wpAny_bind (wpAny_holding ?_)
 unfold excFromValue isExcClass
 refine wpAny_bind (wpAny_bind (xU hx rfl ?_))
 refine wpAny_pure ?_
 refine wpAny_bind ?_
 unfold isInstance
 refine wpAny_bind (Bz hx ((PySem.W.looks_mroIn X1 c.mb).here ?_))
 refine wpAny_pure ?_
 dsimp only
 refine wpAny_bind (xU hx rfl ?_)
 unfold raisedInstance
 refine wpAny_bind (wpAny_bind (Bz hx (wpAny_bind ((PySem.W.looks_typeIn X1 ht).here ?_))))
 refine wpAny_pure ?_
 unfold setFlight
 refine wpAny_bind (wpAny_bind (wpAny_field hx rfl (x:=.none) rfl ?_))
 refine wpAny_pure ?_
 exact wpAny_raiseNew_none (I1.ok.hd hcalm) (O.new pins σ H1 s1 e C dd I1 hN hE)
end
end L2
namespace L2
open PySem PySem.Spec PyProof.Rows
inductive PV where
 | cS | bl (b:Bool) | int (i:Int) | str (x:Str)
 | tup (xs:List PV) | lst (xs:List PV)
 | jI (xs:List PV)
 | obj (C:Addr) (fs:List (Str×PV))
 | exc (C:Addr) (fo:Option (List (Str×PV)))
 | emp
 deriving Inhabited
mutual
inductive Rep (H:Hp):PV->V->Prop where
 | cS:Rep H .cS .cS
 | bl (b:Bool):Rep H (.bl b) (.bl b)
 | int (i:Int):Rep H (.int i) (.int i)
 | str (x:Str):Rep H (.str x) (.str x)
 | tup {a:Addr} {xs:List PV} {vs:List V}:H a=some (.tup vs)->aG H xs vs->Rep H (.tup xs) (.ref a)
 | lst {a:Addr} {xs:List PV} {vs:List V}:H a=some (.lst vs)->aG H xs vs->Rep H (.lst xs) (.ref a)
 | jI {a:Addr} {o:Obj} {xs:List PV} {vs:List V}:H a=some (.rK o (.lst vs))->aG H xs vs->Rep H (.jI xs) (.ref a)
 | obj {a C dx:Addr} {fs:List (Str×PV)} {vs:List (Str×V)}:H a=some (.ins C dx vs)->iM H fs vs->Rep H (.obj C fs) (.ref a)
 | wU {a C:Addr}:H a=some (gU C none a)->Rep H (.exc C none) (.ref a)
 | v7 {a C d:Addr} {fs:List (Str×PV)} {vs:List (Str×V)}:H a=some (gU C (some d) a)->H d=some (.xd vs)->iM H fs vs->Rep H (.exc C (some fs)) (.ref a)
 | emp {a:Addr}:H a=some (.dK [])->Rep H .emp (.ref a)
inductive aG (H:Hp):List PV->List V->Prop where
 | nil:aG H [] []
 | cons {p:PV} {v:V} {ps:List PV} {vs:List V}:Rep H p v->aG H ps vs->aG H (p::ps) (v::vs)
inductive iM (H:Hp):List (Str×PV)->List (Str×V)->Prop where
 | nil:iM H [] []
 | cons {n:Str} {p:PV} {v:V} {ps:List (Str×PV)} {vs:List (Str×V)}:Rep H p v->iM H ps vs->iM H ((n,p)::ps) ((n,v)::vs)
end
mutual
theorem Rep.mono {H H':Hp} (s:aW H H'):∀ {p:PV} {v:V},Rep H p v->Rep H' p v
 | _,_,.cS=>.cS
 | _,_,.bl b=>.bl b
 | _,_,.int i=>.int i
 | _,_,.str x=>.str x
 | _,_,.tup h r=>.tup (s _ _ h) (r.mono s)
 | _,_,.lst h r=>.lst (s _ _ h) (r.mono s)
 | _,_,.jI h r=>.jI (s _ _ h) (r.mono s)
 | _,_,.obj h r=>.obj (s _ _ h) (r.mono s)
 | _,_,.wU h=>.wU (s _ _ h)
 | _,_,.v7 h h2 r=>.v7 (s _ _ h) (s _ _ h2) (r.mono s)
 | _,_,.emp h=>.emp (s _ _ h)
theorem aG.mono {H H':Hp} (s:aW H H'):∀ {p:List PV} {v:List V},aG H p v->aG H' p v
 | _,_,.nil=>.nil
 | _,_,.cons h r=>.cons (h.mono s) (r.mono s)
theorem iM.mono {H H':Hp} (s:aW H H'):∀ {p:List (Str×PV)} {v:List (Str×V)},iM H p v->iM H' p v
 | _,_,.nil=>.nil
 | _,_,.cons h r=>.cons (h.mono s) (r.mono s)
end
theorem aG.length {H:Hp}:∀ {p:List PV} {v:List V},aG H p v->p.length=v.length
 | _,_,.nil=>rfl
 | _,_,.cons _ r=>by simp [r.length]
theorem aG.get {H:Hp}:∀ {p:List PV} {v:List V} {i:Nat} {x:PV},aG H p v->p[i]?=some x->∃ u,v[i]?=some u/\Rep H x u
 | _,_,_,_,.nil,e=>by simp at e
 | _,_,0,_,.cons h _,e=>by simp at e;subst e;exact ⟨_,rfl,h⟩
 | _,_,i+1,x,.cons _ r,e=>by
  obtain ⟨u,h1,h2⟩:=aG.get (i:=i) (x:=x) r (by simpa using e)
  exact ⟨u,by simpa using h1,h2⟩
theorem aG.append {H:Hp}:∀ {p q:List PV} {v u:List V},aG H p v->aG H q u->aG H (p++q) (v++u)
 | _,_,_,_,.nil,s=>s
 | _,_,_,_,.cons h r,s=>.cons h (r.append s)
theorem aG.take {H:Hp}:∀ {p:List PV} {v:List V} (n:Nat),aG H p v->aG H (p.take n) (v.take n)
 | _,_,0,_=>.nil
 | _,_,_+1,.nil=>.nil
 | _,_,n+1,.cons h r=>.cons h (r.take n)
theorem aG.drop {H:Hp}:∀ {p:List PV} {v:List V} (n:Nat),aG H p v->aG H (p.drop n) (v.drop n)
 | _,_,0,r=>r
 | _,_,_+1,.nil=>.nil
 | _,_,n+1,.cons _ r=>r.drop n
theorem aG.set {H:Hp} {x:PV} {u:V} (h:Rep H x u):∀ {p:List PV} {v:List V} (i:Nat),aG H p v->aG H (p.set i x) (v.set i u)
 | _,_,_,.nil=>.nil
 | _,_,0,.cons _ r=>.cons h r
 | _,_,i+1,.cons q r=>.cons q (r.set h i)
theorem aG.snoc {H:Hp} {p:List PV} {v:List V} {x:PV} {u:V} (r:aG H p v) (h:Rep H x u):aG H (p++[x]) (v++[u]):=r.append (.cons h .nil)
theorem iM.look {H:Hp} {f:Str}:∀ {p:List (Str×PV)} {v:List (Str×V)} {x:PV},iM H p v->p.lookup f=some x->∃ u,v.lookup f=some u/\Rep H x u
 | _,_,_,.nil,e=>by simp at e
 | (n,_)::_,_,x,.cons h r,e=>by
  rw [List.lookup_cons] at e ⊢
  cases q:f==n with
  | true=>rw [q] at e;cases e;exact ⟨_,rfl,h⟩
  | false=>rw [q] at e;exact r.look e
theorem iM.none {H:Hp} {f:Str}:∀ {p:List (Str×PV)} {v:List (Str×V)},iM H p v->p.lookup f=none->v.lookup f=none
 | _,_,.nil,_=>rfl
 | (n,_)::_,_,.cons h r,e=>by
  rw [List.lookup_cons] at e ⊢
  cases q:f==n with
  | true=>rw [q] at e;cases e
  | false=>rw [q] at e;exact r.none e
theorem aG.ints {H:Hp}:∀ {ns:List Int} {v:List V},aG H (ns.map PV.int) v->v=ns.map V.int
 | [],_,.nil=>rfl
 | _::_,_,.cons (.int i) r=>by rw [r.ints];rfl
theorem aG.QK {H:Hp}:∀ {ns:List Bool} {v:List V},aG H (ns.map PV.bl) v->v=ns.map V.bl
 | [],_,.nil=>rfl
 | _::_,_,.cons (.bl i) r=>by rw [r.QK];rfl
structure bu (Hs H Hs' H':Hp):Prop where
 st:aW Hs Hs'
 al:aW H H'
 sub:aW Hs' H'
 nw:∀ a o,Hs a=none->H a=some o->Hs' a=none
theorem bu.refl {Hs H:Hp} (s:aW Hs H):bu Hs H Hs H:=⟨fun _ _ e=>e,fun _ _ e=>e,s,fun _ _ e _=>e⟩
theorem bu.trans {Hs H Hs1 H1 Hs2 H2:Hp} (a:bu Hs H Hs1 H1) (b:bu Hs1 H1 Hs2 H2):bu Hs H Hs2 H2 :=
 ⟨fun c o e=>b.st c o (a.st c o e),fun c o e=>b.al c o (a.al c o e),b.sub,fun c o e q=>b.nw c o (a.nw c o e q) (a.al c o q)⟩
theorem bu.new {Hs H:Hp} {p:Addr} {o:HO} (s:aW Hs H) (n:H p=none):bu Hs H (upd Hs p o) (upd H p o):=by
 have ne:∀ c u,H c=some u->c≠p:=fun c u e z=>by rw [z,n] at e;cases e
 refine ⟨fun c u e=>?_,fun c u e=>?_,fun c u e=>?_,fun c u e q=>?_⟩
 ·rw [ar (ne c u (s c u e))];exact e
 ·rw [ar (ne c u e)];exact e
 ·by_cases z:c=p
  ·subst z;rw [aC] at e ⊢;exact e
  ·rw [ar z] at e ⊢;exact s c u e
 ·rw [ar (ne c u q)];exact e
inductive SV where
 | sh (p:PV)
 | ow (xs:List PV)
 | bd (a C:Addr) (fs:List (Str×PV))
abbrev af:=List (Option SV)
structure SR (B H₀ Hs H:Hp) (σ:St) (env:af):Prop where
 gr:bu B H₀ Hs H
 len:σ.length=env.length
 sh:∀ (i:Nat) (p:PV),env[i]?=some (some (.sh p))->∃ v,σ[i]?=some (some v)/\Rep Hs p v
 ow:∀ (i:Nat) (xs:List PV),env[i]?=some (some (.ow xs))->∃ a vs,σ[i]?=some (some (.ref a))/\H a=some (.lst vs)/\Hs a=none/\H₀ a=none/\aG Hs xs vs
 sep:∀ (i j:Nat) (xs ys:List PV) (a:Addr),i≠j->env[i]?=some (some (.ow xs))->env[j]?=some (some (.ow ys))->σ[i]?=some (some (.ref a))->σ[j]?≠some (some (.ref a))
 bd:∀ (i:Nat) (a C:Addr) (fs:List (Str×PV)),env[i]?=some (some (.bd a C fs))->∃ dx vs,σ[i]?=some (some (.ref a))/\H a=some (.ins C dx vs)/\Hs a=none/\H₀ a=none/\iM Hs fs vs
 one:∀ (i j:Nat) (a b C D:Addr) (fs gs:List (Str×PV)),env[i]?=some (some (.bd a C fs))->env[j]?=some (some (.bd b D gs))->i=j
theorem SR.grow {B H₀ Hs H Hs' H':Hp} {σ:St} {env:af} (r:SR B H₀ Hs H σ env) (g:bu Hs H Hs' H'):SR B H₀ Hs' H' σ env where
 gr:=r.gr.trans g
 len:=r.len
 sh:=fun i p e=>let ⟨v,h1,h2⟩:=r.sh i p e;⟨v,h1,h2.mono g.st⟩
 ow:=fun i xs e=>let ⟨a,vs,h1,h2,h3,h4,h5⟩:=r.ow i xs e;⟨a,vs,h1,g.al _ _ h2,g.nw _ _ h3 h2,h4,h5.mono g.st⟩
 sep:=r.sep
 bd:=fun i a C fs e=>let ⟨dx,vs,h1,h2,h3,h4,h5⟩:=r.bd i a C fs e;⟨dx,vs,h1,g.al _ _ h2,g.nw _ _ h3 h2,h4,h5.mono g.st⟩
 one:=r.one
abbrev EX:=Addr×Option (List (Str×PV))
abbrev M (α:Type):=Option (Except EX α)
def M.ok {α:Type} (a:α):M α:=some (.ok a)
def M.bind {α β:Type} (x:M α) (f:α->M β):M β:=match x with
 | some (.ok a)=>f a
 | some (.error e)=>some (.error e)
 | none=>none
instance:Monad M where
 pure:=M.ok
 bind:=M.bind
def av {α:Type} (r:M α) (Q:α->Prop) (E:EX->Prop):Prop:=match r with
 | some (.ok a)=>Q a
 | some (.error e)=>E e
 | none=>False
theorem av.imp {α:Type} {r:M α} {Q Q':α->Prop} {E E':EX->Prop} (h:av r Q E) (hq:∀ a,Q a->Q' a) (he:∀ e,E e->E' e):av r Q' E':=by
 cases r with
 | none=>exact h
 | some x=>cases x with
  | ok a=>exact hq a h
  | error e=>exact he e h
theorem av.bind {α β:Type} {x:M α} {f:α->M β} {Q:β->Prop} {E:EX->Prop} (h:av (x.bind f) Q E):av x (fun a=>av (f a) Q E) E:=by
 cases x with
 | none=>exact h
 | some x=>cases x with
  | ok a=>exact h
  | error e=>exact h
def XW (E:XK) (Hs H:Hp) (x:EX):Prop:=∀ ea Hs' H',bu Hs H Hs' H'->Rep Hs' (.exc x.1 x.2) (.ref ea)->E (.ref ea) none H'
theorem XW.grow {E:XK} {Hs H Hs' H':Hp} {x:EX} (h:XW E Hs H x) (g:bu Hs H Hs' H'):XW E Hs' H' x:=fun ea Hs2 H2 g2 r=>h ea Hs2 H2 (g.trans g2) r
def tE (E:St->XK) (f:af->M PV):TE:=fun σ H Q=>∃ B H₀ Hs env,SR B H₀ Hs H σ env/\av (f env) (fun p=>∀ v Hs' H',bu Hs H Hs' H'->Rep Hs' p v->Q v H') (XW (E σ) Hs H)
theorem PE.imp {X:Cx} {e:Expr} {t t':TE} (h:PE X e t) (i:∀ σ H Q,t' σ H Q->t σ H Q):PE X e t':=fun pins s σ H Q I q=>h pins s σ H Q I (i σ H Q q)
theorem yx {E:St->XK} {f:af->M PV} {g:af->PV->M PV} {σ:St} {H:Hp} {Q R:VK} (h:tE E (fun env=>(f env).bind (g env)) σ H Q)
  (k:∀ B H₀ Hs H1 env p v,SR B H₀ Hs H1 σ env->Rep Hs p v->av (g env p) (fun q=>∀ u Hs' H',bu Hs H1 Hs' H'->Rep Hs' q u->Q u H') (XW (E σ) Hs H1)->R v H1):tE E f σ H R:=by
 obtain ⟨B,H₀,Hs,env,sr,h⟩:=h
 refine ⟨B,H₀,Hs,env,sr,(av.bind h).imp (fun p hp v Hs' H' g r=>?_) fun e he=>he⟩
 exact k B H₀ Hs' H' env p v (sr.grow g) r (hp.imp (fun q hq u Hs2 H2 g2 r2=>hq u Hs2 H2 (g.trans g2) r2) fun e he=>he.grow g)
theorem ye {E:St->XK} {f g:af->M PV} {op:PV->PV->M PV} {r:R2} {σ:St} {H:Hp} {Q:VK} (h:tE E (fun env=>(f env).bind fun p=>(g env).bind fun q=>op p q) σ H Q)
  (k:∀ Hs H1 p q v u,aW Hs H1->Rep Hs p v->Rep Hs q u->av (op p q) (fun z=>∀ w Hs' H',bu Hs H1 Hs' H'->Rep Hs' z w->Q w H') (XW (E σ) Hs H1)->r v u H1 Q):JV r (tE E f) (tE E g) σ H Q:=by
 refine yx h fun B H₀ Hs H1 env p v sr rp hp=>?_
 refine ⟨B,H₀,Hs,env,sr,(av.bind hp).imp (fun q hq u Hs' H' g ru=>?_) fun e he=>he⟩
 exact k Hs' H' p q v u (sr.grow g).gr.sub (rp.mono g.st) ru (hq.imp (fun z hz w Hs2 H2 g2 r2=>hz w Hs2 H2 (g.trans g2) r2) fun e he=>he.grow g)
theorem JY {E:St->XK} {f:af->M PV} {op:PV->M PV} {r:V->Hp->VK->Prop} {σ:St} {H:Hp} {Q:VK} (h:tE E (fun env=>(f env).bind op) σ H Q)
  (k:∀ Hs H1 p v,aW Hs H1->Rep Hs p v->av (op p) (fun z=>∀ w Hs' H',bu Hs H1 Hs' H'->Rep Hs' z w->Q w H') (XW (E σ) Hs H1)->r v H1 Q):QG r (tE E f) σ H Q :=
 yx h fun B H₀ Hs H1 env p v sr rp hp=>k Hs H1 p v sr.gr.sub rp hp
end L2
namespace L2
open PySem PySem.Spec PyProof.Rows
def Gm (sp:Sp) (dvs:List V) (E:St->XK) (t:TA):TE:=fun σ H Q=>t σ H fun vs H1=>sp (vs++dvs) H1 Q (E σ)
def Be (C:Addr) (m:Str) (sp:Sp) (dvs:List V) (E:St->XK) (ta:TE) (t:TA):TE:=fun σ H Q=>ta σ H fun x H1=>∃ a dx fs,x=.ref a/\H1 a=some (.ins C dx fs)/\fs.lookup m=none ∧
 t σ H1 fun vs H2=>sp (x::(vs++dvs)) H2 Q (E σ)
def Iq (C:Addr) (sp:Sp) (dvs:List V) (E:St->XK) (t:TA):TE:=fun σ H Q=>t σ H fun vs H1=>∀ x dx,H1 x=none->H1 dx=none->dx≠x ->
 sp (.ref x::(vs++dvs)) (upd (upd H1 dx (.own x)) x (.ins C dx [])) (fun v H2=>v=.cS/\Q (.ref x) H2) (E σ)
section
variable {X:Cx} {k:Nat} {f C:Addr} {fd:FuncData} {ps:List Str} {sp:Sp} {dvs:List V} {ds:List Value} {E:St->XK} {x m:Str} {p pos apos:Pos} {e o:Expr} {es:List Expr} {ta:TE} {t:TA}
theorem tP {pins:List (Addr×Obj)} {σ:St} {H:Hp} {s:Shared} {Q:VK} {us:List Value} {vs:List V} (F:aN X.prog X.w X.K X.mg X.base (bT X.prog X.w) k f fd ps sp) (hr:bV k X.A) (hb:Binds X.K fd ps ds) (hd:Vals dvs ds) (hx:eU X E)
  (I:Inv X pins σ H s) (r:Vals vs us) (h:sp (vs++dvs) H Q (E σ)):wpAny (model X.prog X.w) X.A (call (.ref f) us) (EP X pins σ Q) X.xe s:=by
 have r2:Vals (vs++dvs) (us++ds):=r.append hd
 have hl:(us++ds).length=ps.length:=by rw [← r2.length];exact F.len _ _ _ _ h
 refine wpAny_call (codeAny_mono (F.run X.A X.stack s H ⟨us,[]⟩ (us++ds) (vs++dvs) Q (E σ) hr I.lP (hb s us I.jx hl) r2 h) fun r s' hq=>?_)
 cases r with
 | error e=>exact hx.pass pins σ H s e s' I hq
 | ok fl =>
  cases fl with
  | ret u=>exact I.after hq
  | next=>exact False.elim hq
  | brk=>exact False.elim hq
  | cont=>exact False.elim hq
theorem CK (F:aN X.prog X.w X.K X.mg X.base (bT X.prog X.w) k f fd ps sp) (hr:bV k X.A) (hg:Gl X x) (hm:X.mg x=some (.ref f)) (hk:PySem.W.keepIn X.K (.ref f)=true) (hb:Binds X.K fd ps ds) (hd:Vals dvs ds) (hx:eU X E)
  (ha:PA X (e::es) t) (hdb:(x==("__debug__" : Str))=false:=by decide) (he:starEach (e::es) X.env=(false,eval e X.env)::starEach es X.env:=by rfl) (hpl:(backTo pos (starEach es X.env)).any (·.1)=false:=by rfl) :
  PE X (.Call (.Name x p) (e::es) [] pos) (Gm sp dvs E t):=by
 intro pins s σ H Q I h
 refine wpAny_Call_Name_kw (jj I hg hm ?_ hdb)
 refine PySem.W.callWith_K (h₀:=X.base) I.ok.mod.E_ hk (bJ (ha pos pins s σ H _ I h) fun us s1 ⟨vs,H1,I1,r,q⟩=>⟨I1.jx,?_⟩) he hpl
 exact tP F hr hb hd hx I1 r q
theorem A9 {pl:Sem Bool} (he:PE X o ta) (c:nK X.K C) (hm:Meth X.K C m f) (F:aN X.prog X.w X.K X.mg X.base (bT X.prog X.w) k f fd ps sp) (hr:bV k X.A) (hb:Binds X.K fd ps ds) (hd:Vals dvs ds) (hx:eU X E) (ha:PA X (e::es) t)
  (hst:starEach (e::es) X.env=(false,eval e X.env)::starEach es X.env:=by rfl) (hpl:(backTo pos (starEach es X.env)).any (·.1)=false:=by rfl)
  (ht:eval (.Call (.Attribute o m apos) (e::es) [] pos) X.env=(do
   let ov ← eval o X.env
   standAt apos.atName
   let (f,first) ← holding [ov] (getMethod ov m pl)
   callWith pos f first (backTo pos (starEach (e::es) X.env)) (backToKw pos (keywordEach [] X.env))):=by rfl) :
  PE X (.Call (.Attribute o m apos) (e::es) [] pos) (Be C m sp dvs E ta t):=by
 intro pins s σ H Q I h
 refine PySem.W.methodCall_KW (pl:=pl) (bJ (he pins s σ H _ I h) fun u s1 ⟨x,H1,I1,rx,a,dx,fs,ex,ea,l,q⟩=>?_) ht
 subst ex
 obtain rfl:u=Value.ref a:=rx
 refine qf I1 ea c hm l ?_
 refine PySem.W.callWith_K (first:=[.ref a]) (h₀:=X.base) I.ok.mod.E_ hm.kp (bJ (ha pos pins s1 σ H1 _ I1 q) fun us s2 ⟨vs,H2,I2,r,q2⟩=>⟨I2.jx,?_⟩) hst hpl
 exact tP (us:=.ref a::us) (vs:=.ref a::vs) F hr hb hd hx I2 (.cons rfl r) q2
theorem zC {pl:Sem Bool} (he:PE X o ta) (c:nK X.K C) (hm:Meth X.K C m f) (F:aN X.prog X.w X.K X.mg X.base (bT X.prog X.w) k f fd ps sp) (hr:bV k X.A) (hb:Binds X.K fd ps ds) (hd:Vals dvs ds) (hx:eU X E)
  (ht:eval (.Call (.Attribute o m apos) [] [] pos) X.env=(do
   let ov ← eval o X.env
   standAt apos.atName
   let (f,first) ← holding [ov] (getMethod ov m pl)
   callWith pos f first (backTo pos (starEach [] X.env)) (backToKw pos (keywordEach [] X.env))):=by rfl) :
  PE X (.Call (.Attribute o m apos) [] [] pos) (Be C m sp dvs E ta JX):=by
 intro pins s σ H Q I h
 refine PySem.W.methodCall_KW (pl:=pl) (bJ (he pins s σ H _ I h) fun u s1 ⟨x,H1,I1,rx,a,dx,fs,ex,ea,l,q⟩=>?_) ht
 subst ex
 obtain rfl:u=Value.ref a:=rx
 refine qf I1 ea c hm l ?_
 exact PySem.W.callWith_K0 (first:=[.ref a]) I1.jx hm.kp (tP (us:=[.ref a]) (vs:=[.ref a]) F hr hb hd hx I1 (.cons rfl .nil) q)
theorem zF {pins:List (Addr×Obj)} {σ:St} {H:Hp} {s:Shared} {Q:VK} {us:List Value} {vs:List V} (M:Mk X.K C f) (F:aN X.prog X.w X.K X.mg X.base (bT X.prog X.w) k f fd ps sp) (hr:bV (k+1) X.A) (hb:Binds X.K fd ps ds) (hd:Vals dvs ds)
  (hx:eU X E) (I:Inv X pins σ H s) (r:Vals vs us)
  (h:∀ x dx,H x=none->H dx=none->dx≠x->sp (.ref x::(vs++dvs)) (upd (upd H dx (.own x)) x (.ins C dx [])) (fun v H2=>v=.cS/\Q (.ref x) H2) (E σ)) :
  wpAny (model X.prog X.w) X.A (call (.ref C) us) (EP X pins σ Q) X.xe s:=by
 have hq:=h (s.heap.objs.size+1) s.heap.objs.size (I.a_.fresh (Nat.le_succ _)) (I.a_.fresh (Nat.le_refl _)) (Nat.ne_of_lt (Nat.lt_succ_self _))
 have I2:=Inv.made (C:=C) I
 have r2:Vals (V.ref (s.heap.objs.size+1)::(vs++dvs)) (Value.ref (s.heap.objs.size+1)::(us++ds)):=.cons rfl (r.append hd)
 have hl:(Value.ref (s.heap.objs.size+1)::us++ds).length=ps.length:=by
  have e:=r2.length
  rw [F.len _ _ _ _ hq] at e
  exact e.symm
 refine wpAny_call (Au (f:=f) I.jx M.makes M.init (beq_iff_eq.mp M.fn) (codeAny_mono (F.run _ X.stack _ _ ⟨Value.ref (s.heap.objs.size+1)::us,[]⟩ (Value.ref (s.heap.objs.size+1)::(us++ds)) _ _ (E σ) (hr.make C us [])
  (I2.lP.make C us []) (hb _ (Value.ref (s.heap.objs.size+1)::us) I2.jx hl) r2 hq) fun r s' hq'=>?_))
 cases r with
 | error e=>exact hx.pass pins σ _ _ e s' I2 hq'
 | ok fl =>
  cases fl with
  | ret u =>
   obtain ⟨v,H',I3,rv,ev,q3⟩:=I2.after hq'
   subst ev
   exact ⟨rv,⟨V.ref (s.heap.objs.size+1),H',I3,rfl,q3⟩⟩
  | next=>exact False.elim hq'
  | brk=>exact False.elim hq'
  | cont=>exact False.elim hq'
theorem AV (M:Mk X.K C f) (F:aN X.prog X.w X.K X.mg X.base (bT X.prog X.w) k f fd ps sp) (hr:bV (k+1) X.A) (hg:Gl X x) (hm:X.mg x=some (.ref C)) (hb:Binds X.K fd ps ds) (hd:Vals dvs ds) (hx:eU X E)
  (ha:PA X (e::es) t) (hdb:(x==("__debug__" : Str))=false:=by decide) (he:starEach (e::es) X.env=(false,eval e X.env)::starEach es X.env:=by rfl) (hpl:(backTo pos (starEach es X.env)).any (·.1)=false:=by rfl) :
  PE X (.Call (.Name x p) (e::es) [] pos) (Iq C sp dvs E t):=by
 intro pins s σ H Q I h
 refine wpAny_Call_Name_kw (jj I hg hm ?_ hdb)
 refine PySem.W.callWith_K (h₀:=X.base) I.ok.mod.E_ M.kp (bJ (ha pos pins s σ H _ I h) fun us s1 ⟨vs,H1,I1,r,q⟩=>⟨I1.jx,?_⟩) he hpl
 exact zF M F hr hb hd hx I1 r q
end
end L2
namespace L2
open PySem PySem.Spec PyProof.Rows
abbrev er (Hs H:Hp) (Q:VK):PV->Prop:=fun z=>∀ w Hs' H',bu Hs H Hs' H'->Rep Hs' z w->Q w H'
theorem er.flat {Hs H:Hp} {Q:VK} {p:PV} {v:V} (h:er Hs H Q p) (s:aW Hs H) (r:Rep Hs p v):Q v H:=h v Hs H (.refl s) r
theorem er.tup {Hs H:Hp} {Q:VK} {xs:List PV} {vs:List V} (h:er Hs H Q (.tup xs)) (s:aW Hs H) (r:aG Hs xs vs):∀ p,H p=none->Q (.ref p) (upd H p (.tup vs)) :=
 fun p n=>h _ (upd Hs p (.tup vs)) _ (bu.new s n) (.tup aC (r.mono (bu.new s n).st))
theorem er.lst {Hs H:Hp} {Q:VK} {xs:List PV} {vs:List V} (h:er Hs H Q (.lst xs)) (s:aW Hs H) (r:aG Hs xs vs):∀ p,H p=none->Q (.ref p) (upd H p (.lst vs)) :=
 fun p n=>h _ (upd Hs p (.lst vs)) _ (bu.new s n) (.lst aC (r.mono (bu.new s n).st))
namespace HT
theorem BH {prog:Program} {w:World} {A:Around} {E:Value->Shared->Prop} {s:Shared} {t b:Addr} {ws:List Value} {Q:Value->Shared->Prop} (ht:IsTup s.heap t #[]) (hb:IsTup s.heap b ws.toArray)
  (h1:Q (.ref b) s):wpAny (model prog w) A (binaryOp .Add (.ref t) (.ref b)) Q E s:=by
 obtain ⟨⟨cls,dd,data,sl⟩,ho,hc,n,hd⟩:=id ht
 obtain ⟨⟨cls2,dd2,data2,sl2⟩,ho2,hc2,n2,hd2⟩:=id hb
 simp only at hc hd hc2 hd2
 subst hc hd hc2 hd2
 exact concat_meets ⟨_,ho,rfl⟩ ⟨_,ho2,rfl⟩ noFill_tuple_add seq_tuple_add PySem.F.slot_tuple_add PySem.F.entry_tuple_add (PySem.F.args_tuple_add_2 _ _)
   (tuple_addW0 t b #[] ws.toArray n n2 dd dd2 sl sl2 rfl) ⟨ho,ho2,h1⟩
end HT
def Bm (K:PySem.W.Frag):R2:=fun x y H Q=>∃ a b ys,x=.ref a/\y=.ref b/\gT K H a []/\gT K H b ys/\Q (.ref b) H
theorem Av {X:Cx}:gf X (binaryOp .Add) (Bm X.K):=by
 intro pins s σ H x y v u Q I rx ry h
 obtain ⟨a,b,ys,rfl,rfl,ha,hb,q1⟩:=h
 cases rx
 cases ry
 obtain ⟨its,r1,p1,_⟩:=I.tuple ha
 obtain ⟨its2,r2,p2,_⟩:=I.tuple hb
 have e:its=[]:=r1.mK.mpr rfl
 subst e
 exact HT.BH p1 p2 ⟨.ref b,H,I,rfl,q1⟩
def cC {α:Type} (c:Prop) [Decidable c] (x:M α):M α:=if c then x else none
theorem av.cC {α:Type} {c:Prop} [Decidable c] {x:M α} {Q:α->Prop} {E:EX->Prop} (h:av (L2.cC c x) Q E):c/\av x Q E:=by
 unfold L2.cC at h
 by_cases hc:c
 ·rw [if_pos hc] at h;exact ⟨hc,h⟩
 ·rw [if_neg hc] at h;exact h.elim
def eS (o:Option PV):M PV:=match o with
 | some x=>M.ok x
 | none=>none
theorem av.opt {o:Option PV} {Q:PV->Prop} {E:EX->Prop} (h:av (eS o) Q E):∃ x,o=some x/\Q x:=by
 cases o with
 | none=>exact h.elim
 | some x=>exact ⟨x,rfl,h⟩
section
variable {X:Cx} {E:St->XK} {a b c e:Expr} {pos:Pos} {f g h:af->M PV}
def aa (i:Nat) (env:af):M PV:=match env[i]? with
 | some (some (.sh p))=>M.ok p
 | _=>none
theorem G6 {i:Nat} {x:Str} (hN:X.N[i]?=some x) (hv:BB X.env.scope x) (hd:(x==("__debug__" : Str))=false:=by decide) (hcd:(x==("__classdict__" : Str))=false:=by decide):PE X (.Name x pos) (tE E (aa i)):=by
 refine (mX hN hv hd hcd).imp fun σ H Q q=>?_
 obtain ⟨B,H₀,Hs,env,sr,q⟩:=q
 unfold aa at q
 split at q
 ·rename_i p e
  obtain ⟨v,h1,h2⟩:=sr.sh i p e
  exact ⟨v,h1,er.flat q sr.gr.sub h2⟩
 ·exact q.elim
theorem md {p:PV} {v:V} (he:PE X e (tC v)) (r:∀ H,Rep H p v):PE X e (tE E fun _=>M.ok p):=by
 refine he.imp fun σ H Q q=>?_
 obtain ⟨B,H₀,Hs,env,sr,q⟩:=q
 exact er.flat q sr.gr.sub (r Hs)
theorem A6 {i:Int} {j:Nat}:PE X (.Constant (.int i) j pos) (tE E fun _=>M.ok (.int i)):=md G7 fun _=>.int i
theorem J2 {i:Bool} {j:Nat}:PE X (.Constant (.bool i) j pos) (tE E fun _=>M.ok (.bl i)):=md JK fun _=>.bl i
theorem F1 {j:Nat}:PE X (.Constant .none j pos) (tE E fun _=>M.ok .cS):=md GG fun _=>.cS
theorem GV {i:Str} {j:Nat}:PE X (.Constant (.str i) j pos) (tE E fun _=>M.ok (.str i)):=md FK fun _=>.str i
def aj (op:PV->PV->M PV) (f g:af->M PV):af->M PV:=fun env=>(f env).bind fun p=>(g env).bind fun q=>op p q
def my (E:St->XK) (r:R2) (op:PV->PV->M PV):Prop:=∀ (σ:St) (Hs H:Hp) (p q:PV) (v u:V) (Q:VK),aW Hs H->Rep Hs p v->Rep Hs q u->av (op p q) (er Hs H Q) (XW (E σ) Hs H)->r v u H Q
theorem nF {op:Operator} {r:R2} {o:PV->PV->M PV} (ho:gf X (binaryOp op) r) (hv:my E r o) (ha:PE X a (tE E f)) (hb:PE X b (tE E g)):PE X (.BinOp a op b pos) (tE E (aj o f g)) :=
 (FC ho ha hb).imp fun σ H Q q=>ye q fun Hs H1 p q v u s rp rq h=>hv σ Hs H1 p q v u Q s rp rq h
theorem kq {op:CmpOp} {r:R2} {o:PV->PV->M PV} (ho:gf X (compareOp op) r) (hv:my E r o) (ha:PE X a (tE E f)) (hb:PE X b (tE E g)) (hm:behindInMarks op b=false):PE X (.Compare a [op] [b] pos) (tE E (aj o f g)) :=
 (DB ho ha hb hm).imp fun σ H Q q=>ye q fun Hs H1 p q v u s rp rq h=>hv σ Hs H1 p q v u Q s rp rq h
def fT:PV->PV->M PV
 | .int i,.int j=>M.ok (.int (i+j))
 | .str x,.str y=>cC (x.length+y.length<=sizeLine) (M.ok (.str (x++y)))
 | .tup xs,.tup ys=>cC (xs.length+ys.length<=sizeLine) (M.ok (.tup (xs++ys)))
 | .lst xs,.lst ys=>cC (xs.length+ys.length<=sizeLine) (M.ok (.lst (xs++ys)))
 | _,_=>none
def E3 (K:PySem.W.Frag):R2:=fun x y H Q=>(∃ i j,x=.int i/\y=.int j/\Q (.int (i+j)) H)\/(∃ i j,x=.str i/\y=.str j/\i.length+j.length<=sizeLine/\Q (.str (i++j)) H)\/Fd K x y H Q\/IU x y H Q\/Bm K x y H Q
theorem Du:gf X (binaryOp .Add) (E3 X.K):=gf.or Ii (gf.or xw (gf.or D9 (gf.or Hk Av)))
theorem G3 {K:PySem.W.Frag}:my E (E3 K) fT:=by
 intro σ Hs H p q v u Q s rp rq h
 cases rp with
 | int i=>cases rq with
  | int j=>exact .inl ⟨i,j,rfl,rfl,er.flat h s (.int _)⟩
  | _=>exact h.elim
 | str i=>cases rq with
  | str j =>
   obtain ⟨hz,h⟩:=av.cC h
   exact .inr (.inl ⟨i,j,rfl,rfl,hz,er.flat h s (.str _)⟩)
  | _=>exact h.elim
 | @tup a xs vs ha hx=>cases rq with
  | @tup b ys us hb hy =>
   obtain ⟨hz,h⟩:=av.cC h
   cases hx with
   | nil=>exact .inr (.inr (.inr (.inr ⟨a,b,us,rfl,rfl,gT.of (s _ _ ha),gT.of (s _ _ hb),er.flat h s (.tup hb hy)⟩)))
   | cons hx1 hx2 =>
    have hx:=aG.cons hx1 hx2
    refine .inr (.inr (.inl ⟨a,b,_,us,rfl,rfl,gT.of (s _ _ ha),gT.of (s _ _ hb),(fun z=>nomatch z),by rw [← hx.length,← hy.length];exact hz,fun z=>?_,fun z=>er.tup h s (hx.append hy)⟩))
    have e:ys=[]:=by cases hy with | nil=>rfl | cons _ _=>cases z
    subst e
    rw [List.append_nil] at h
    exact er.flat h s (.tup ha hx)
  | _=>exact h.elim
 | @lst a xs vs ha hx=>cases rq with
  | @lst b ys us hb hy =>
   obtain ⟨hz,h⟩:=av.cC h
   exact .inr (.inr (.inr (.inl ⟨a,b,vs,us,rfl,rfl,s _ _ ha,s _ _ hb,by rw [← hx.length,← hy.length];exact hz,er.lst h s (hx.append hy)⟩)))
  | _=>exact h.elim
 | _=>exact h.elim
def xu (c:Int->Int->Bool) (o:Int->Int->Int):PV->PV->M PV
 | .int i,.int j=>cC (c i j=true) (M.ok (.int (o i j)))
 | _,_=>none
theorem xA {C:Int->Int->Prop} {c:Int->Int->Bool} {o:Int->Int->Int} (hc:∀ i j,c i j=true->C i j):my E (rI C fun i j=>.int (o i j)) (xu c o):=by
 intro σ Hs H p q v u Q s rp rq h
 cases rp with
 | int i=>cases rq with
  | int j =>
   obtain ⟨hz,h⟩:=av.cC h
   exact ⟨i,j,rfl,rfl,hc i j hz,er.flat h s (.int _)⟩
  | _=>exact h.elim
 | _=>exact h.elim
def lS:PV->PV->M PV
 | .int i,.int j=>M.ok (.int (i-j))
 | _,_=>none
theorem GR:my E (yB fun i j=>.int (i-j)) lS:=by
 intro σ Hs H p q v u Q s rp rq h
 cases rp with
 | int i=>cases rq with
  | int j=>exact ⟨i,j,rfl,rfl,er.flat h s (.int _)⟩
  | _=>exact h.elim
 | _=>exact h.elim
def CA (o:Int->Int->Bool):PV->PV->M PV
 | .int i,.int j=>M.ok (.bl (o i j))
 | _,_=>none
theorem tH {o:Int->Int->Bool}:my E (yB fun i j=>.bl (o i j)) (CA o):=by
 intro σ Hs H p q v u Q s rp rq h
 cases rp with
 | int i=>cases rq with
  | int j=>exact ⟨i,j,rfl,rfl,er.flat h s (.bl _)⟩
  | _=>exact h.elim
 | _=>exact h.elim
def aJ:PV->PV->M PV
 | .tup xs,.int i=>eS (uK xs i)
 | .lst xs,.int i=>eS (uK xs i)
 | .jI xs,.int i=>eS (uK xs i)
 | .str z,.int i=>cC (z.length<=sizeLine) (eS ((uK z.cps.toList i).map fun c=>.str ⟨#[c]⟩))
 | _,_=>none
theorem aG.uK {H:Hp} {xs:List PV} {vs:List V} {i:Int} {x:PV} (r:aG H xs vs) (e:L2.uK xs i=some x):∃ v,L2.uK vs i=some v/\Rep H x v:=by
 unfold L2.uK at e ⊢
 rw [← r.length]
 obtain ⟨j,h1,h2⟩:=Option.bind_eq_some_iff.mp e
 obtain ⟨v,h3,h4⟩:=r.get h2
 exact ⟨v,by rw [h1];exact h3,h4⟩
theorem HL {K:PySem.W.Frag}:my E (Qz K) aJ:=by
 intro σ Hs H p q v u Q s rp rq h
 cases rp with
 | @tup a xs vs ha hx=>cases rq with
  | int i =>
   obtain ⟨x,ex,h⟩:=av.opt h
   obtain ⟨v,h1,h2⟩:=hx.uK ex
   exact .inr (.inl ⟨a,vs,i,v,rfl,rfl,gT.of (s _ _ ha),h1,er.flat h s h2⟩)
  | _=>exact h.elim
 | @lst a xs vs ha hx=>cases rq with
  | int i =>
   obtain ⟨x,ex,h⟩:=av.opt h
   obtain ⟨v,h1,h2⟩:=hx.uK ex
   exact .inl ⟨a,vs,i,v,rfl,rfl,i4.of (s _ _ ha),h1,er.flat h s h2⟩
  | _=>exact h.elim
 | @jI a o xs vs ha hx=>cases rq with
  | int i =>
   obtain ⟨x,ex,h⟩:=av.opt h
   obtain ⟨v,h1,h2⟩:=hx.uK ex
   exact .inl ⟨a,vs,i,v,rfl,rfl,.inl (.inr ⟨o,s _ _ ha⟩),h1,er.flat h s h2⟩
  | _=>exact h.elim
 | str z=>cases rq with
  | int i =>
   obtain ⟨hz,h⟩:=av.cC h
   obtain ⟨x,ex,h⟩:=av.opt h
   obtain ⟨c,ec,rfl⟩:=Option.map_eq_some_iff.mp ex
   exact .inr (.inr ⟨z,i,c,rfl,rfl,hz,ec,er.flat h s (.str _)⟩)
  | _=>exact h.elim
 | _=>exact h.elim
theorem Hy (ha:PE X a (tE E f)) (hb:PE X b (tE E g)) (hs:uI b):PE X (.Subscript a b pos) (tE E (aj aJ f g)) :=
 (IE Gv ha hb hs).imp fun σ H Q q=>ye q fun Hs H1 p q v u s rp rq h=>HL σ Hs H1 p q v u Q s rp rq h
end
end L2
namespace L2
open PySem PySem.Spec PyProof.Rows
def tG {α:Type} (E:St->XK) (f:af->M α) (K:Hp->Hp->α->Prop):St->Hp->Prop:=fun σ H=>∃ B H₀ Hs env,SR B H₀ Hs H σ env/\av (f env) (K Hs H) (XW (E σ) Hs H)
def KG {α:Type} (K:Hp->Hp->α->Prop):Prop:=∀ Hs H Hs' H' b,K Hs H b->bu Hs H Hs' H'->K Hs' H' b
abbrev KB (Q:Bool->Hp->Prop):Hp->Hp->Bool->Prop:=fun Hs H k=>∀ Hs' H',bu Hs H Hs' H'->Q k H'
abbrev kv (Q:VK):Hp->Hp->PV->Prop:=fun Hs H p=>er Hs H Q p
abbrev KL (Q:List V->Hp->Prop):Hp->Hp->List PV->Prop:=fun Hs H ps=>∀ vs Hs' H',bu Hs H Hs' H'->aG Hs' ps vs->Q vs H'
theorem KB.g {Q:Bool->Hp->Prop}:KG (KB Q):=fun Hs H Hs' H' b k g Hs2 H2 g2=>k Hs2 H2 (g.trans g2)
theorem kv.g {Q:VK}:KG (kv Q):=fun Hs H Hs' H' b k g w Hs2 H2 g2 r=>k w Hs2 H2 (g.trans g2) r
theorem KL.g {Q:List V->Hp->Prop}:KG (KL Q):=fun Hs H Hs' H' b k g w Hs2 H2 g2 r=>k w Hs2 H2 (g.trans g2) r
def tT (E:St->XK) (f:af->M Bool):TT:=fun σ H Q=>tG E f (KB Q) σ H
def tL (E:St->XK) (f:af->M (List PV)):TA:=fun σ H Q=>tG E f (KL Q) σ H
theorem PT.imp {X:Cx} {e:Expr} {t t':TT} (h:PT X e t) (i:∀ σ H Q,t' σ H Q->t σ H Q):PT X e t':=fun pins s σ H Q I q=>h pins s σ H Q I (i σ H Q q)
theorem PW.imp {X:Cx} {e:Expr} {t t':TT} (h:PW X e t) (i:∀ σ H Q,t' σ H Q->t σ H Q):PW X e t':=fun w pins s σ H Q I q=>h w pins s σ H Q I (i σ H Q q)
theorem PA.imp {X:Cx} {e:List Expr} {t t':TA} (h:PA X e t) (i:∀ σ H Q,t' σ H Q->t σ H Q):PA X e t':=fun w pins s σ H Q I q=>h w pins s σ H Q I (i σ H Q q)
section
variable {β:Type} {E:St->XK} {K:Hp->Hp->β->Prop} {σ:St} {H:Hp}
theorem bL {f:af->M PV} {g:af->PV->M β} {R:VK} (kg:KG K) (h:tG E (fun env=>(f env).bind (g env)) K σ H)
  (k:∀ B H₀ Hs H1 env p v,SR B H₀ Hs H1 σ env->Rep Hs p v->av (g env p) (K Hs H1) (XW (E σ) Hs H1)->R v H1):tE E f σ H R:=by
 obtain ⟨B,H₀,Hs,env,sr,h⟩:=h
 refine ⟨B,H₀,Hs,env,sr,(av.bind h).imp (fun p hp v Hs' H' g r=>?_) fun e he=>he⟩
 exact k B H₀ Hs' H' env p v (sr.grow g) r (hp.imp (fun q hq=>kg _ _ _ _ q hq g) fun e he=>he.grow g)
theorem mJ {f:af->M Bool} {g:af->Bool->M β} {R:Bool->Hp->Prop} (kg:KG K) (h:tG E (fun env=>(f env).bind (g env)) K σ H)
  (k:∀ B H₀ Hs H1 env p,SR B H₀ Hs H1 σ env->av (g env p) (K Hs H1) (XW (E σ) Hs H1)->R p H1):tT E f σ H R:=by
 obtain ⟨B,H₀,Hs,env,sr,h⟩:=h
 refine ⟨B,H₀,Hs,env,sr,(av.bind h).imp (fun p hp Hs' H' g=>?_) fun e he=>he⟩
 exact k B H₀ Hs' H' env p (sr.grow g) (hp.imp (fun q hq=>kg _ _ _ _ q hq g) fun e he=>he.grow g)
theorem cY {f:af->M (List PV)} {g:af->List PV->M β} {R:List V->Hp->Prop} (kg:KG K) (h:tG E (fun env=>(f env).bind (g env)) K σ H)
  (k:∀ B H₀ Hs H1 env p v,SR B H₀ Hs H1 σ env->aG Hs p v->av (g env p) (K Hs H1) (XW (E σ) Hs H1)->R v H1):tL E f σ H R:=by
 obtain ⟨B,H₀,Hs,env,sr,h⟩:=h
 refine ⟨B,H₀,Hs,env,sr,(av.bind h).imp (fun p hp v Hs' H' g r=>?_) fun e he=>he⟩
 exact k B H₀ Hs' H' env p v (sr.grow g) r (hp.imp (fun q hq=>kg _ _ _ _ q hq g) fun e he=>he.grow g)
end
def xy:PV->M Bool
 | .bl b=>M.ok b
 | _=>none
def du (f:af->M PV):af->M Bool:=fun env=>(f env).bind xy
theorem av.Kf {p:PV} {Q:Bool->Prop} {E:EX->Prop} (h:av (xy p) Q E):∃ b,p=.bl b/\Q b:=by
 cases p with
 | bl b=>exact ⟨b,rfl,h⟩
 | _=>exact h.elim
section
variable {X:Cx} {E:St->XK} {a b c e:Expr} {pos:Pos} {f g h:af->M PV} {u v:af->M Bool} {rest:List Expr}
theorem pU {σ:St} {H:Hp} {Q:Bool->Hp->Prop} (q:tT E (du f) σ H Q):tB (tE E f) σ H Q:=by
 refine bL KB.g q fun B H₀ Hs H1 env p v sr rp hp=>?_
 obtain ⟨k,rfl,hp⟩:=av.Kf hp
 cases rp
 exact ⟨k,rfl,hp Hs H1 (.refl sr.gr.sub)⟩
theorem sY (he:PE X e (tE E f)) (hw:∀ whole,isTrue e X.env whole=(do let v ← whole;standAt e.pos;holding [v] (truthy v)):=by intro _;rfl):PT X e (tT E (du f)) :=
 (Ih he hw).imp fun σ H Q q=>pU q
theorem jT {op:CmpOp} {r:R2} {o:PV->PV->M PV} (ho:gf X (compareOp op) r) (hv:my E r o) (ha:PE X a (tE E f)) (hb:PE X b (tE E g)) (hm:behindInMarks op b=false):PT X (.Compare a [op] [b] pos) (tT E (du (aj o f g))):=by
 refine (ET ho ha hb hm).imp fun σ H Q q=>?_
 have q':=pU q
 exact ye q' fun Hs H1 p q v u s rp rq h=>hv σ Hs H1 p q v u _ s rp rq h
def jE (u:af->M Bool):af->M Bool:=fun env=>(u env).bind fun b=>M.ok (!b)
def Ax (u v:af->M Bool):af->M Bool:=fun env=>(u env).bind fun b=>if b=true then v env else M.ok false
def Dj (u v:af->M Bool):af->M Bool:=fun env=>(u env).bind fun b=>if b=true then M.ok true else v env
theorem Gq (ha:PT X a (tT E u)):PT X (.UnaryOp .Not a pos) (tT E (jE u)) :=
 (Im ha).imp fun σ H Q q=>mJ KB.g q fun B H₀ Hs H1 env p sr hp=>hp Hs H1 (.refl sr.gr.sub)
theorem tq (ha:PT X a (tT E u)):PW X (.BoolOp .And [a] pos) (tT E u):=pw_and1 ha
theorem ky (ha:PT X a (tT E u)):PW X (.BoolOp .Or [a] pos) (tT E u):=pw_or1 ha
theorem wF (ha:PT X a (tT E u)) (hb:PW X (.BoolOp .And (b::rest) pos) (tT E v)):PW X (.BoolOp .And (a::b::rest) pos) (tT E (Ax u v)):=by
 refine (pw_and ha hb).imp fun σ H Q q=>mJ KB.g q fun B H₀ Hs H1 env p sr hp=>?_
 cases p with
 | true=>exact ⟨B,H₀,Hs,env,sr,hp⟩
 | false=>exact hp Hs H1 (.refl sr.gr.sub)
theorem n5 (ha:PT X a (tT E u)) (hb:PW X (.BoolOp .Or (b::rest) pos) (tT E v)):PW X (.BoolOp .Or (a::b::rest) pos) (tT E (Dj u v)):=by
 refine (pw_or ha hb).imp fun σ H Q q=>mJ KB.g q fun B H₀ Hs H1 env p sr hp=>?_
 cases p with
 | true=>exact hp Hs H1 (.refl sr.gr.sub)
 | false=>exact ⟨B,H₀,Hs,env,sr,hp⟩
def FP (f:af->M PV):af->M PV:=fun env=>(f env).bind fun p=>(xy p).bind fun b=>M.ok (.bl (!b))
def DS (f g:af->M PV):af->M PV:=fun env=>(f env).bind fun p=>(xy p).bind fun b=>if b=true then g env else M.ok (.bl false)
def RF (f g:af->M PV):af->M PV:=fun env=>(f env).bind fun p=>(xy p).bind fun b=>if b=true then M.ok (.bl true) else g env
theorem Gu (ha:PE X a (tE E f)):PE X (.UnaryOp .Not a pos) (tE E (FP f)):=by
 refine (GL ha).imp fun σ H Q q=>bL (K:=kv Q) kv.g q fun B H₀ Hs H1 env p v sr rp hp=>?_
 obtain ⟨k,rfl,hp⟩:=av.Kf (av.bind hp)
 cases rp
 exact ⟨k,rfl,er.flat hp sr.gr.sub (.bl _)⟩
theorem AY (ha:PE X a (tE E f)) (hb:PE X (.BoolOp .And (b::rest) pos) (tE E g)):PE X (.BoolOp .And (a::b::rest) pos) (tE E (DS f g)):=by
 refine (Ik ha hb).imp fun σ H Q q=>bL (K:=kv Q) kv.g q fun B H₀ Hs H1 env p v sr rp hp=>?_
 obtain ⟨k,rfl,hp⟩:=av.Kf (av.bind hp)
 cases rp
 refine ⟨k,rfl,?_⟩
 cases k with
 | true=>exact ⟨B,H₀,Hs,env,sr,hp⟩
 | false=>exact er.flat hp sr.gr.sub (.bl _)
def yN (u:af->M Bool) (f g:af->M PV):af->M PV:=fun env=>(u env).bind fun b=>if b=true then f env else g env
theorem Hm (hc:PT X c (tT E u)) (ha:PE X a (tE E f)) (hb:PE X b (tE E g)):PE X (.IfExp c a b pos) (tE E (yN u f g)):=by
 refine (AH hc ha hb).imp fun σ H Q q=>mJ (K:=kv Q) kv.g q fun B H₀ Hs H1 env p sr hp=>?_
 cases p with
 | true=>exact ⟨B,H₀,Hs,env,sr,hp⟩
 | false=>exact ⟨B,H₀,Hs,env,sr,hp⟩
def aq:af->M (List PV):=fun _=>M.ok []
def ae (f:af->M PV) (fs:af->M (List PV)):af->M (List PV):=fun env=>(f env).bind fun p=>(fs env).bind fun ps=>M.ok (p::ps)
variable {fs:af->M (List PV)} {es:List Expr}
theorem BN:PA X [] (tL E aq):=by
 refine qr.imp fun σ H Q q=>?_
 obtain ⟨B,H₀,Hs,env,sr,q⟩:=q
 exact q [] Hs H (.refl sr.gr.sub) .nil
theorem yp (ha:PE X e (tE E f)) (hr:PA X es (tL E fs)) (hs:starEach (e::es) X.env=(false,eval e X.env)::starEach es X.env:=by rfl):PA X (e::es) (tL E (ae f fs)):=by
 refine (ig ha hr hs).imp fun σ H Q q=>bL (K:=KL Q) KL.g q fun B H₀ Hs H1 env p v sr rp hp=>?_
 refine ⟨B,H₀,Hs,env,sr,(av.bind hp).imp (fun ps hps vs Hs' H' g r=>?_) fun e he=>he⟩
 exact hps (v::vs) Hs' H' g (.cons (rp.mono g.st) r)
def k_ (fs:af->M (List PV)):af->M PV:=fun env=>(fs env).bind fun ps=>cC (ps.length<=sizeLine) (M.ok (.tup ps))
def rW (fs:af->M (List PV)):af->M PV:=fun env=>(fs env).bind fun ps=>cC (ps.length<=sizeLine) (M.ok (.lst ps))
theorem G4 {x1:Nat} (hr:PA X es (tL E fs)):PE X (.Tuple es x1 pos) (tE E (k_ fs)):=by
 refine (Ar hr).imp fun σ H Q q=>cY (K:=kv Q) kv.g q fun B H₀ Hs H1 env p v sr rp hp=>?_
 obtain ⟨hz,hp⟩:=av.cC hp
 exact ⟨by rw [← rp.length];exact hz,er.tup hp sr.gr.sub rp⟩
theorem AR (hr:PA X es (tL E fs)):PE X (.List es pos) (tE E (rW fs)):=by
 refine (CU hr).imp fun σ H Q q=>cY (K:=kv Q) kv.g q fun B H₀ Hs H1 env p v sr rp hp=>?_
 obtain ⟨hz,hp⟩:=av.cC hp
 exact ⟨by rw [← rp.length];exact hz,er.lst hp sr.gr.sub rp⟩
def ai (o:List PV->M PV) (fs:af->M (List PV)):af->M PV:=fun env=>(fs env).bind o
def oo (E:St->XK) (r:List V->Hp->VK->Prop) (o:List PV->M PV):Prop:=∀ (σ:St) (Hs H:Hp) (ps:List PV) (vs:List V) (Q:VK),aW Hs H->aG Hs ps vs->av (o ps) (er Hs H Q) (XW (E σ) Hs H)->r vs H Q
theorem Ce {r:List V->Hp->VK->Prop} {o:List PV->M PV} {σ:St} {H:Hp} {Q:VK} (hv:oo E r o) (q:tE E (ai o fs) σ H Q):Qb r (tL E fs) σ H Q :=
 cY (K:=kv Q) kv.g q fun B H₀ Hs H1 env p v sr rp hp=>hv σ Hs H1 p v Q sr.gr.sub rp hp
variable {x:Str} {p:Pos} {id T:String}
theorem mn {r:List V->Hp->VK->Prop} {o:List PV->M PV} (hc:dH X (.builtin id) r) (hv:oo E r o) (hg:Gl X x) (hm:X.mg x=none) (hx:bootBuiltins x=some (.builtin id)) (ha:PA X (e::es) (tL E fs)) (hn:x ≠ "__name__" := by decide) (hdb:(x==("__debug__" : Str))=false:=by decide)
  (he:starEach (e::es) X.env=(false,eval e X.env)::starEach es X.env:=by rfl) (hpl:(backTo pos (starEach es X.env)).any (·.1)=false:=by rfl):PE X (.Call (.Name x p) (e::es) [] pos) (tE E (ai o fs)) :=
 (qa hc hg hm hx ha hn hdb he hpl).imp fun σ H Q q=>Ce hv q
theorem nB {r:List V->Hp->VK->Prop} {o:List PV->M PV} (hc:dH X (.type T) r) (hv:oo E r o) (hg:Gl X x) (hm:X.mg x=none) (hx:bootBuiltins x=some (.type T)) (ha:PA X (e::es) (tL E fs)) (hn:x ≠ "__name__" := by decide) (hdb:(x==("__debug__" : Str))=false:=by decide)
  (he:starEach (e::es) X.env=(false,eval e X.env)::starEach es X.env:=by rfl) (hpl:(backTo pos (starEach es X.env)).any (·.1)=false:=by rfl):PE X (.Call (.Name x p) (e::es) [] pos) (tE E (ai o fs)) :=
 (zS hc hg hm hx ha hn hdb he hpl).imp fun σ H Q q=>Ce hv q
end
end L2
namespace L2
open PySem PySem.Spec PyProof.Rows
section
variable {E:St->XK}
def bS:PV->Option (List PV)
 | .tup xs=>some xs
 | .lst xs=>some xs
 | .jI xs=>some xs
 | _=>none
theorem GW {K:PySem.W.Frag} {Hs H:Hp} {p:PV} {v:V} {xs:List PV} (s:aW Hs H) (r:Rep Hs p v) (e:bS p=some xs):∃ a vs,v=.ref a/\(i4 K H a vs\/gT K H a vs)/\aG Hs xs vs:=by
 cases r with
 | tup h r=>cases e;exact ⟨_,_,rfl,.inr (gT.of (s _ _ h)),r⟩
 | lst h r=>cases e;exact ⟨_,_,rfl,.inl (i4.of (s _ _ h)),r⟩
 | jI h r=>cases e;exact ⟨_,_,rfl,.inl (.inl (.inr ⟨_,s _ _ h⟩)),r⟩
 | _=>cases e
def uZ:PV->M PV
 | .str z=>cC (z.length<=sizeLine) (M.ok (.int z.length))
 | p=>eS ((bS p).map fun xs=>.int xs.length)
def dN:List PV->M PV
 | [p]=>uZ p
 | _=>none
theorem aG.one {H:Hp} {p:PV} {vs:List V} (r:aG H [p] vs):∃ v,vs=[v]/\Rep H p v:=by
 cases r with
 | cons h r=>cases r;exact ⟨_,rfl,h⟩
theorem aG.two {H:Hp} {p q:PV} {vs:List V} (r:aG H [p,q] vs):∃ v u,vs=[v,u]/\Rep H p v/\Rep H q u:=by
 cases r with
 | cons h r=>obtain ⟨u,rfl,h2⟩:=r.one;exact ⟨_,_,rfl,h,h2⟩
def E4 (K:PySem.W.Frag):List V->Hp->VK->Prop:=fun xs H Q=>(∃ p ys,xs=[.ref p]/\(i4 K H p ys\/gT K H p ys)/\Q (.int ys.length) H)\/∃ z,xs=[.str z]/\z.length<=sizeLine/\Q (.int z.length) H
theorem zY {X:Cx}:dH X (.builtin "len") (E4 X.K):=dH.or sV sX
theorem Gx {K:PySem.W.Frag}:oo E (E4 K) dN:=by
 intro σ Hs H ps vs Q s r h
 match ps,r with
 | [],_=>exact h.elim
 | _::_::_,_=>exact h.elim
 | [p],r =>
  obtain ⟨v,rfl,rp⟩:=r.one
  cases hp:bS p with
  | none =>
   cases p with
   | str z =>
    cases rp
    obtain ⟨hz,h⟩:=av.cC h
    exact .inr ⟨z,rfl,hz,er.flat h s (.int _)⟩
   | tup _=>cases hp
   | lst _=>cases hp
   | jI _=>cases hp
   | _=>exact h.elim
  | some xs =>
   obtain ⟨a,us,rfl,hq,hx⟩:=GW (K:=K) s rp hp
   have h':av (eS ((bS p).map fun xs=>PV.int xs.length)) (er Hs H Q) (XW (E σ) Hs H):=by
    cases p with
    | str z=>cases hp
    | _=>exact h
   rw [hp] at h'
   refine .inl ⟨a,us,rfl,hq,?_⟩
   rw [← hx.length]
   exact er.flat h' s (.int _)
def Fb:List PV->M PV
 | [p]=>eS ((bS p).map .lst)
 | _=>none
def dG:List PV->M PV
 | [p]=>eS ((bS p).map .tup)
 | _=>none
theorem Bt {K:PySem.W.Frag}:oo E (fun xs H Q=>∃ p ys,xs=[.ref p]/\((i4 K H p ys/\∀ l,H l=none->Q (.ref l) (upd H l (.tup ys)))\/(gT K H p ys/\Q (.ref p) H))) dG:=by
 intro σ Hs H ps vs Q s r h
 match ps,r with
 | [],_=>exact h.elim
 | _::_::_,_=>exact h.elim
 | [p],r =>
  obtain ⟨v,rfl,rp⟩:=r.one
  obtain ⟨x,ex,h⟩:=av.opt h
  obtain ⟨xs,hp,rfl⟩:=Option.map_eq_some_iff.mp ex
  cases rp with
  | tup ha hx=>cases hp;exact ⟨_,_,rfl,.inr ⟨gT.of (s _ _ ha),er.flat h s (.tup ha hx)⟩⟩
  | lst ha hx=>cases hp;exact ⟨_,_,rfl,.inl ⟨i4.of (s _ _ ha),er.tup h s hx⟩⟩
  | jI ha hx=>cases hp;exact ⟨_,_,rfl,.inl ⟨.inl (.inr ⟨_,s _ _ ha⟩),er.tup h s hx⟩⟩
  | _=>cases hp
def v_:List PV->Option (List Int)
 | []=>some []
 | .int i::r=>(v_ r).map (i::·)
 | _=>none
def C8:List PV->Option (List Bool)
 | []=>some []
 | .bl i::r=>(C8 r).map (i::·)
 | _=>none
theorem xS:∀ {ps:List PV} {ns:List Int},v_ ps=some ns->ps=ns.map PV.int
 | [],_,e=>by cases e;rfl
 | .int i::r,_,e=>by
  obtain ⟨ms,h1,rfl⟩:=Option.map_eq_some_iff.mp e
  rw [xS h1];rfl
theorem CD:∀ {ps:List PV} {ns:List Bool},C8 ps=some ns->ps=ns.map PV.bl
 | [],_,e=>by cases e;rfl
 | .bl i::r,_,e=>by
  obtain ⟨ms,h1,rfl⟩:=Option.map_eq_some_iff.mp e
  rw [CD h1];rfl
theorem sR:∀ (ns:List Int),v_ (ns.map PV.int)=some ns
 | []=>rfl
 | n::r=>by show (v_ (r.map PV.int)).map (n::·)=_;rw [sR r];rfl
theorem vd:∀ (ns:List Bool),C8 (ns.map PV.bl)=some ns
 | []=>rfl
 | n::r=>by show (C8 (r.map PV.bl)).map (n::·)=_;rw [vd r];rfl
def IY:PV->M PV
 | .lst xs=>eS ((v_ xs).map fun ns=>.int ns.sum)
 | _=>none
def z_:List PV->M PV
 | [p]=>IY p
 | _=>none
theorem F7 {K:PySem.W.Frag}:oo E (fun xs H Q=>∃ (a:Addr) (ns:List Int),xs=[.ref a]/\i4 K H a (ns.map V.int)/\Q (.int ns.sum) H) z_:=by
 intro σ Hs H ps vs Q s r h
 match ps,r with
 | [],_=>exact h.elim
 | _::_::_,_=>exact h.elim
 | [p],r =>
  obtain ⟨v,rfl,rp⟩:=r.one
  cases rp with
  | lst ha hx =>
   obtain ⟨x,ex,h⟩:=av.opt h
   obtain ⟨ns,hn,rfl⟩:=Option.map_eq_some_iff.mp ex
   rw [xS hn] at hx
   exact ⟨_,ns,rfl,hx.ints▸i4.of (s _ _ ha),er.flat h s (.int _)⟩
  | _=>exact h.elim
def all1:PV->M PV
 | .lst xs=>eS ((C8 xs).map fun ns=>.bl (ns.all id))
 | _=>none
def uU:List PV->M PV
 | [p]=>all1 p
 | _=>none
theorem F5 {K:PySem.W.Frag}:oo E (fun xs H Q=>∃ (a:Addr) (bs:List Bool),xs=[.ref a]/\i4 K H a (bs.map V.bl)/\Q (.bl (bs.all id)) H) uU:=by
 intro σ Hs H ps vs Q s r h
 match ps,r with
 | [],_=>exact h.elim
 | _::_::_,_=>exact h.elim
 | [p],r =>
  obtain ⟨v,rfl,rp⟩:=r.one
  cases rp with
  | lst ha hx =>
   obtain ⟨x,ex,h⟩:=av.opt h
   obtain ⟨ns,hn,rfl⟩:=Option.map_eq_some_iff.mp ex
   rw [CD hn] at hx
   exact ⟨_,ns,rfl,hx.QK▸i4.of (s _ _ ha),er.flat h s (.bl _)⟩
  | _=>exact h.elim
def NQ (o:Int->Int->Int):PV->PV->M PV
 | .int i,.int j=>M.ok (.int (o i j))
 | _,_=>none
def Fv (o:Int->Int->Int):List PV->M PV
 | [p,q]=>NQ o p q
 | _=>none
theorem EH {o:Int->Int->Int}:oo E (fun xs H Q=>∃ i j,xs=[.int i,.int j]/\Q (.int (o i j)) H) (Fv o):=by
 intro σ Hs H ps vs Q s r h
 match ps,r with
 | [],_=>exact h.elim
 | [_],_=>exact h.elim
 | _::_::_::_,_=>exact h.elim
 | [p,q],r =>
  obtain ⟨v,u,rfl,rp,rq⟩:=r.two
  cases rp with
  | int i=>cases rq with
   | int j=>exact ⟨i,j,rfl,er.flat h s (.int _)⟩
   | _=>exact h.elim
  | _=>exact h.elim
end
def eJ (n:Nat) (sem:List PV->M PV):Sp:=fun vs H Q E=>vs.length=n/\∃ Hs ps,aW Hs H/\aG Hs ps vs/\av (sem ps) (er Hs H Q) (XW E Hs H)
section
variable {X:Cx} {E:St->XK} {k n:Nat} {f C:Addr} {fd:FuncData} {ps:List Str} {sem:List PV->M PV} {x m:Str} {p pos apos:Pos} {e o:Expr} {es:List Expr} {fs:af->M (List PV)} {g:af->M PV}
theorem DN {ds:List Value} {dvs:List V} {dps:List PV} (F:aN X.prog X.w X.K X.mg X.base (bT X.prog X.w) k f fd ps (eJ n sem)) (hr:bV k X.A) (hg:Gl X x) (hm:X.mg x=some (.ref f)) (hk:PySem.W.keepIn X.K (.ref f)=true) (hb:Binds X.K fd ps ds) (hd:Vals dvs ds) (hdp:∀ H,aG H dps dvs) (O:eU X E)
  (hl:∀ ps,sem (ps++dps)≠none->ps.length+dps.length=n)
  (ha:PA X (e::es) (tL E fs)) (hdb:(x==("__debug__" : Str))=false:=by decide) (he:starEach (e::es) X.env=(false,eval e X.env)::starEach es X.env:=by rfl) (hpl:(backTo pos (starEach es X.env)).any (·.1)=false:=by rfl) :
  PE X (.Call (.Name x p) (e::es) [] pos) (tE E (ai (fun ps=>sem (ps++dps)) fs)):=by
 refine (CK F hr hg hm hk hb hd O ha hdb he hpl).imp fun σ H Q q=>cY (K:=kv Q) kv.g q fun B H₀ Hs H1 env ps' v sr rp hp=>?_
 have r2:aG Hs (ps'++dps) (v++dvs):=rp.append (hdp Hs)
 have hn:sem (ps'++dps)≠none:=fun z=>by rw [z] at hp;exact hp
 refine ⟨?_,Hs,ps'++dps,sr.gr.sub,r2,hp⟩
 rw [← r2.length,List.length_append]
 exact hl ps' hn
def fm (ok:Addr->Bool) (f:Str) (g:af->M PV):af->M PV:=fun env=>(g env).bind fun p=>match p with
 | .obj C fs=>cC (ok C=true) (eS (fs.lookup f))
 | _=>none
theorem Ig {ok:Addr->Bool} {fl:Str} (he:PE X e (tE E g)) (a_:∀ C,ok C=true->nK X.K C/\bp X.K C fl) (hb:attributeBase e fl X.env (eval e X.env)=eval e X.env):PE X (.Attribute e fl pos) (tE E (fm ok fl g)):=by
 refine (Hz he hb).imp fun σ H Q q=>bL (K:=kv Q) kv.g q fun B H₀ Hs H1 env p v sr rp hp=>?_
 cases rp with
 | obj ha hx =>
  obtain ⟨hc,hp⟩:=av.cC hp
  obtain ⟨x,ex,hp⟩:=av.opt hp
  obtain ⟨u,h1,h2⟩:=hx.look ex
  exact ⟨_,_,_,_,u,rfl,sr.gr.sub _ _ ha,(a_ _ hc).1,(a_ _ hc).2,h1,er.flat hp sr.gr.sub h2⟩
 | _=>exact hp.elim
def bH (C:Addr) (m:Str) (sem:List PV->M PV) (g:af->M PV) (fs:af->M (List PV)):af->M PV:=fun env=>(g env).bind fun p=>match p with
 | .obj C' fl=>cC (C'=C/\fl.lookup m=none) ((fs env).bind fun ps=>sem (.obj C' fl::ps))
 | _=>none
theorem Ed {pl:Sem Bool} (he:PE X o (tE E g)) (c:nK X.K C) (hm:Meth X.K C m f) (F:aN X.prog X.w X.K X.mg X.base (bT X.prog X.w) k f fd ps (eJ n sem)) (hr:bV k X.A) (hb:Binds X.K fd ps []) (O:eU X E) (hl:∀ ps,sem ps≠none->ps.length=n) (ha:PA X (e::es) (tL E fs))
  (hst:starEach (e::es) X.env=(false,eval e X.env)::starEach es X.env:=by rfl) (hpl:(backTo pos (starEach es X.env)).any (·.1)=false:=by rfl)
  (ht:eval (.Call (.Attribute o m apos) (e::es) [] pos) X.env=(do
   let ov ← eval o X.env
   standAt apos.atName
   let (f,first) ← holding [ov] (getMethod ov m pl)
   callWith pos f first (backTo pos (starEach (e::es) X.env)) (backToKw pos (keywordEach [] X.env))):=by rfl) :
  PE X (.Call (.Attribute o m apos) (e::es) [] pos) (tE E (bH C m sem g fs)):=by
 refine (A9 he c hm F hr hb .nil O ha hst hpl ht).imp fun σ H Q q=>bL (K:=kv Q) kv.g q fun B H₀ Hs H1 env p v sr rp hp=>?_
 cases rp with
 | @obj a C' dx fl fvs ho hx =>
  obtain ⟨⟨e1,hn⟩,IA⟩:=av.cC hp
  subst e1
  refine ⟨a,dx,fvs,rfl,sr.gr.sub _ _ ho,hx.none hn,B,H₀,Hs,env,sr,(av.bind IA).imp (fun ps' hps vs Hs' H' g' r=>?_) fun e he=>he⟩
  have r2:aG Hs' (.obj C' fl::ps') (V.ref a::(vs++[])):=by rw [List.append_nil];exact .cons ((Rep.obj ho hx).mono g'.st) r
  have hn:sem (.obj C' fl::ps')≠none:=fun z=>by rw [z] at hps;exact hps
  refine ⟨by rw [← r2.length];exact hl _ hn,Hs',_,g'.sub,r2,hps.imp (fun z hz w Hs2 H2 g2 r2=>hz w Hs2 H2 (g'.trans g2) r2) fun e he=>he.grow g'⟩
 | _=>exact hp.elim
theorem Dg {pl:Sem Bool} (he:PE X o (tE E g)) (c:nK X.K C) (hm:Meth X.K C m f) (F:aN X.prog X.w X.K X.mg X.base (bT X.prog X.w) k f fd ps (eJ n sem)) (hr:bV k X.A) (hb:Binds X.K fd ps []) (O:eU X E) (hl:∀ ps,sem ps≠none->ps.length=n)
  (ht:eval (.Call (.Attribute o m apos) [] [] pos) X.env=(do
   let ov ← eval o X.env
   standAt apos.atName
   let (f,first) ← holding [ov] (getMethod ov m pl)
   callWith pos f first (backTo pos (starEach [] X.env)) (backToKw pos (keywordEach [] X.env))):=by rfl) :
  PE X (.Call (.Attribute o m apos) [] [] pos) (tE E (bH C m sem g aq)):=by
 refine (zC he c hm F hr hb .nil O ht).imp fun σ H Q q=>bL (K:=kv Q) kv.g q fun B H₀ Hs H1 env p v sr rp hp=>?_
 cases rp with
 | @obj a C' dx fl fvs ho hx =>
  obtain ⟨⟨e1,hn⟩,IA⟩:=av.cC hp
  subst e1
  have r2:aG Hs [.obj C' fl] [V.ref a]:=.cons (Rep.obj ho hx) .nil
  have hn':sem [.obj C' fl]≠none:=fun z=>by
   have hp':av (sem [.obj C' fl]) (er Hs H1 Q) (XW (E σ) Hs H1):=IA
   rw [z] at hp';exact hp'
  exact ⟨a,dx,fvs,rfl,sr.gr.sub _ _ ho,hx.none hn,by rw [show ([]:List V)++[]=[] from rfl];exact r2.length▸hl _ hn',Hs,_,sr.gr.sub,r2,IA⟩
 | _=>exact hp.elim
end
end L2
namespace L2
open PySem PySem.Spec PyProof.Rows
inductive Out where
 | nx (env:af) | rt (p:PV) | bk (env:af) | ct (env:af)
def KS (D:Ends) (B H₀:Hp):Out->Prop
 | .nx env=>∀ σ Hs H,SR B H₀ Hs H σ env->D.nx σ H
 | .rt p=>∀ v Hs H,bu B H₀ Hs H->Rep Hs p v->D.rt v H
 | .bk env=>∀ σ Hs H,SR B H₀ Hs H σ env->D.bk σ H
 | .ct env=>∀ σ Hs H,SR B H₀ Hs H σ env->D.ct σ H
def tS (E:XK) (f:af->M Out):TS:=fun D σ H=>∃ B H₀ Hs env,SR B H₀ Hs H σ env/\av (f env) (KS D B H₀) (XW E B H₀)
theorem PS.imp {X:Cx} {st:Stmt} {t t':TS} (h:PS X st t) (i:∀ D σ H,t' D σ H->t D σ H):PS X st t':=fun pins s σ H D I q=>h pins s σ H D I (i D σ H q)
theorem lZ.imp {X:Cx} {st:List Stmt} {t t':TS} (h:lZ X st t) (i:∀ D σ H,t' D σ H->t D σ H):lZ X st t':=fun pins s σ H D I q=>h pins s σ H D I (i D σ H q)
def ao:af->M Out:=fun env=>M.ok (.nx env)
def AF (g:af->M Out):Out->M Out
 | .nx env=>g env
 | o=>M.ok o
def ak (f g:af->M Out):af->M Out:=fun env=>(f env).bind (AF g)
theorem kd {E:XK} {f:af->M PV} {g:af->PV->M Out} {D:Ends} {σ:St} {H:Hp} {R:VK} (h:tS E (fun env=>(f env).bind (g env)) D σ H)
  (k:∀ B H₀ Hs H1 env p v,SR B H₀ Hs H1 σ env->Rep Hs p v->av (g env p) (KS D B H₀) (XW E B H₀)->R v H1):tE (fun _=>E) f σ H R:=by
 obtain ⟨B,H₀,Hs,env,sr,h⟩:=h
 refine ⟨B,H₀,Hs,env,sr,(av.bind h).imp (fun p hp v Hs' H' g r=>?_) fun e he=>he.grow sr.gr⟩
 exact k B H₀ Hs' H' env p v (sr.grow g) r hp
theorem CM {E:XK} {f:af->M Bool} {g:af->Bool->M Out} {D:Ends} {σ:St} {H:Hp} {R:Bool->Hp->Prop} (h:tS E (fun env=>(f env).bind (g env)) D σ H)
  (k:∀ B H₀ Hs H1 env p,SR B H₀ Hs H1 σ env->av (g env p) (KS D B H₀) (XW E B H₀)->R p H1):tT (fun _=>E) f σ H R:=by
 obtain ⟨B,H₀,Hs,env,sr,h⟩:=h
 refine ⟨B,H₀,Hs,env,sr,(av.bind h).imp (fun p hp Hs' H' g=>?_) fun e he=>he.grow sr.gr⟩
 exact k B H₀ Hs' H' env p (sr.grow g) hp
theorem qj {E:XK} {f:af->M (List PV)} {g:af->List PV->M Out} {D:Ends} {σ:St} {H:Hp} {R:List V->Hp->Prop} (h:tS E (fun env=>(f env).bind (g env)) D σ H)
  (k:∀ B H₀ Hs H1 env p v,SR B H₀ Hs H1 σ env->aG Hs p v->av (g env p) (KS D B H₀) (XW E B H₀)->R v H1):tL (fun _=>E) f σ H R:=by
 obtain ⟨B,H₀,Hs,env,sr,h⟩:=h
 refine ⟨B,H₀,Hs,env,sr,(av.bind h).imp (fun p hp v Hs' H' g r=>?_) fun e he=>he.grow sr.gr⟩
 exact k B H₀ Hs' H' env p v (sr.grow g) r hp
theorem SR.set {B H₀ Hs H:Hp} {σ:St} {env:af} {p:PV} {v:V} {i:Nat} (r:SR B H₀ Hs H σ env) (h:Rep Hs p v):SR B H₀ Hs H (σ.set i (some v)) (env.set i (some (.sh p))) where
 gr:=r.gr
 len:=by rw [List.length_set,List.length_set];exact r.len
 sh:=fun j q e=>by
  rw [List.getElem?_set] at e ⊢
  by_cases z:i=j
  ·subst z
   rw [if_pos rfl] at e ⊢
   split at e
   ·cases e
    rw [if_pos (by rw [r.len];assumption)]
    exact ⟨v,rfl,h⟩
   ·cases e
  ·rw [if_neg z] at e ⊢
   exact r.sh j q e
 ow:=fun j xs e=>by
  rw [List.getElem?_set] at e ⊢
  by_cases z:i=j
  ·subst z
   rw [if_pos rfl] at e
   split at e <;> cases e
  ·rw [if_neg z] at e ⊢
   exact r.ow j xs e
 sep:=fun j k xs ys a n e1 e2 e3 e4=>by
  rw [List.getElem?_set] at e1 e2 e3 e4
  by_cases z:i=j
  ·subst z
   rw [if_pos rfl] at e1
   split at e1 <;> cases e1
  ·by_cases z2:i=k
   ·subst z2
    rw [if_pos rfl] at e2
    split at e2 <;> cases e2
   ·rw [if_neg z] at e1 e3
    rw [if_neg z2] at e2 e4
    exact r.sep j k xs ys a n e1 e2 e3 e4
 bd:=fun j a C fs e=>by
  rw [List.getElem?_set] at e ⊢
  by_cases z:i=j
  ·subst z
   rw [if_pos rfl] at e
   split at e <;> cases e
  ·rw [if_neg z] at e ⊢
   exact r.bd j a C fs e
 one:=fun j k a b C D fs gs e1 e2=>by
  rw [List.getElem?_set] at e1 e2
  by_cases z:i=j
  ·subst z
   rw [if_pos rfl] at e1
   split at e1 <;> cases e1
  ·by_cases z2:i=k
   ·subst z2
    rw [if_pos rfl] at e2
    split at e2 <;> cases e2
   ·rw [if_neg z] at e1
    rw [if_neg z2] at e2
    exact r.one j k _ _ C D fs gs e1 e2
theorem SR.own {B H₀ Hs H:Hp} {σ:St} {env:af} {xs:List PV} {vs:List V} {i:Nat} {p:Addr} (r:SR B H₀ Hs H σ env) (h:aG Hs xs vs) (n:H p=none):SR B H₀ Hs (upd H p (.lst vs)) (σ.set i (some (.ref p))) (env.set i (some (.ow xs))):=by
 have ne:∀ c u,H c=some u->c≠p:=fun c u e z=>by rw [z,n] at e;cases e
 have hs:Hs p=none:=by
  cases q:Hs p with
  | none=>rfl
  | some o=>have:=r.gr.sub _ _ q;rw [n] at this;cases this
 have h0:H₀ p=none:=by
  cases q:H₀ p with
  | none=>rfl
  | some o=>have:=r.gr.al _ _ q;rw [n] at this;cases this
 refine ⟨⟨r.gr.st,fun c u e=>by rw [ar (ne c u (r.gr.al c u e))];exact r.gr.al c u e,fun c u e=>by rw [ar (ne c u (r.gr.sub c u e))];exact r.gr.sub c u e,r.gr.nw⟩,by rw [List.length_set,List.length_set];exact r.len,fun j q e=>?_,fun j ys e=>?_,fun j k ys zs a nj e1 e2 e3 e4=>?_,fun j ba C fs e=>?_,fun j k _ _ C D fs gs e1 e2=>?_⟩
 ·rw [List.getElem?_set] at e ⊢
  by_cases z:i=j
  ·subst z
   rw [if_pos rfl] at e
   split at e <;> cases e
  ·rw [if_neg z] at e ⊢
   exact r.sh j q e
 ·rw [List.getElem?_set] at e ⊢
  by_cases z:i=j
  ·subst z
   rw [if_pos rfl] at e ⊢
   split at e
   ·cases e
    rw [if_pos (by rw [r.len];assumption)]
    exact ⟨p,vs,rfl,aC,hs,h0,h⟩
   ·cases e
  ·rw [if_neg z] at e ⊢
   obtain ⟨a,us,h1,h2,h3,h4,h5⟩:=r.ow j ys e
   exact ⟨a,us,h1,by rw [ar (ne a _ h2)];exact h2,h3,h4,h5⟩
 ·rw [List.getElem?_set] at e1 e2 e3 e4
  by_cases z:i=j
  ·subst z
   rw [if_pos rfl] at e3
   split at e3
   ·cases e3
    rw [if_neg nj] at e2 e4
    obtain ⟨a',us,h1,h2,_⟩:=r.ow k zs e2
    rw [e4] at h1;cases h1
    rw [n] at h2;cases h2
   ·cases e3
  ·rw [if_neg z] at e1 e3
   by_cases z2:i=k
   ·subst z2
    rw [if_pos rfl] at e4
    split at e4
    ·cases e4
     obtain ⟨a',us,h1,h2,_⟩:=r.ow j ys e1
     rw [e3] at h1;cases h1
     rw [n] at h2;cases h2
    ·cases e4
   ·rw [if_neg z2] at e2 e4
    exact r.sep j k ys zs a nj e1 e2 e3 e4
 ·rw [List.getElem?_set] at e ⊢
  by_cases z:i=j
  ·subst z
   rw [if_pos rfl] at e
   split at e <;> cases e
  ·rw [if_neg z] at e ⊢
   obtain ⟨dx,us,h1,h2,h3,h4,h5⟩:=r.bd j ba C fs e
   exact ⟨dx,us,h1,by rw [ar (ne ba _ h2)];exact h2,h3,h4,h5⟩
 ·rw [List.getElem?_set] at e1 e2
  by_cases z:i=j
  ·subst z
   rw [if_pos rfl] at e1
   split at e1 <;> cases e1
  ·by_cases z2:i=k
   ·subst z2
    rw [if_pos rfl] at e2
    split at e2 <;> cases e2
   ·rw [if_neg z] at e1
    rw [if_neg z2] at e2
    exact r.one j k _ _ C D fs gs e1 e2
def tR (i:Nat) (env:af):af:=match env[i]? with
 | some (some (.ow xs))=>env.set i (some (.sh (.lst xs)))
 | _=>env
theorem SR.rK {B H₀ Hs H:Hp} {σ:St} {env:af} (i:Nat) (r:SR B H₀ Hs H σ env):∃ Hs',SR B H₀ Hs' H σ (tR i env)/\aW Hs Hs':=by
 unfold tR
 split
 ·rename_i xs e
  obtain ⟨a,vs,h1,h2,h3,h4,h5⟩:=r.ow i xs e
  have ne:∀ c u,Hs c=some u->c≠a:=fun c u q z=>by rw [z,h3] at q;cases q
  have hst:aW Hs (upd Hs a (.lst vs)):=fun c u q=>by rw [ar (ne c u q)];exact q
  refine ⟨upd Hs a (.lst vs),⟨⟨fun c u q=>hst c u (r.gr.st c u q),r.gr.al,fun c u q=>?_,fun c u q1 q2=>?_⟩,by rw [List.length_set];exact r.len,fun j q ej=>?_,fun j ys ej=>?_,fun j k ys zs b nj e1 e2 e3 e4=>?_,fun j ba C fs ej=>?_,fun j k _ _ C D fs gs e1 e2=>?_⟩,hst⟩
  ·by_cases z:c=a
   ·subst z;rw [aC] at q;cases q;exact h2
   ·rw [ar z] at q;exact r.gr.sub c u q
  ·have z:c≠a:=fun z=>by rw [z,h4] at q2;cases q2
   rw [ar z];exact r.gr.nw c u q1 q2
  ·rw [List.getElem?_set] at ej
   by_cases z:i=j
   ·subst z
    rw [if_pos rfl] at ej
    split at ej
    ·cases ej
     exact ⟨.ref a,h1,.lst aC (h5.mono hst)⟩
    ·cases ej
   ·rw [if_neg z] at ej
    obtain ⟨v,q1,q2⟩:=r.sh j q ej
    exact ⟨v,q1,q2.mono hst⟩
  ·rw [List.getElem?_set] at ej
   by_cases z:i=j
   ·subst z
    rw [if_pos rfl] at ej
    split at ej <;> cases ej
   ·rw [if_neg z] at ej
    obtain ⟨b,us,q1,q2,q3,q4,q5⟩:=r.ow j ys ej
    have nb:b≠a:=fun w=>by subst w;exact r.sep i j xs ys b z e ej h1 q1
    exact ⟨b,us,q1,q2,by rw [ar nb];exact q3,q4,q5.mono hst⟩
  ·rw [List.getElem?_set] at e1 e2
   by_cases z:i=j
   ·subst z
    rw [if_pos rfl] at e1
    split at e1 <;> cases e1
   ·by_cases z2:i=k
    ·subst z2
     rw [if_pos rfl] at e2
     split at e2 <;> cases e2
    ·rw [if_neg z] at e1
     rw [if_neg z2] at e2
     exact r.sep j k ys zs b nj e1 e2 e3 e4
  ·rw [List.getElem?_set] at ej
   by_cases z:i=j
   ·subst z
    rw [if_pos rfl] at ej
    split at ej <;> cases ej
   ·rw [if_neg z] at ej
    obtain ⟨dx,us,q1,q2,q3,q4,q5⟩:=r.bd j ba C fs ej
    have nb:ba≠a:=fun w=>by subst w;rw [h2] at q2;cases q2
    exact ⟨dx,us,q1,q2,by rw [ar nb];exact q3,q4,q5.mono hst⟩
  ·rw [List.getElem?_set] at e1 e2
   by_cases z:i=j
   ·subst z
    rw [if_pos rfl] at e1
    split at e1 <;> cases e1
   ·by_cases z2:i=k
    ·subst z2
     rw [if_pos rfl] at e2
     split at e2 <;> cases e2
    ·rw [if_neg z] at e1
     rw [if_neg z2] at e2
     exact r.one j k _ _ C D fs gs e1 e2
 ·exact ⟨Hs,r,fun _ _ q=>q⟩
def p5 (is:List Nat) (f:af->M Out):af->M Out:=fun env=>f (is.foldl (fun e i=>tR i e) env)
theorem SR.lh {B H₀ H:Hp} {σ:St}:∀ {is:List Nat} {Hs:Hp} {env:af},SR B H₀ Hs H σ env->∃ Hs',SR B H₀ Hs' H σ (is.foldl (fun e i=>tR i e) env)/\aW Hs Hs'
 | [],Hs,_,r=>⟨Hs,r,fun _ _ q=>q⟩
 | i::is,_,_,r=>by
  obtain ⟨Hs1,r1,s1⟩:=r.rK i
  obtain ⟨Hs2,r2,s2⟩:=SR.lh (is:=is) r1
  exact ⟨Hs2,r2,fun c u q=>s2 c u (s1 c u q)⟩
section
variable {X:Cx} {E:XK} {e:Expr} {pos pos':Pos} {f:af->M PV} {st:Stmt} {sts rest:List Stmt} {u:af->M Bool} {g h:af->M Out} {i:Nat} {x:Str}
theorem FT (is:List Nat) (hs:PS X st (tS E g)):PS X st (tS E (p5 is g)):=hs.imp fun D σ H q=>by
 obtain ⟨B,H₀,Hs,env,sr,q⟩:=q
 obtain ⟨Hs',r,_⟩:=sr.lh (is:=is)
 exact ⟨B,H₀,Hs',_,r,q⟩
theorem DR:lZ X [] (tS E ao):=yw.imp fun D σ H q=>by
 obtain ⟨B,H₀,Hs,env,sr,q⟩:=q
 exact q σ Hs H sr
theorem Bl (h1:PS X st (tS E g)) (h2:lZ X rest (tS E h)):lZ X (st::rest) (tS E (ak g h)):=by
 refine (wm h1 h2).imp fun D σ H q=>?_
 obtain ⟨B,H₀,Hs,env,sr,q⟩:=q
 refine ⟨B,H₀,Hs,env,sr,(av.bind q).imp (fun o ho=>?_) fun e he=>he⟩
 cases o with
 | nx env'=>exact fun σ' Hs' H' sr'=>⟨B,H₀,Hs',env',sr',ho⟩
 | rt p=>exact ho
 | bk env'=>exact ho
 | ct env'=>exact ho
def aY (i:Nat) (f:af->M PV):af->M Out:=fun env=>(f env).bind fun p=>M.ok (.nx (env.set i (some (.sh p))))
theorem Hj {pos':Pos} (hN:X.N.Nodup) (hi:X.N[i]?=some x) (hx:Loc X.env.scope x) (he:PE X e (tE (fun _=>E) f)) (hs:swapsWith e (some (.Name x pos')) pos.line X.env=pure false:=by rfl) (hf:X.fn x=true\/X.env.scope.names.lookup x=some .local:=by first | exact .inl rfl | exact .inr rfl | assumption) :
  PS X (.Assign [.Name x pos'] e pos) (tS E (aY i f)) :=
 (C6 hN hi hx he hs hf).imp fun D σ H q=>kd q fun B H₀ Hs H1 env p v sr rp hp=>hp _ Hs H1 (sr.set rp)
def retS (f:af->M PV):af->M Out:=fun env=>(f env).bind fun p=>M.ok (.rt p)
theorem Ip (he:PE X e (tE (fun _=>E) f)):PS X (.Return (some e) pos) (tS E (retS f)) :=
 (HA he).imp fun D σ H q=>kd q fun B H₀ Hs H1 env p v sr rp hp=>hp v Hs H1 sr.gr rp
def lx (f:af->M PV):af->M Out:=fun env=>(f env).bind fun _=>M.ok (.nx env)
theorem EY (he:PE X e (tE (fun _=>E) f)) (hs:swapsWith e none pos.line X.env=pure false:=by rfl):PS X (.Expr e pos) (tS E (lx f)) :=
 (tj he hs).imp fun D σ H q=>kd q fun B H₀ Hs H1 env p v sr rp hp=>hp σ Hs H1 sr
def kA (u:af->M Bool) (g h:af->M Out):af->M Out:=fun env=>(u env).bind fun b=>if b=true then g env else h env
theorem IL {c:Expr} {a b:List Stmt} (hc:PT X c (tT (fun _=>E) u)) (ha:lZ X a (tS E g)) (hb:lZ X b (tS E h)):PS X (.If c a b pos) (tS E (kA u g h)):=by
 refine (IX hc ha hb).imp fun D σ H q=>CM q fun B H₀ Hs H1 env p sr hp=>?_
 cases p with
 | true=>exact ⟨B,H₀,Hs,env,sr,hp⟩
 | false=>exact ⟨B,H₀,Hs,env,sr,hp⟩
end
end L2
namespace L2
open PySem PySem.Spec PyProof.Rows
def ov (Hs H₀:Hp):Hp:=fun a=>match Hs a with
 | some o=>some o
 | none=>H₀ a
theorem oU {Hs H₀:Hp} {a:Addr} {o:HO} (h:Hs a=some o):ov Hs H₀ a=some o:=by unfold ov;rw [h]
theorem i_ {Hs H₀:Hp} {a:Addr} (h:Hs a=none):ov Hs H₀ a=H₀ a:=by unfold ov;rw [h]
theorem EO {Hs H₀ H:Hp} (s:aW Hs H) (t:aW H₀ H):aW (ov Hs H₀) H:=fun a o e=>by
 cases q:Hs a with
 | some o'=>rw [oU q] at e;cases e;exact s _ _ q
 | none=>rw [i_ q] at e;exact t _ _ e
theorem SR.rebase {B H₀ Hs H:Hp} {σ:St} {env:af} (r:SR B H₀ Hs H σ env):SR Hs (ov Hs H₀) Hs H σ env where
 gr:=⟨fun _ _ e=>e,EO r.gr.sub r.gr.al,r.gr.sub,fun _ _ e _=>e⟩
 len:=r.len
 sh:=r.sh
 ow:=fun i xs e=>let ⟨a,vs,h1,h2,h3,h4,h5⟩:=r.ow i xs e;⟨a,vs,h1,h2,h3,by rw [i_ h3];exact h4,h5⟩
 sep:=r.sep
 bd:=fun i a C fs e=>let ⟨dx,vs,h1,h2,h3,h4,h5⟩:=r.bd i a C fs e;⟨dx,vs,h1,h2,h3,by rw [i_ h3];exact h4,h5⟩
 one:=r.one
theorem bu.lT {B H₀ Hs H Hs2 H2:Hp} (g:bu B H₀ Hs H) (g2:bu Hs (ov Hs H₀) Hs2 H2):bu B H₀ Hs2 H2 where
 st:=fun a o e=>g2.st a o (g.st a o e)
 al:=fun a o e=>by
  cases q:Hs a with
  | some o' =>
   have h1:=g.sub a o' q
   have h2:=g.al a o e
   rw [h1] at h2;cases h2
   exact g2.al a _ (oU q)
  | none=>exact g2.al a o (by rw [i_ q];exact e)
 sub:=g2.sub
 nw:=fun a o e q=>by
  have h1:=g.nw a o e q
  exact g2.nw a o h1 (by rw [i_ h1];exact q)
theorem SR.lT {B H₀ Hs H Hs2 H2:Hp} {σ:St} {env:af} (g:bu B H₀ Hs H) (r:SR Hs (ov Hs H₀) Hs2 H2 σ env):SR B H₀ Hs2 H2 σ env where
 gr:=g.lT r.gr
 len:=r.len
 sh:=r.sh
 ow:=fun i xs e=>by
  obtain ⟨a,vs,h1,h2,h3,h4,h5⟩:=r.ow i xs e
  refine ⟨a,vs,h1,h2,h3,?_,h5⟩
  cases q:Hs a with
  | some o=>rw [oU q] at h4;cases h4
  | none=>rw [i_ q] at h4;exact h4
 sep:=r.sep
 bd:=fun i a C fs e=>by
  obtain ⟨dx,vs,h1,h2,h3,h4,h5⟩:=r.bd i a C fs e
  refine ⟨dx,vs,h1,h2,h3,?_,h5⟩
  cases q:Hs a with
  | some o=>rw [oU q] at h4;cases h4
  | none=>rw [i_ q] at h4;exact h4
 one:=r.one
theorem XW.rebase {E:XK} {B H₀ Hs H:Hp} (g:bu B H₀ Hs H) {x:EX} (h:XW E B H₀ x):XW E Hs (ov Hs H₀) x:=fun ea Hs2 H2 r q=>h ea Hs2 H2 (g.lT r) q
def Jz (k:af->M Out):Out->M Out
 | .nx env=>k env
 | .ct env=>k env
 | .bk env=>M.ok (.nx env)
 | .rt p=>M.ok (.rt p)
def ju (set:PV->af->M af) (body:af->M Out):List PV->af->M Out
 | [],env=>M.ok (.nx env)
 | x::xs,env=>(set x env).bind fun env'=>(body env').bind (Jz (ju set body xs))
def E5 (E:XK) (g:TG) (set:PV->af->M af):Prop:=∀ (B H₀ Hs H:Hp) (σ:St) (env:af) (p:PV) (v:V) (Q:St->Hp->Prop) (Z:EX->Prop),SR B H₀ Hs H σ env->Rep Hs p v->av (set p env) (fun env'=>∀ σ',SR B H₀ Hs H σ' env'->Q σ' H) Z->g v σ H Q
def cU (i:Nat) (p:PV) (env:af):M af:=M.ok (env.set i (some (.sh p)))
theorem bB {E:XK} {i:Nat}:E5 E (aF i) (cU i):=fun B H₀ Hs H σ env p v Q Z sr r h=>h _ (sr.set r)
def bC (i j:Nat):PV->af->M af
 | .tup [p,q],env=>M.ok ((env.set i (some (.sh p))).set j (some (.sh q)))
 | _,_=>none
theorem ck {E:XK} {K:PySem.W.Frag} {i j:Nat}:E5 E (iw K 2 (aU (aF i) (aU (aF j) iE))) (bC i j):=by
 intro B H₀ Hs H σ env p v Q Z sr r h
 cases r with
 | @tup a xs vs ha hx =>
  match xs,hx with
  | [p,q],hx =>
   obtain ⟨v,u,rfl,rp,rq⟩:=hx.two
   exact ⟨a,[v,u],rfl,gT.of (sr.gr.sub _ _ ha),rfl,v,[u],rfl,u,[],rfl,rfl,h _ ((sr.set rp).set rq)⟩
  | [],_=>exact h.elim
  | [_],_=>exact h.elim
  | _::_::_::_,_=>exact h.elim
 | _=>exact h.elim
section
variable {E:XK} {g:TG} {set:PV->af->M af} {body:af->M Out} {D:Ends} {B H₀ Hs1:Hp} {xs:List PV}
def Jv (E:XK) (set:PV->af->M af) (body:af->M Out) (D:Ends) (B H₀ Hs1:Hp) (xs:List PV) (i:Nat) (σ:St) (H:Hp):Prop:=∃ Hs env,SR B H₀ Hs H σ env/\aW Hs1 Hs/\av (ju set body (xs.drop i) env) (KS D B H₀) (XW E B H₀)
theorem Jv.done {n:Nat} {σ:St} {H:Hp} (j:Jv E set body D B H₀ Hs1 xs n σ H) (hn:xs.length<=n):D.nx σ H:=by
 obtain ⟨Hs,env,sr,_,h⟩:=j
 rw [List.drop_eq_nil_of_le hn] at h
 exact h σ Hs H sr
theorem Jv.turn {i:Nat} {σ:St} {H H1 Hx:Hp} {x:PV} {v:V} (tg:E5 E g set) (hx:xs[i]?=some x) {Hs:Hp} {env:af} (sr:SR B H₀ Hs H σ env) (s1:aW Hs1 Hs) (h:av (ju set body (xs.drop i) env) (KS D B H₀) (XW E B H₀)) {Hs2 H2:Hp} (gr:bu Hs H Hs2 H2) (rv:Rep Hs2 x v) :
  g v σ H2 fun σ2 H3=>tS E body { D with nx:=Jv E set body D B H₀ Hs1 xs (i+1),ct:=Jv E set body D B H₀ Hs1 xs (i+1),bk:=D.nx } σ2 H3:=by
 have hlt:i<xs.length:=(List.getElem?_eq_some_iff.mp hx).1
 have hd:xs.drop i=x::xs.drop (i+1):=by
  rw [List.drop_eq_getElem_cons hlt]
  rw [List.getElem?_eq_getElem hlt] at hx
  rw [Option.some.inj hx]
 rw [hd] at h
 have sr2:=sr.grow gr
 refine tg B H₀ Hs2 H2 σ env x v _ _ sr2 rv ((av.bind h).imp (fun env' h' σ' sr'=>?_) fun _ z=>z)
 refine ⟨Hs2,ov Hs2 H₀,Hs2,env',sr'.rebase,(av.bind h').imp (fun o ho=>?_) fun e he=>he.rebase sr'.gr⟩
 cases o with
 | nx e2=>exact fun σ3 Hs3 H3 r=>⟨Hs3,e2,r.lT sr'.gr,fun a o z=>r.gr.st a o (gr.st a o (s1 a o z)),ho⟩
 | ct e2=>exact fun σ3 Hs3 H3 r=>⟨Hs3,e2,r.lT sr'.gr,fun a o z=>r.gr.st a o (gr.st a o (s1 a o z)),ho⟩
 | bk e2=>exact fun σ3 Hs3 H3 r=>ho σ3 Hs3 H3 (r.lT sr'.gr)
 | rt p=>exact fun v3 Hs3 H3 r q=>ho v3 Hs3 H3 (sr'.gr.lT r) q
end
def fO (it:af->M (List PV)) (set:PV->af->M af) (body:af->M Out):af->M Out:=fun env=>(it env).bind fun xs=>ju set body xs env
def itemsOf (f:af->M PV):af->M (List PV):=fun env=>(f env).bind fun p=>match bS p with | some xs=>M.ok xs | none=>none
theorem kQ {K:PySem.W.Frag} {Hs H:Hp} {p:PV} {v:V} {xs:List PV} (s:aW Hs H) (r:Rep Hs p v) (e:bS p=some xs):∃ b a vs,v=.ref a/\(∀ Hs' H',aW Hs Hs'->aW Hs' H'->k9 K H' b a vs)/\aG Hs xs vs:=by
 cases r with
 | tup h r=>cases e;exact ⟨false,_,_,rfl,fun Hs' H' s1 s2=>gT.of (s2 _ _ (s1 _ _ h)),r⟩
 | lst h r=>cases e;exact ⟨true,_,_,rfl,fun Hs' H' s1 s2=>i4.of (s2 _ _ (s1 _ _ h)),r⟩
 | jI h r=>cases e;exact ⟨true,_,_,rfl,fun Hs' H' s1 s2=>.inl (.inr ⟨_,s2 _ _ (s1 _ _ h)⟩),r⟩
 | _=>cases e
section
variable {X:Cx} {E:XK} {tg iter:Expr} {pos p:Pos} {f f2:af->M PV} {g:TG} {set:PV->af->M af} {body:af->M Out} {bd:List Stmt}
end
end L2
namespace L2
open PySem PySem.Spec PyProof.Rows
def NU:PV->M (List PV)
 | .int n=>cC (-(2^62)<=n/\n<2^62) (M.ok ((List.range n.toNat).map fun (i:Nat)=>.int (0+(i:Int))))
 | _=>none
def Kz:PV->PV->M (List PV)
 | .int a,.int b=>cC (-(2^62)<=a/\a<2^62/\-(2^62)<=b/\b<2^62) (M.ok ((List.range (b-a).toNat).map fun (i:Nat)=>.int (a+(i:Int))))
 | _,_=>none
def pK:List PV->M (List PV)
 | [p]=>NU p
 | _=>none
def Ad:List PV->M (List PV)
 | [p,q]=>Kz p q
 | _=>none
theorem zU {ps:List PV} {α:Type} {k:List PV->M α} {Q:α->Prop} {Z:EX->Prop} (h:av ((pK ps).bind k) Q Z):∃ n:Int,ps=[.int n]/\-(2^62)<=n/\n<2^62/\av (k ((List.range n.toNat).map fun (i:Nat)=>.int (0+(i:Int)))) Q Z:=by
 match ps with
 | []=>exact h.elim
 | _::_::_=>exact h.elim
 | [p] =>
  cases p with
  | int n =>
   obtain ⟨hc,h⟩:=av.cC (av.bind h)
   exact ⟨n,rfl,hc.1,hc.2,h⟩
  | _=>exact h.elim
theorem zL {ps:List PV} {α:Type} {k:List PV->M α} {Q:α->Prop} {Z:EX->Prop} (h:av ((Ad ps).bind k) Q Z):∃ a b:Int,ps=[.int a,.int b]/\(-(2^62)<=a/\a<2^62/\-(2^62)<=b/\b<2^62)/\av (k ((List.range (b-a).toNat).map fun (i:Nat)=>.int (a+(i:Int)))) Q Z:=by
 match ps with
 | []=>exact h.elim
 | [_]=>exact h.elim
 | _::_::_::_=>exact h.elim
 | [p,q] =>
  cases p with
  | int a=>cases q with
   | int b =>
    obtain ⟨hc,h⟩:=av.cC (av.bind h)
    exact ⟨a,b,rfl,hc,h⟩
   | _=>exact h.elim
  | _=>exact h.elim
def zip2:List PV->M (List PV)
 | [p,q]=>match bS p,bS q with
  | some xs,some ys=>M.ok (List.zipWith (fun a b=>.tup [a,b]) xs ys)
  | _,_=>none
 | _=>none
theorem Aj {ps:List PV} {α:Type} {k:List PV->M α} {Q:α->Prop} {Z:EX->Prop} (h:av ((zip2 ps).bind k) Q Z):∃ p q xs ys,ps=[p,q]/\bS p=some xs/\bS q=some ys/\av (k (List.zipWith (fun a b=>.tup [a,b]) xs ys)) Q Z:=by
 match ps with
 | []=>exact h.elim
 | [_]=>exact h.elim
 | _::_::_::_=>exact h.elim
 | [p,q] =>
  unfold zip2 at h
  dsimp only at h
  cases e1:bS p with
  | none=>rw [e1] at h;exact h.elim
  | some xs =>
   cases e2:bS q with
   | none=>rw [e1,e2] at h;exact h.elim
   | some ys=>rw [e1,e2] at h;exact ⟨p,q,xs,ys,rfl,e1,e2,h⟩
theorem Af {n i:Nat} {f:Nat->PV} (h:i<n):((List.range n).map f)[i]?=some (f i):=by
 rw [List.getElem?_map,List.getElem?_range h];rfl
section
variable {X:Cx} {E:XK} {tg a b l l1 l2:Expr} {pos p tp:Pos} {fs:af->M (List PV)} {g:TG} {set:PV->af->M af} {body:af->M Out} {bd:List Stmt}
end
def KO (Q:VK):Hp->Hp->List PV->Prop:=fun Hs H ps=>∀ vs p Hs' H',bu Hs H Hs' H'->aG Hs' ps vs->H' p=none->Q (.ref p) (upd H' p (.lst vs))
def tO (E:St->XK) (f:af->M (List PV)):TE:=fun σ H Q=>tG E f (KO Q) σ H
section
variable {X:Cx} {E:XK} {e:Expr} {es:List Expr} {pos pos':Pos} {fs:af->M (List PV)} {f:af->M PV} {i:Nat} {x:Str}
def qO (i:Nat) (f:af->M (List PV)):af->M Out:=fun env=>(f env).bind fun ps=>M.ok (.nx (env.set i (some (.ow ps))))
theorem DC {pos':Pos} (hN:X.N.Nodup) (hi:X.N[i]?=some x) (hx:Loc X.env.scope x) (he:PE X e (tO (fun _=>E) fs)) (hs:swapsWith e (some (.Name x pos')) pos.line X.env=pure false:=by rfl) (hf:X.fn x=true\/X.env.scope.names.lookup x=some .local:=by first | exact .inl rfl | exact .inr rfl | assumption) :
  PS X (.Assign [.Name x pos'] e pos) (tS E (qO i fs)):=by
 refine (C6 hN hi hx he hs hf).imp fun D σ H q=>?_
 obtain ⟨B,H₀,Hs,env,sr,q⟩:=q
 refine ⟨B,H₀,Hs,env,sr,(av.bind q).imp (fun ps hp vs p Hs' H' g r n=>?_) fun e he=>he.grow sr.gr⟩
 exact hp _ Hs' _ ((sr.grow g).own r n)
def ko (fs:af->M (List PV)):af->M (List PV):=fun env=>(fs env).bind fun ps=>if ps.length<=sizeLine then M.ok ps else none
theorem HF {E:St->XK} (hr:PA X es (tL E fs)):PE X (.List es pos) (tO E (ko fs)):=by
 refine (CU hr).imp fun σ H Q q=>?_
 obtain ⟨B,H₀,Hs,env,sr,q⟩:=q
 refine ⟨B,H₀,Hs,env,sr,(av.bind q).imp (fun ps hp vs Hs' H' g r=>?_) fun e he=>he⟩
 by_cases hz:ps.length<=sizeLine
 ·rw [if_pos hz] at hp
  exact ⟨by rw [← r.length];exact hz,fun p n=>hp vs p Hs' H' g r n⟩
 ·rw [if_neg hz] at hp;exact hp.elim
def jl (i:Nat) (f:af->M PV):af->M Out:=fun env=>match env[i]? with
 | some (some (.ow xs))=>(f env).bind fun p=>if xs.length<sizeLine then M.ok (.nx (env.set i (some (.ow (xs++[p]))))) else none
 | _=>none
theorem SR.put {B H₀ Hs H:Hp} {σ:St} {env:af} {i:Nat} {a:Addr} {xs ys:List PV} {us:List V} (r:SR B H₀ Hs H σ env) (e:env[i]?=some (some (.ow xs))) (hi:σ[i]?=some (some (.ref a))) (h:aG Hs ys us):SR B H₀ Hs (upd H a (.lst us)) σ (env.set i (some (.ow ys))):=by
 obtain ⟨a',vs,h1,h2,h3,h4,h5⟩:=r.ow i xs e
 rw [hi] at h1;cases h1
 have nS:∀ c u,Hs c=some u->c≠a:=fun c u q z=>by rw [z,h3] at q;cases q
 have n0:∀ c u,H₀ c=some u->c≠a:=fun c u q z=>by rw [z,h4] at q;cases q
 refine ⟨⟨r.gr.st,fun c u q=>by rw [ar (n0 c u q)];exact r.gr.al c u q,fun c u q=>by rw [ar (nS c u q)];exact r.gr.sub c u q,r.gr.nw⟩,by rw [List.length_set];exact r.len,fun j q ej=>?_,fun j zs ej=>?_,fun j k y1 y2 b nj e1 e2 e3 e4=>?_,fun j ba C fs ej=>?_,fun j k _ _ C D fs gs e1 e2=>?_⟩
 ·rw [List.getElem?_set] at ej
  by_cases z:i=j
  ·subst z
   rw [if_pos rfl] at ej
   split at ej <;> cases ej
  ·rw [if_neg z] at ej;exact r.sh j q ej
 ·rw [List.getElem?_set] at ej
  by_cases z:i=j
  ·subst z
   rw [if_pos rfl] at ej
   split at ej
   ·cases ej;exact ⟨a,us,hi,aC,h3,h4,h⟩
   ·cases ej
  ·rw [if_neg z] at ej
   obtain ⟨b,ws,q1,q2,q3,q4,q5⟩:=r.ow j zs ej
   have nb:b≠a:=fun w=>by subst w;exact r.sep i j xs zs b z e ej hi q1
   exact ⟨b,ws,q1,by rw [ar nb];exact q2,q3,q4,q5⟩
 ·have o1:∃ w,env[j]?=some (some (.ow w)):=by
   rw [List.getElem?_set] at e1
   by_cases z:i=j
   ·subst z;exact ⟨xs,e⟩
   ·rw [if_neg z] at e1;exact ⟨_,e1⟩
  have o2:∃ w,env[k]?=some (some (.ow w)):=by
   rw [List.getElem?_set] at e2
   by_cases z:i=k
   ·subst z;exact ⟨xs,e⟩
   ·rw [if_neg z] at e2;exact ⟨_,e2⟩
  obtain ⟨w1,o1⟩:=o1
  obtain ⟨w2,o2⟩:=o2
  exact r.sep j k w1 w2 b nj o1 o2 e3 e4
 ·rw [List.getElem?_set] at ej
  by_cases z:i=j
  ·subst z
   rw [if_pos rfl] at ej
   split at ej <;> cases ej
  ·rw [if_neg z] at ej
   obtain ⟨dx,ws,q1,q2,q3,q4,q5⟩:=r.bd j ba C fs ej
   have nb:ba≠a:=fun w=>by subst w;rw [h2] at q2;cases q2
   exact ⟨dx,ws,q1,by rw [ar nb];exact q2,q3,q4,q5⟩
 ·rw [List.getElem?_set] at e1 e2
  by_cases z:i=j
  ·subst z
   rw [if_pos rfl] at e1
   split at e1 <;> cases e1
  ·by_cases z2:i=k
   ·subst z2
    rw [if_pos rfl] at e2
    split at e2 <;> cases e2
   ·rw [if_neg z] at e1
    rw [if_neg z2] at e2
    exact r.one j k _ _ C D fs gs e1 e2
theorem zB {apos cpos px:Pos} (hi:X.N[i]?=some x) (hv:BB X.env.scope x) (he:PE X e (tE (fun _=>E) f)) (hd:(x==("__debug__" : Str))=false:=by decide) (hcd:(x==("__classdict__" : Str))=false:=by decide)
  (hbase:attributeBase (.Name x px) "append" X.env (eval (.Name x px) X.env)=eval (.Name x px) X.env:=by rfl)
  (hfew:((backTo cpos (starEach [e] X.env)).all (fun x=>!x.1)&&(backToKw cpos (keywordEach [] X.env)).all (fun x=>x.1.isSome)
   && decide (([e]:List Expr).length+([]:List Keyword).length+(if ([]:List Keyword).isEmpty then 0 else 1)<30))=true:=by rfl)
  (hline:(apos.endLine==cpos.line)=true:=by rfl) (hst:starEach [e] X.env=(false,eval e X.env)::starEach [] X.env:=by rfl) (hplain:(backTo cpos (starEach [] X.env)).any (·.1)=false:=by rfl)
  (hs:swapsWith (.Call (.Attribute (.Name x px) "append" apos) [e] [] cpos) none pos.line X.env=pure false:=by rfl) :
  PS X (.Expr (.Call (.Attribute (.Name x px) "append" apos) [e] [] cpos) pos) (tS E (jl i f)):=by
 refine (tj (JR PySem.F.plainAttrs_list PySem.F.slot_list_append PySem.F.type_list_append nI (mX hi hv hd hcd) (ig he qr hst) hbase hfew hline hst hplain) hs).imp fun D σ H q=>?_
 obtain ⟨B,H₀,Hs,env,sr,q⟩:=q
 unfold jl at q
 split at q
 ·rename_i xs ex
  obtain ⟨a,vs,h1,h2,h3,h4,h5⟩:=sr.ow i xs ex
  refine ⟨.ref a,h1,.inl ⟨rfl,vs,i4.of h2⟩,B,H₀,Hs,env,sr,(av.bind q).imp (fun p hp v Hs' H' g r=>?_) fun e he=>he.grow sr.gr⟩
  by_cases hz:xs.length<sizeLine
  ·rw [if_pos hz] at hp
   have sr':=sr.grow g
   have r5:aG Hs' (xs++[p]) (vs++[v]):=(h5.mono g.st).snoc r
   exact ⟨a,vs,v,rfl,rfl,g.al _ _ h2,by rw [← h5.length];exact hz,hp σ Hs' _ (sr'.put ex h1 r5)⟩
  ·rw [if_neg hz] at hp;exact hp.elim
 ·exact q.elim
end
end L2
namespace L2
open PySem PySem.Spec PyProof.Rows
def FW:Out->M PV
 | .rt p=>M.ok p
 | .nx _=>M.ok .cS
 | _=>none
def lP (m:Nat) (ps:List PV):af:=ps.map (fun p=>some (.sh p))++List.replicate (m-ps.length) none
def aw (m:Nat) (g:af->M Out) (ps:List PV):M PV:=(g (lP m ps)).bind FW
theorem SR.start {Hs H:Hp} {N:List Str} {ps:List PV} {vs:List V} (s:aW Hs H) (r:aG Hs ps vs):SR Hs H Hs H (start N vs) (lP N.length ps) where
 gr:=.refl s
 len:=by unfold L2.start lP;simp [r.length]
 sh:=fun i p e=>by
  unfold lP at e
  unfold L2.start
  by_cases hi:i<ps.length
  ·rw [List.getElem?_append_left (by simpa using hi),List.getElem?_map,List.getElem?_eq_getElem hi] at e
   cases e
   obtain ⟨v,h1,h2⟩:=r.get (List.getElem?_eq_getElem hi)
   exact ⟨v,by rw [List.getElem?_append_left (by simpa using (r.length▸hi)),List.getElem?_map,h1];rfl,h2⟩
  ·rw [List.getElem?_append_right (by simpa using hi),List.getElem?_replicate] at e
   split at e <;> cases e
 ow:=fun i xs e=>by
  unfold lP at e
  by_cases hi:i<ps.length
  ·rw [List.getElem?_append_left (by simpa using hi),List.getElem?_map,List.getElem?_eq_getElem hi] at e
   cases e
  ·rw [List.getElem?_append_right (by simpa using hi),List.getElem?_replicate] at e
   split at e <;> cases e
 sep:=fun i j xs ys a _ e=>by
  unfold lP at e
  by_cases hi:i<ps.length
  ·rw [List.getElem?_append_left (by simpa using hi),List.getElem?_map,List.getElem?_eq_getElem hi] at e
   cases e
  ·rw [List.getElem?_append_right (by simpa using hi),List.getElem?_replicate] at e
   split at e <;> cases e
 bd:=fun i a C fs e=>by
  unfold lP at e
  by_cases hi:i<ps.length
  ·rw [List.getElem?_append_left (by simpa using hi),List.getElem?_map,List.getElem?_eq_getElem hi] at e
   cases e
  ·rw [List.getElem?_append_right (by simpa using hi),List.getElem?_replicate] at e
   split at e <;> cases e
 one:=fun i j a b C D fs gs e=>by
  unfold lP at e
  by_cases hi:i<ps.length
  ·rw [List.getElem?_append_left (by simpa using hi),List.getElem?_map,List.getElem?_eq_getElem hi] at e
   cases e
  ·rw [List.getElem?_append_right (by simpa using hi),List.getElem?_replicate] at e
   split at e <;> cases e
theorem HI {P:Program} {w:World} {K:PySem.W.Frag} {mg:Str->Option Value} {base:Heap} {k:Nat} {f:Addr} {name qual:Str} {params:Arguments} {body:List Stmt} {scope:Scope} {dV kV doc pm cdv ct oc:Value} {an od:Option Addr}
  {osl:Array (Option Value)} {N ps:List Str} {g:af->M Out} (lk:K.lookup f=some ⟨oc,od,.func (PySem.W.fnOf name qual params body scope dV kV doc pm an cdv ct),osl⟩) (hcd:PySem.W.codeIn K cdv qual=true) (S:ay N ps scope)
  (hb:∀ (A:Around) (outer:List Env) (s:Shared) (H:Hp) (E:XK),bV k (A.deeper (envOfC qual scope s.heap.objs.size f cdv))->lZ ((ot (bT P w) P w K mg base N qual scope f cdv A outer s H E).out fun _=>E) body (tS E g)) :
  aN P w K mg base (bT P w) (k+1) f (PySem.W.fnOf name qual params body scope dV kV doc pm an cdv ct) ps (eJ ps.length (aw N.length g)):=by
 refine wR lk hcd S (fun vs H Q E h=>h.1) fun A outer s H vs Q E hr hs=>⟨_,hb A outer s H E hr,?_⟩
 obtain ⟨_,Hs,ps',sm,r,h⟩:=hs
 refine ⟨Hs,H,Hs,_,SR.start sm r,(av.bind h).imp (fun o ho=>?_) fun e he=>he⟩
 cases o with
 | rt p=>exact fun v Hs' H' gr rv=>ho v Hs' H' gr rv
 | nx env=>exact fun σ Hs' H' sr=>ho .cS Hs' H' sr.gr .cS
 | bk env=>exact ho.elim
 | ct env=>exact ho.elim
section
variable {X:Cx} {E:XK} {e:Expr} {es:List Expr} {pos p cpos:Pos} {x:Str} {C f:Addr} {k:Nat} {fd:FuncData} {ps:List Str} {fs:af->M (List PV)}
def nq (C:Addr) (fs:af->M (List PV)):af->M Out:=fun env=>(fs env).bind fun ps=>cC (ps.length<=sizeLine) (some (.error (C,none)))
theorem z6 (O:eU X fun _=>E) (hcalm:X.calm=true) (hc:PySem.W.excIn X.K C eR "ValueError.__new__" = true) (c:gG X.K C) (ht:PySem.W.typeIn X.K (.ref C)=some (.type "type")) (kp:PySem.W.keepIn X.K (.ref C)=true) (hg:Gl X x) (hm:X.mg x=some (.ref C)) (ha:PA X (e::es) (tL (fun _=>E) fs))
  (hdb:(x==("__debug__" : Str))=false:=by decide) (he:starEach (e::es) X.env=(false,eval e X.env)::starEach es X.env:=by rfl) (hpl:(backTo cpos (starEach es X.env)).any (·.1)=false:=by rfl) :
  PS X (.Raise (some (.Call (.Name x p) (e::es) [] cpos)) none pos) (tS E (nq C fs)):=by
 refine (uX O hcalm (DI hc kp hg hm ha hdb he hpl)).imp fun D σ H q=>qj q fun B H₀ Hs H1 env ps' v sr rp hp=>?_
 obtain ⟨hz,hp⟩:=av.cC hp
 refine ⟨by rw [← rp.length];exact hz,fun a n=>⟨a,C,none,rfl,aC,c,ht,?_⟩⟩
 rw [yI]
 exact hp a (upd Hs a (gU C none a)) _ (sr.gr.trans (bu.new sr.gr.sub n)) (.wU aC)
def Ab (K:PySem.W.Frag) (C:Addr) (fl:Str):Sp:=fun vs H Q _=>∃ a y,vs=[.ref a,y]/\H a=some (k6 C none a)/\∀ d,H d=none->d≠a->Q .cS (upd (upd H d (.xd [(fl,y)])) a (k6 C (some d) a))
def iu (C:Addr) (fl:Str) (fs:af->M (List PV)):af->M Out:=fun env=>(fs env).bind fun ps=>match ps with
 | [p]=>some (.error (C,some [(fl,p)]))
 | _=>none
theorem Ae {fl:Str} (O:eU X fun _=>E) (hcalm:X.calm=true) (hc:p_ X.K C "ValueError.__new__" f=true) (hf:PySem.W.isFn X.K (.ref f)=true) (c:gG X.K C) (ht:PySem.W.typeIn X.K (.ref C)=some (.type "type")) (kp:PySem.W.keepIn X.K (.ref C)=true) (F:aN X.prog X.w X.K X.mg X.base (bT X.prog X.w) k f fd ps (Ab X.K C fl)) (hr:bV (k+1) X.A) (hb:Binds X.K fd ps [])
  (hg:Gl X x) (hm:X.mg x=some (.ref C)) (ha:PA X [e] (tL (fun _=>E) fs))
  (hdb:(x==("__debug__" : Str))=false:=by decide) (he:starEach [e] X.env=(false,eval e X.env)::starEach [] X.env:=by rfl) (hpl:(backTo cpos (starEach [] X.env)).any (·.1)=false:=by rfl) :
  PS X (.Raise (some (.Call (.Name x p) [e] [] cpos)) none pos) (tS E (iu C fl fs)):=by
 refine (uX O hcalm (Ci hc hf kp F hr hb hg hm ha hdb he hpl)).imp fun D σ H q=>qj q fun B H₀ Hs H1 env ps' v sr rp hp=>?_
 match ps',rp,hp with
 | [],_,hp=>exact hp.elim
 | _::_::_,_,hp=>exact hp.elim
 | [y],rp,hp =>
  obtain ⟨v,rfl,ry⟩:=rp.one
  refine ⟨by show 1<=sizeLine;decide,fun a n=>⟨a,v,rfl,aC,fun d hd hda=>⟨rfl,a,C,some d,rfl,aC,c,ht,?_⟩⟩⟩
  rw [yI]
  have hd1:H1 d=none:=by rw [ar hda] at hd;exact hd
  have g1:=bu.new (o:=.xd [(fl,v)]) sr.gr.sub hd1
  have hn2:upd H1 d (.xd [(fl,v)]) a=none:=by rw [ar (Ne.symm hda)];exact n
  have g2:=bu.new (o:=gU C (some d) a) g1.sub hn2
  have hH:upd (upd (upd H1 a (k6 C none a)) d (.xd [(fl,v)])) a (gU C (some d) a)=upd (upd H1 d (.xd [(fl,v)])) a (gU C (some d) a):=by
   funext b
   by_cases z:b=a
   ·subst z;rw [aC,aC]
   ·rw [ar z,ar z]
    by_cases z2:b=d
    ·subst z2;rw [aC,aC]
    ·rw [ar z2,ar z2,ar z]
  rw [hH]
  refine hp a (upd (upd Hs d (.xd [(fl,v)])) a (gU C (some d) a)) _ ((sr.gr.trans g1).trans g2) ?_
  exact .v7 aC (by rw [ar hda];exact aC) (.cons ((ry.mono g1.st).mono g2.st) .nil)
theorem qg {P:Program} {w:World} {K:PySem.W.Frag} {mg:Str->Option Value} {base:Heap} {f:Addr} {name qual:Str} {params:Arguments} {scope:Scope} {dV kV doc pm cdv ct oc:Value} {an od:Option Addr}
  {osl:Array (Option Value)} {n0 n1 fl:Str} {p0 p1 p2 p3:Pos} (lk:K.lookup f=some ⟨oc,od,.func (PySem.W.fnOf name qual params [.Assign [.Attribute (.Name n0 p0) fl p1] (.Name n1 p2) p3] scope dV kV doc pm an cdv ct),osl⟩) (hcd:PySem.W.codeIn K cdv qual=true) (S:ay [n0,n1] [n0,n1] scope)
  (c:gG K C) (ho:((PySem.W.clsIn K C).any fun cd=>f7 cd.mro)=true) (na:bp K C fl) (v0:BB scope n0) (v1:BB scope n1) (d0:(n0==("__debug__" : Str))=false) (d1:(n1==("__debug__" : Str))=false) (c0:(n0==("__classdict__" : Str))=false) (c1:(n1==("__classdict__" : Str))=false)
  (hs:∀ env,swapsWith (.Name n1 p2) (some (.Attribute (.Name n0 p0) fl p1)) p3.line env=pure false) :
  aN P w K mg base (bT P w) 1 f (PySem.W.fnOf name qual params [.Assign [.Attribute (.Name n0 p0) fl p1] (.Name n1 p2) p3] scope dV kV doc pm an cdv ct) [n0,n1] (Ab K C fl):=by
 refine wR (k:=0) lk hcd S (fun vs H Q E h=>by obtain ⟨a,y,rfl,_⟩:=h;rfl) fun A outer s H vs Q E hr h=>?_
 obtain ⟨a,y,rfl,ha,hq⟩:=h
 refine ⟨_,DW (Bp (mX (i:=0) rfl v0 d0 c0) (mX (i:=1) rfl v1 d1 c1) (hs _)),?_⟩
 exact ⟨y,rfl,.ref a,rfl,a,C,rfl,ha,c,ho,na,hq⟩
end
end L2
namespace L2
open PySem PySem.Spec PyProof.Rows
structure kC (J:It) (Hs1:Hp) (xs:List PV):Prop where
 stop:∀ (i:Nat) (Hs H:Hp),aW Hs1 Hs->aW Hs H->xs.length<=i->J.stop i H
 go:∀ (i:Nat) (Hs H:Hp),aW Hs1 Hs->aW Hs H->i<xs.length->J.go i H
 wy:∀ (i:Nat) (Hs H:Hp) (x:V) (H2:Hp),aW Hs1 Hs->aW Hs H->i<xs.length->J.wy i H x H2->∃ p Hs2,xs[i]?=some p/\bu Hs H Hs2 H2/\Rep Hs2 p x
def KI (R:It->Hp->Prop):Hp->Hp->List PV->Prop:=fun Hs H xs=>∀ J Hs' H',bu Hs H Hs' H'->kC J Hs' xs->R J H'
def By (E:St->XK) (wi:TI) (it:af->M (List PV)):Prop:=∀ (σ:St) (H:Hp) (R:It->Hp->Prop),tG E it (KI R) σ H->wi σ H R
theorem KI.g {R:It->Hp->Prop}:KG (KI R):=fun Hs H Hs' H' b k g J Hs2 H2 g2 o=>k J Hs2 H2 (g.trans g2) o
section
variable {E:St->XK} {K:PySem.W.Frag} {f:af->M PV} {fs:af->M (List PV)}
theorem AZ {b:Bool} {a:Addr} {Hs1:Hp} {xs:List PV} {vs:List V} (hq:∀ Hs' H',aW Hs1 Hs'->aW Hs' H'->k9 K H' b a vs) (hr:aG Hs1 xs vs):kC (Og K b a) Hs1 xs where
 stop:=fun i Hs H s1 s2 hi=>by
  have q:=hq Hs H s1 s2
  cases b with
  | true=>exact ⟨vs,q,by rw [← hr.length];exact hi⟩
  | false=>exact ⟨vs,q,by rw [← hr.length];exact hi⟩
 go:=fun i Hs H s1 s2 hi=>by
  have q:=hq Hs H s1 s2
  obtain ⟨v,e,_⟩:=hr.get (List.getElem?_eq_getElem hi)
  cases b with
  | true=>exact ⟨vs,v,q,e⟩
  | false=>exact ⟨vs,v,q,e⟩
 wy:=fun i Hs H x H2 s1 s2 hi y=>by
  have q:=hq Hs H s1 s2
  obtain ⟨v,e,r⟩:=hr.get (List.getElem?_eq_getElem hi)
  have z:H2=H/\vs[i]?=some x:=by
   cases b with
   | true=>exact ⟨y.1,y.2 vs q⟩
   | false=>exact ⟨y.1,y.2 vs q⟩
  obtain ⟨rfl,z⟩:=z
  rw [e] at z;cases z
  exact ⟨xs[i],Hs,List.getElem?_eq_getElem hi,.refl s2,r.mono s1⟩
theorem e8:By E (Jx K (tE E f)) (itemsOf f):=by
 intro σ H R q
 refine bL (K:=KI R) KI.g q fun B H₀ Hs H1 env p v sr rp hp=>?_
 cases e:bS p with
 | none=>rw [e] at hp;exact hp.elim
 | some xs =>
  rw [e] at hp
  obtain ⟨b,a,vs,rfl,hq,hr⟩:=kQ (K:=K) sr.gr.sub rp e
  exact ⟨b,a,rfl,⟨vs,hq Hs H1 (fun _ _ z=>z) sr.gr.sub⟩,hp (Og K b a) Hs H1 (.refl sr.gr.sub) (AZ hq hr)⟩
def jM (o:List PV->M (List PV)) (fs:af->M (List PV)):af->M (List PV):=fun env=>(fs env).bind o
theorem v9 {lo:Int} {n:Nat} {Hs1:Hp}:kC (JU lo n) Hs1 ((List.range n).map fun (i:Nat)=>PV.int (lo+(i:Int))) where
 stop:=fun i Hs H s1 s2 hi=>show n<=i by simpa using hi
 go:=fun i Hs H s1 s2 hi=>show i<n by simpa using hi
 wy:=fun i Hs H x H2 s1 s2 hi y=>by
  obtain ⟨rfl,rfl⟩:=y
  exact ⟨_,Hs,Af (by simpa using hi),.refl s2,.int _⟩
theorem aM {α:Type} (x:M α):x.bind M.ok=x:=by
 cases x with
 | none=>rfl
 | some x=>cases x <;> rfl
theorem gq:By E (E8 (tL E fs)) (jM pK fs):=by
 intro σ H R q
 refine cY (K:=KI R) KI.g q fun B H₀ Hs H1 env ps v sr rp hp=>?_
 rw [← aM (pK ps)] at hp
 obtain ⟨n,rfl,h1,h2,hp⟩:=zU hp
 obtain ⟨w,rfl,rw'⟩:=rp.one
 cases rw'
 exact ⟨n,rfl,h1,h2,hp _ Hs H1 (.refl sr.gr.sub) v9⟩
theorem BS:By E (Fg (tL E fs)) (jM Ad fs):=by
 intro σ H R q
 refine cY (K:=KI R) KI.g q fun B H₀ Hs H1 env ps v sr rp hp=>?_
 rw [← aM (Ad ps)] at hp
 obtain ⟨n,m,rfl,h1,hp⟩:=zL hp
 obtain ⟨w,u,rfl,rw',ru⟩:=rp.two
 cases rw'
 cases ru
 exact ⟨n,m,rfl,h1,hp _ Hs H1 (.refl sr.gr.sub) v9⟩
theorem A_ {xs ys:List PV} {i:Nat} (h1:i<xs.length) (h2:i<ys.length):(List.zipWith (fun a b=>PV.tup [a,b]) xs ys)[i]?=some (.tup [xs[i],ys[i]]):=by
 rw [List.getElem?_zipWith,List.getElem?_eq_getElem h1,List.getElem?_eq_getElem h2]
theorem BX {b1 b2:Bool} {a1 a2:Addr} {Hs1:Hp} {xs ys:List PV} {vs us:List V} (hq1:∀ Hs' H',aW Hs1 Hs'->aW Hs' H'->k9 K H' b1 a1 vs) (hr1:aG Hs1 xs vs) (hq2:∀ Hs' H',aW Hs1 Hs'->aW Hs' H'->k9 K H' b2 a2 us) (hr2:aG Hs1 ys us) :
  kC (K5 K b1 b2 a1 a2) Hs1 (List.zipWith (fun a b=>PV.tup [a,b]) xs ys) where
 stop:=fun i Hs H s1 s2 hi=>by
  rw [List.length_zipWith,hr1.length,hr2.length] at hi
  exact ⟨vs,us,hq1 Hs H s1 s2,hq2 Hs H s1 s2,by omega⟩
 go:=fun i Hs H s1 s2 hi=>by
  rw [List.length_zipWith] at hi
  obtain ⟨v,e,_⟩:=hr1.get (List.getElem?_eq_getElem (show i<xs.length by omega))
  obtain ⟨u,e',_⟩:=hr2.get (List.getElem?_eq_getElem (show i<ys.length by omega))
  exact ⟨vs,us,v,u,hq1 Hs H s1 s2,hq2 Hs H s1 s2,e,e'⟩
 wy:=fun i Hs H x H2 s1 s2 hi y=>by
  rw [List.length_zipWith] at hi
  have l1:i<xs.length:=by omega
  have l2:i<ys.length:=by omega
  obtain ⟨v,e,r⟩:=hr1.get (List.getElem?_eq_getElem l1)
  obtain ⟨u,e',r'⟩:=hr2.get (List.getElem?_eq_getElem l2)
  obtain ⟨pa,v',u',hn,rfl,rfl,y1,y2⟩:=y
  have z1:=y1 vs (hq1 Hs H s1 s2)
  have z2:=y2 us (hq2 Hs H s1 s2)
  rw [e] at z1;cases z1
  rw [e'] at z2;cases z2
  have gr:=bu.new (o:=.tup [v,u]) s2 hn
  exact ⟨_,_,A_ l1 l2,gr,.tup aC (.cons ((r.mono s1).mono gr.st) (.cons ((r'.mono s1).mono gr.st) .nil))⟩
theorem ic:By E (J4 K (tL E fs)) (jM zip2 fs):=by
 intro σ H R q
 refine cY (K:=KI R) KI.g q fun B H₀ Hs H1 env ps v sr rp hp=>?_
 rw [← aM (zip2 ps)] at hp
 obtain ⟨p,q,xs,ys,rfl,e1,e2,hp⟩:=Aj hp
 obtain ⟨w,u,rfl,rw',ru⟩:=rp.two
 obtain ⟨b1,a1,vs,rfl,hq1,hr1⟩:=kQ (K:=K) sr.gr.sub rw' e1
 obtain ⟨b2,a2,us,rfl,hq2,hr2⟩:=kQ (K:=K) sr.gr.sub ru e2
 exact ⟨b1,b2,a1,a2,rfl,⟨vs,hq1 Hs H1 (fun _ _ z=>z) sr.gr.sub⟩,⟨us,hq2 Hs H1 (fun _ _ z=>z) sr.gr.sub⟩,hp _ Hs H1 (.refl sr.gr.sub) (BX hq1 hr1 hq2 hr2)⟩
end
theorem bf {X:Cx} {E:XK} {tg iter:Expr} {pos:Pos} {g:TG} {set:PV->af->M af} {body:af->M Out} {bd:List Stmt} {wi:TI} {it:af->M (List PV)} (O:eU X fun _=>E) (hc:X.calm=true) (hi:PI X tg iter wi) (hv:By (fun _=>E) wi it) (hg:PG X tg g) (tgv:E5 E g set) (hb:lZ X bd (tS E body)) (hs:∀ x,foldedSetIterable iter X.env x=pure x:=by intro _;rfl) :
  PS X (.For tg iter bd [] pos) (tS E (fO it set body)):=by
 refine (FU O.own hc hi hg hb hs).imp fun D σ H q=>hv σ H _ ?_
 obtain ⟨B,H₀,Hs,env,sr,q⟩:=q
 refine ⟨B,H₀,Hs,env,sr,(av.bind q).imp (fun xs hp J Hs' H' gr ok=>?_) fun e he=>he.grow sr.gr⟩
 have sr':=sr.grow gr
 refine ⟨fun i m σ H=>m=xs.length-i/\i<=xs.length/\Jv E set body D B H₀ Hs' xs i σ H,⟨xs.length,by simp,Nat.zero_le _,Hs',env,sr',fun _ _ z=>z,hp⟩,?_⟩
 rintro i m σ' H2 ⟨rfl,hi,Hs2,env2,sr2,s2,h2⟩
 by_cases hlt:i<xs.length
 ·refine .inr ⟨ok.go i Hs2 H2 s2 sr2.gr.sub hlt,Jv E set body D B H₀ Hs' xs (i+1),fun σ3 H3 j=>⟨xs.length-(i+1),by omega,rfl,hlt,j⟩,fun x H3 y=>?_⟩
  obtain ⟨p,Hs3,ep,g3,r3⟩:=ok.wy i Hs2 H2 x H3 s2 sr2.gr.sub hlt y
  exact Jv.turn (Hx:=H2) (H1:=H2) tgv ep sr2 s2 h2 g3 r3
 ·have e:i=xs.length:=by omega
  refine .inl ⟨ok.stop i Hs2 H2 s2 sr2.gr.sub (by omega),?_⟩
  exact Jv.done (E:=E) (set:=set) (body:=body) (xs:=xs) (B:=B) (H₀:=H₀) (Hs1:=Hs') (n:=i) ⟨Hs2,env2,sr2,s2,h2⟩ (by omega)
end L2
namespace L2
open PySem PySem.Spec PyProof.Rows
abbrev EF:St->XK:=fun _ _ _ _=>False
def oA (env:af):Prop:=∀ (i:Nat) (x:SV),env[i]?=some (some x)->∃ p,x=.sh p
theorem oA.ow {env:af} (n:oA env) {i:Nat} {xs:List PV} (e:env[i]?=some (some (.ow xs))):False:=by obtain ⟨p,z⟩:=n i _ e;cases z
theorem oA.bd {env:af} (n:oA env) {i:Nat} {a C:Addr} {fs:List (Str×PV)} (e:env[i]?=some (some (.bd a C fs))):False:=by obtain ⟨p,z⟩:=n i _ e;cases z
def C7 {α:Type}:M α->M α
 | some (.ok a)=>some (.ok a)
 | _=>none
theorem av.C7 {α:Type} {x:M α} {Q:α->Prop} {E:EX->Prop} (h:av (L2.C7 x) Q E):av x Q (fun _=>False):=by
 cases x with
 | none=>exact h
 | some x=>cases x with
  | ok a=>exact h
  | error e=>exact h
def lO (n:Nat) (js:List Nat) (env:af):af:=List.replicate n none++js.map fun j=>match env[j]? with
 | some (some (.sh p))=>some (.sh p)
 | _=>none
theorem sq {n:Nat} {js:List Nat} {env:af} {i:Nat} {x:SV} (h:(lO n js env)[i]?=some (some x)):∃ j p,n<=i/\js[i-n]?=some j/\env[j]?=some (some (.sh p))/\x=.sh p:=by
 unfold lO at h
 by_cases hi:i<n
 ·rw [List.getElem?_append_left (by simpa using hi),List.getElem?_replicate] at h
  split at h <;> cases h
 ·rw [List.getElem?_append_right (by simpa using hi),List.getElem?_map,List.length_replicate] at h
  cases hj:js[i-n]? with
  | none=>rw [hj] at h;cases h
  | some j =>
   rw [hj] at h
   have h':(match env[j]? with | some (some (.sh p))=>some (SV.sh p) | _=>none)=some x:=Option.some.inj h
   split at h'
   ·rename_i p e
    cases h'
    exact ⟨j,p,by omega,rfl,e,rfl⟩
   ·cases h'
theorem e7 {n:Nat} {js:List Nat} {env:af}:oA (lO n js env):=fun i xs e=>by
 obtain ⟨_,p,_,_,_,z⟩:=sq e
 exact ⟨p,z⟩
theorem SR.block {B H₀ Hs H:Hp} {σ:St} {env:af} {ts:List Str} {js:List Nat} {D:Addr} (r:SR B H₀ Hs H σ env) (hD:H D=none):SR Hs H Hs (upd H D (.lst [])) (dj ts js σ) (lO ts.length js env) where
 gr:=by
  have ne:∀ c u,H c=some u->c≠D:=fun c u q z=>by rw [z,hD] at q;cases q
  exact ⟨fun _ _ e=>e,fun c u e=>by rw [ar (ne c u e)];exact e,fun c u e=>by rw [ar (ne c u (r.gr.sub c u e))];exact r.gr.sub c u e,fun _ _ e _=>e⟩
 len:=by unfold dj lO;simp
 sh:=fun i p e=>by
  obtain ⟨j,q,hn,hj,he,z⟩:=sq e
  cases z
  obtain ⟨v,h1,h2⟩:=r.sh j p he
  refine ⟨v,?_,h2⟩
  unfold dj
  rw [List.getElem?_append_right (by simpa using hn),List.getElem?_map,List.length_map,hj]
  show some (σ[j]?).join=_
  rw [h1];rfl
 ow:=fun i xs e=>(e7.ow e).elim
 sep:=fun i j xs ys a _ e=>(e7.ow e).elim
 bd:=fun i a C fs e=>(e7.bd e).elim
 one:=fun i j a b C D fs gs e=>(e7.bd e).elim
theorem SR.Hg {B H₀ Hs H:Hp} {σ:St} {env:af} {D:Addr} {o:HO} (r:SR B H₀ Hs H σ env) (n:oA env) (h1:Hs D=none) (h2:H₀ D=none):SR B H₀ Hs (upd H D o) σ env where
 gr:=⟨r.gr.st,fun c u q=>by rw [ar (fun z=>by rw [z,h2] at q;cases q)];exact r.gr.al c u q,fun c u q=>by rw [ar (fun z=>by rw [z,h1] at q;cases q)];exact r.gr.sub c u q,r.gr.nw⟩
 len:=r.len
 sh:=r.sh
 ow:=fun i xs e=>(n.ow e).elim
 sep:=fun i j xs ys a _ e=>(n.ow e).elim
 bd:=fun i a C fs e=>(n.bd e).elim
 one:=fun i j a b C D fs gs e=>(n.bd e).elim
def cB (set:PV->af->M af) (t:Option (af->M Bool)) (f:af->M PV):List PV->af->M (List PV)
 | [],_=>M.ok []
 | x::xs,env=>(set x env).bind fun e=>match t with
  | none=>(f e).bind fun y=>(cB set t f xs e).bind fun ys=>M.ok (y::ys)
  | some t'=>(t' e).bind fun b=>if b=true then (f e).bind fun y=>(cB set t f xs e).bind fun ys=>M.ok (y::ys) else cB set t f xs e
def dI (it:af->M (List PV)) (set:PV->af->M af) (t:Option (af->M Bool)) (f:af->M PV) (n:Nat) (js:List Nat):af->M (List PV):=fun env=>(it env).bind fun xs=>cC (xs.length<=sizeLine) (C7 (cB set t f xs (lO n js env)))
def sN (set:PV->af->M af):Prop:=∀ p env e,set p env=some (.ok e)->oA env->oA e
theorem kI {i:Nat} {env:af} {p:PV} (n:oA env):oA (env.set i (some (.sh p))):=fun j xs e=>by
 rw [List.getElem?_set] at e
 by_cases z:i=j
 ·rw [if_pos z] at e
  split at e
  ·cases e;exact ⟨p,rfl⟩
  ·cases e
 ·rw [if_neg z] at e;exact n j xs e
theorem dF {i:Nat}:sN (cU i):=fun p env e h n=>by
 cases h
 exact kI n
theorem cW {i j:Nat}:sN (bC i j):=fun p env e h n=>by
 unfold bC at h
 split at h
 ·cases h;exact kI (kI n)
 ·cases h
section
variable {set:PV->af->M af} {t:Option (af->M Bool)} {f:af->M PV} {Q:VK} {Hs1 H1:Hp} {D:Addr} {xs:List PV}
def Jc (set:PV->af->M af) (t:Option (af->M Bool)) (f:af->M PV) (Q:VK) (Hs1 H1:Hp) (D:Addr) (xs:List PV) (i:Nat) (σ:St) (H:Hp):Prop:=∃ Hs env ys vs,SR Hs1 H1 Hs H σ env/\oA env/\H D=some (.lst vs)/\Hs D=none/\aG Hs ys vs/\ys.length<=i ∧
 av (cB set t f (xs.drop i) env) (fun zs=>KO Q Hs1 H1 (ys++zs)) (fun _=>False)
def rem (H:Hp) (D:Addr):Hp:=fun a=>if a=D then none else H a
theorem AL {H:Hp} {D:Addr}:rem H D D=none:=by unfold rem;rw [if_pos rfl]
theorem wV {H:Hp} {D a:Addr} (n:a≠D):rem H D a=H a:=by unfold rem;rw [if_neg n]
theorem EB {H:Hp} {D:Addr} {o:HO} (h:H D=some o):upd (rem H D) D o=H:=by
 funext a
 by_cases z:a=D
 ·subst z;rw [aC,h]
 ·rw [ar z,wV z]
theorem Jc.done {i:Nat} {σ:St} {H:Hp} (hD:H1 D=none) (j:Jc set t f Q Hs1 H1 D xs i σ H) (hi:xs.length<=i):Q (.ref D) H:=by
 obtain ⟨Hs,env,ys,vs,sr,n,h1,h2,r,_,h⟩:=j
 rw [List.drop_eq_nil_of_le hi] at h
 have h':KO Q Hs1 H1 (ys++[]):=h
 rw [List.append_nil] at h'
 have gr:bu Hs1 H1 Hs (rem H D):=by
  refine ⟨sr.gr.st,fun c u q=>?_,fun c u q=>?_,sr.gr.nw⟩
  ·rw [wV (fun z=>by rw [z,hD] at q;cases q)];exact sr.gr.al c u q
  ·rw [wV (fun z=>by rw [z,h2] at q;cases q)];exact sr.gr.sub c u q
 have:=h' vs D Hs (rem H D) gr r AL
 rw [EB h1] at this
 exact this
theorem Jc.put {i:Nat} {σ:St} {Hs H:Hp} {env:af} {ys:List PV} {vs:List V} {y:PV} {v:V} (hD:H1 D=none) (sr:SR Hs1 H1 Hs H σ env) (n:oA env) (h1:H D=some (.lst vs)) (h2:Hs D=none) (r:aG Hs ys vs) (hy:ys.length<=i) (hi:i<sizeLine) (rv:Rep Hs y v)
  (h:av ((cB set t f (xs.drop (i+1)) env).bind fun zs=>M.ok (y::zs)) (fun zs=>KO Q Hs1 H1 (ys++zs)) (fun _=>False)) :
  ∃ us,H D=some (.lst us)/\us.length<sizeLine/\Jc set t f Q Hs1 H1 D xs (i+1) σ (upd H D (.lst (us++[v]))):=by
 refine ⟨vs,h1,by rw [← r.length];omega,Hs,env,ys++[y],vs++[v],sr.Hg n h2 hD,n,aC,h2,r.snoc rv,by rw [List.length_append];show ys.length+1<=i+1;omega,(av.bind h).imp (fun zs hz=>?_) fun _ z=>z⟩
 have hz':KO Q Hs1 H1 (ys++(y::zs)):=hz
 rw [List.append_assoc]
 exact hz'
end
section
variable {X:Cx} {E:St->XK} {tg elt iter c:Expr} {scope:Scope} {cl:List (Str×Addr)} {pos:Pos} {wi:TI} {it:af->M (List PV)} {g:TG} {set:PV->af->M af} {f:af->M PV} {u:af->M Bool} {ts fs:List Str} {js:List Nat}
theorem xO {C:Addr} {s₀:Shared} {H₀:Hp} {ex:List Addr} {pins:List (Addr×Obj)} {N:List Str}:eU (vi X scope cl N C s₀ H₀ ex pins) EF where
 pass:=fun _ _ _ _ _ _ _ h=>by
  obtain ⟨_,_,_,_,_,_,_,_,_,_,_,_,_,z⟩:=h
  exact z.elim
 new:=fun _ _ _ _ _ _ _ _ _ z=>z.elim
 own:=PassesOwn.never
theorem cw (hcalm:X.calm=true)
  (hclos:closureFor scope X.env=pure cl) (hk:scope.kind=.function) (nc:iK scope.names=true) (lo:kT scope.names=true) (fh:kP cl scope.names=true) (ag:fG X cl) (fr:iP X scope cl fs js)
  (hi:PI X tg iter wi) (hv:By E wi it) (hg:∀ C s₀ H₀ ex pins,PG (vi X scope cl (ts++fs) C s₀ H₀ ex pins) tg g) (tgv:∀ E,E5 E g set) (so:sN set) (he:∀ C s₀ H₀ ex pins,PE (vi X scope cl (ts++fs) C s₀ H₀ ex pins) elt (tE EF f))
  (hs:∀ x,foldedSetIterable iter X.env x=pure x:=by intro _;rfl):PE X (.ListComp elt [⟨tg,iter,[],0⟩] scope pos) (tO E (dI it set none f ts.length js)):=by
 refine (BE hcalm hclos hk nc lo fh ag fr hi hg he hs).imp fun σ H Q q=>hv σ H _ ?_
 obtain ⟨B,H₀,Hs,env,sr,q⟩:=q
 refine ⟨B,H₀,Hs,env,sr,(av.bind q).imp (fun xs hp J Hs1 H1 gr ok D hD=>?_) fun e he=>he⟩
 obtain ⟨hz,hp⟩:=av.cC hp
 have hp:=av.C7 hp
 have sr1:=sr.grow gr
 refine ⟨fun i m σ H=>m=xs.length-i/\i<=xs.length/\Jc set none f Q Hs1 H1 D xs i σ H,⟨xs.length,by simp,Nat.zero_le _,Hs1,_,[],[],sr1.block hD,e7,aC,?_,.nil,Nat.le_refl _,hp.imp (fun zs hz vs p Hs2 H2 g2 r n=>hz vs p Hs2 H2 (gr.trans g2) r n) fun _ z=>z⟩,?_⟩
 ·cases z:Hs1 D with
  | none=>rfl
  | some o=>have:=gr.sub _ _ z;rw [hD] at this;cases this
 rintro i m σ' H2 ⟨rfl,hi,Hs2,env2,ys,vs,sr2,n2,d1,d2,r2,l2,h2⟩
 by_cases hlt:i<xs.length
 ·refine .inr ⟨ok.go i Hs2 H2 sr2.gr.st sr2.gr.sub hlt,Jc set none f Q Hs1 H1 D xs (i+1),fun σ3 H3 j=>⟨xs.length-(i+1),by omega,rfl,hlt,j⟩,fun x H3 y=>?_⟩
  obtain ⟨p,Hs3,ep,g3,r3⟩:=ok.wy i Hs2 H2 x H3 sr2.gr.st sr2.gr.sub hlt y
  have hd:xs.drop i=p::xs.drop (i+1):=by
   rw [List.drop_eq_getElem_cons hlt]
   rw [List.getElem?_eq_getElem hlt] at ep
   rw [Option.some.inj ep]
  rw [hd] at h2
  have h3:=av.bind h2
  have sr3:=sr2.grow g3
  refine tgv (fun _ _ _=>False) Hs1 H1 Hs3 H3 σ' env2 p x _ (fun _=>False) sr3 r3 ?_
  cases hset:set p env2 with
  | none=>rw [hset] at h3;exact h3
  | some z=>cases z with
   | error e=>rw [hset] at h3;exact h3
   | ok e3 =>
    rw [hset] at h3
    intro σ4 sr4
    have n4:=so p env2 e3 hset n2
    refine ⟨Hs1,H1,Hs3,e3,sr4,(av.bind h3).imp (fun y hy v Hs5 H5 g5 r5=>?_) fun _ z=>z.elim⟩
    exact Jc.put (set:=set) (t:=none) (f:=f) hD (sr4.grow g5) n4 (g5.al _ _ (g3.al _ _ d1)) (g5.nw _ _ (g3.nw _ _ d2 d1) (g3.al _ _ d1)) ((r2.mono g3.st).mono g5.st) l2 (by omega) r5 hy
 ·refine .inl ⟨ok.stop i Hs2 H2 sr2.gr.st sr2.gr.sub (by omega),?_⟩
  exact Jc.done (set:=set) (t:=none) (f:=f) (xs:=xs) (Hs1:=Hs1) (H1:=H1) (i:=i) hD ⟨Hs2,env2,ys,vs,sr2,n2,d1,d2,r2,l2,h2⟩ (by omega)
def eD (fo:af->M (List PV)):af->M PV:=fun env=>(fo env).bind fun ps=>M.ok (.lst ps)
theorem eP {fo:af->M (List PV)} {e:Expr} (he:PE X e (tO E fo)):PE X e (tE E (eD fo)):=he.imp fun σ H Q q=>by
 obtain ⟨B,H₀,Hs,env,sr,q⟩:=q
 refine ⟨B,H₀,Hs,env,sr,(av.bind q).imp (fun ps hp vs p Hs' H' g r n=>?_) fun e he=>he⟩
 have gn:=bu.new (o:=.lst vs) g.sub n
 exact hp _ _ _ (g.trans gn) (.lst aC (r.mono gn.st))
end
end L2
namespace L2
open PySem PySem.Spec PyProof.Rows
def uq (f:Str) (v:PV):List (Str×PV)->List (Str×PV)
 | []=>[(f,v)]
 | (g,x)::r=>if g=f then (g,v)::r else (g,x)::uq f v r
theorem iM.put {H:Hp} {f:Str} {p:PV} {v:V} (h:Rep H p v):∀ {fs:List (Str×PV)} {vs:List (Str×V)},iM H fs vs->iM H (uq f p fs) (jH f v vs)
 | _,_,.nil=>.cons h .nil
 | (g,x)::r,_,.cons hx hr=>by
  unfold uq jH
  by_cases z:g=f
  ·rw [if_pos z,if_pos z];exact .cons h hr
  ·rw [if_neg z,if_neg z];exact .cons hx (hr.put h)
theorem iM.length {H:Hp}:∀ {fs:List (Str×PV)} {vs:List (Str×V)},iM H fs vs->fs.length=vs.length
 | _,_,.nil=>rfl
 | _,_,.cons _ r=>by simp [r.length]
theorem SR.Me {B H₀ Hs H:Hp} {σ:St} {env:af} {i:Nat} {a C dx:Addr} {fs gs:List (Str×PV)} {us:List (Str×V)} (r:SR B H₀ Hs H σ env) (e:env[i]?=some (some (.bd a C fs))) (h:iM Hs gs us):SR B H₀ Hs (upd H a (.ins C dx us)) σ (env.set i (some (.bd a C gs))):=by
 obtain ⟨dx0,vs,h1,h2,h3,h4,h5⟩:=r.bd i a C fs e
 have nS:∀ c u,Hs c=some u->c≠a:=fun c u q z=>by rw [z,h3] at q;cases q
 have n0:∀ c u,H₀ c=some u->c≠a:=fun c u q z=>by rw [z,h4] at q;cases q
 refine ⟨⟨r.gr.st,fun c u q=>by rw [ar (n0 c u q)];exact r.gr.al c u q,fun c u q=>by rw [ar (nS c u q)];exact r.gr.sub c u q,r.gr.nw⟩,by rw [List.length_set];exact r.len,fun j q ej=>?_,fun j zs ej=>?_,fun j k y1 y2 b nj e1 e2 e3 e4=>?_,fun j ba D fs' ej=>?_,fun j k _ _ C' D fs' gs' e1 e2=>?_⟩
 ·rw [List.getElem?_set] at ej
  by_cases z:i=j
  ·subst z
   rw [if_pos rfl] at ej
   split at ej <;> cases ej
  ·rw [if_neg z] at ej;exact r.sh j q ej
 ·rw [List.getElem?_set] at ej
  by_cases z:i=j
  ·subst z
   rw [if_pos rfl] at ej
   split at ej <;> cases ej
  ·rw [if_neg z] at ej
   obtain ⟨b,ws,q1,q2,q3,q4,q5⟩:=r.ow j zs ej
   have nb:b≠a:=fun w=>by subst w;rw [h2] at q2;cases q2
   exact ⟨b,ws,q1,by rw [ar nb];exact q2,q3,q4,q5⟩
 ·rw [List.getElem?_set] at e1 e2
  by_cases z:i=j
  ·subst z
   rw [if_pos rfl] at e1
   split at e1 <;> cases e1
  ·by_cases z2:i=k
   ·subst z2
    rw [if_pos rfl] at e2
    split at e2 <;> cases e2
   ·rw [if_neg z] at e1
    rw [if_neg z2] at e2
    exact r.sep j k y1 y2 b nj e1 e2 e3 e4
 ·rw [List.getElem?_set] at ej
  by_cases z:i=j
  ·subst z
   rw [if_pos rfl] at ej
   split at ej
   ·cases ej;exact ⟨dx,us,h1,aC,h3,h4,h⟩
   ·cases ej
  ·rw [if_neg z] at ej
   exact absurd (r.one i j _ _ _ _ _ _ e ej) z
 ·have o1:∃ b D w,env[j]?=some (some (.bd b D w)):=by
   rw [List.getElem?_set] at e1
   by_cases z:i=j
   ·subst z;exact ⟨_,_,_,e⟩
   ·rw [if_neg z] at e1;exact ⟨_,_,_,e1⟩
  have o2:∃ b D w,env[k]?=some (some (.bd b D w)):=by
   rw [List.getElem?_set] at e2
   by_cases z:i=k
   ·subst z;exact ⟨_,_,_,e⟩
   ·rw [if_neg z] at e2;exact ⟨_,_,_,e2⟩
  obtain ⟨_,_,w1,o1⟩:=o1
  obtain ⟨_,_,w2,o2⟩:=o2
  exact r.one j k _ _ _ _ _ _ o1 o2
def Bi (i:Nat) (C:Addr) (f:Str) (p:PV) (env:af):M Out:=match env[i]? with
 | some (some (.bd a C' fs))=>cC (C'=C/\fs.length<1000) (M.ok (.nx (env.set i (some (.bd a C (uq f p fs))))))
 | _=>none
def lX (i:Nat) (C:Addr) (fl:Str) (f:af->M PV):af->M Out:=fun env=>(f env).bind fun p=>Bi i C fl p env
section
variable {X:Cx} {E:XK} {e:Expr} {pos pos' px:Pos} {f:af->M PV} {i:Nat} {x fl:Str} {C:Addr}
theorem lL (hi:X.N[i]?=some x) (hv:BB X.env.scope x) (c:nK X.K C) (na:bp X.K C fl) (he:PE X e (tE (fun _=>E) f)) (hd:(x==("__debug__" : Str))=false:=by decide) (hcd:(x==("__classdict__" : Str))=false:=by decide)
  (hs:swapsWith e (some (.Attribute (.Name x px) fl pos')) pos.line X.env=pure false:=by rfl):PS X (.Assign [.Attribute (.Name x px) fl pos'] e pos) (tS E (lX i C fl f)):=by
 refine (GP (mX hi hv hd hcd) he hs).imp fun D σ H q=>kd q fun B H₀ Hs H1 env p v sr rp hp=>?_
 unfold Bi at hp
 split at hp
 ·rename_i a C' fs ex
  obtain ⟨⟨rfl,hz⟩,hp⟩:=av.cC hp
  obtain ⟨dx,vs,h1,h2,h3,h4,h5⟩:=sr.bd i a _ fs ex
  exact ⟨.ref a,h1,a,_,dx,vs,rfl,h2,c,na,by rw [← h5.length];exact hz,hp σ Hs _ (sr.Me ex (h5.put rp))⟩
 ·exact hp.elim
end
def yV (m:Nat) (a C:Addr) (ps:List PV):af:=some (.bd a C [])::lP (m-1) ps
def BO (a C:Addr) (env:af):M (List (Str×PV)):=match (env[0]?:Option (Option SV)) with
 | some (some (.bd b D fs))=>cC (b=a/\D=C) (M.ok fs)
 | _=>none
def outI (a C:Addr):Out->M (List (Str×PV))
 | .nx env=>BO a C env
 | _=>none
def zo (m:Nat) (g:af->M Out) (C a:Addr) (ps:List PV):M (List (Str×PV)):=(g (yV m a C ps)).bind (outI a C)
noncomputable def Gj {α:Type} (s:Addr->M α):M α:=open Classical in if h:∃ r,∀ a,s a=r then h.choose else none
theorem Bs {α:Type} {s:Addr->M α} {r:M α} (h:∀ a,s a=r):Gj s=r:=by
 have hx:∃ r,∀ a,s a=r:=⟨r,h⟩
 unfold Gj
 rw [dif_pos hx,← hx.choose_spec 0,h 0]
theorem av.Gj {α:Type} {s:Addr->M α} {Q:α->Prop} {E:EX->Prop} (h:av (L2.Gj s) Q E) (a:Addr):av (s a) Q E:=by
 unfold L2.Gj at h
 split at h
 ·rename_i hx
  rw [hx.choose_spec a];exact h
 ·exact h.elim
def Fi (n:Nat) (C:Addr) (sem:Addr->List PV->M (List (Str×PV))):Sp:=fun vs H Q E=>vs.length=n/\∃ a dx us Hs H1 ps,vs=.ref a::us/\H1 a=none/\H1 dx=none/\dx≠a/\H=upd (upd H1 dx (.own a)) a (.ins C dx [])/\aW Hs H1/\aG Hs ps us ∧
 av (sem a ps) (fun fs=>∀ dx' ws Hs' H',bu Hs H1 Hs' H'->H' a=some (.ins C dx' ws)->Hs' a=none->iM Hs' fs ws->Q .cS H') (XW E Hs H1)
theorem SR.GX {Hs H₀ H:Hp} {N:List Str} {a C dx:Addr} {ps:List PV} {vs:List V} (s:aW Hs H₀) (hN:0<N.length) (ha:H₀ a=none) (r:aG Hs ps vs) (hH:H=upd H₀ a (.ins C dx [])):SR Hs H₀ Hs H (L2.start N (.ref a::vs)) (yV N.length a C ps):=by
 have hs:Hs a=none:=by
  cases q:Hs a with
  | none=>rfl
  | some o=>have:=s _ _ q;rw [ha] at this;cases this
 have ne:∀ c u,H₀ c=some u->c≠a:=fun c u e z=>by rw [z,ha] at e;cases e
 have s0:=SR.start (N:=N.tail) s r
 have e1:L2.start N (.ref a::vs)=some (.ref a)::L2.start N.tail vs:=by
  unfold L2.start
  simp only [List.map_cons,List.cons_append,List.length_cons,List.length_tail]
  rw [Nat.sub_sub,Nat.add_comm]
 have e2:yV N.length a C ps=some (.bd a C [])::lP N.tail.length ps:=by unfold yV;rw [List.length_tail]
 have al:aW H₀ H:=fun c u q=>by rw [hH,ar (ne c u q)];exact q
 rw [e1,e2]
 refine ⟨⟨fun _ _ e=>e,al,fun c u q=>al c u (s c u q),fun c u q _=>q⟩,by simp [s0.len],fun j q ej=>?_,fun j zs ej=>?_,fun j k y1 y2 b nj e1 e2 e3 e4=>?_,fun j ba D fs' ej=>?_,fun j k a1 a2 C' D fs' gs' e1 e2=>?_⟩
 ·cases j with
  | zero=>cases ej
  | succ j=>exact s0.sh j q (by simpa using ej)
 ·cases j with
  | zero=>cases ej
  | succ j=>exact absurd (s0.ow j zs (by simpa using ej)) (fun ⟨b,ws,q1,q2,q3,q4,q5⟩=>by rw [q4] at q2;cases q2)
 ·cases j with
  | zero=>cases e1
  | succ j=>exact absurd (s0.ow j y1 (by simpa using e1)) (fun ⟨b,ws,q1,q2,q3,q4,q5⟩=>by rw [q4] at q2;cases q2)
 ·cases j with
  | zero=>cases ej;exact ⟨dx,[],rfl,by rw [hH];exact aC,hs,ha,.nil⟩
  | succ j=>exact absurd (s0.bd j ba D fs' (by simpa using ej)) (fun ⟨b,ws,q1,q2,q3,q4,q5⟩=>by rw [q4] at q2;cases q2)
 ·cases j with
  | zero=>cases k with
   | zero=>rfl
   | succ k=>exact absurd (s0.bd k a2 D gs' (by simpa using e2)) (fun ⟨b,ws,q1,q2,q3,q4,q5⟩=>by rw [q4] at q2;cases q2)
  | succ j=>exact absurd (s0.bd j a1 C' fs' (by simpa using e1)) (fun ⟨b,ws,q1,q2,q3,q4,q5⟩=>by rw [q4] at q2;cases q2)
theorem DA {P:Program} {w:World} {K:PySem.W.Frag} {mg:Str->Option Value} {base:Heap} {k:Nat} {f C:Addr} {name qual:Str} {params:Arguments} {body:List Stmt} {scope:Scope} {dV kV doc pm cdv ct oc:Value} {an od:Option Addr}
  {osl:Array (Option Value)} {N ps:List Str} {g:af->M Out} (lk:K.lookup f=some ⟨oc,od,.func (PySem.W.fnOf name qual params body scope dV kV doc pm an cdv ct),osl⟩) (hcd:PySem.W.codeIn K cdv qual=true) (S:ay N ps scope) (hN:0<N.length)
  (hb:∀ (A:Around) (outer:List Env) (s:Shared) (H:Hp) (E:XK),bV k (A.deeper (envOfC qual scope s.heap.objs.size f cdv))->lZ ((ot (bT P w) P w K mg base N qual scope f cdv A outer s H E).out fun _=>E) body (tS E g)) :
  aN P w K mg base (bT P w) (k+1) f (PySem.W.fnOf name qual params body scope dV kV doc pm an cdv ct) ps (Fi ps.length C (zo N.length g C)):=by
 refine wR lk hcd S (fun vs H Q E h=>h.1) fun A outer s H vs Q E hr hs=>⟨_,hb A outer s H E hr,?_⟩
 obtain ⟨_,a,dx,us,Hs,H1,ps',rfl,ha,hdx,hne,hH,sm,r,h⟩:=hs
 have ne:∀ c u,H1 c=some u->c≠dx:=fun c u e z=>by rw [z,hdx] at e;cases e
 have s0:aW H1 (upd H1 dx (.own a)):=fun c u q=>by rw [ar (ne c u q)];exact q
 have g0:bu Hs H1 Hs (upd H1 dx (.own a)):=⟨fun _ _ e=>e,s0,fun c u q=>s0 c u (sm c u q),fun _ _ e _=>e⟩
 refine ⟨Hs,_,Hs,_,SR.GX (dx:=dx) g0.sub hN (by rw [ar (Ne.symm hne)];exact ha) r hH,(av.bind h).imp (fun o ho=>?_) fun e he=>he.grow g0⟩
 cases o with
 | rt p=>exact ho.elim
 | bk env=>exact ho.elim
 | ct env=>exact ho.elim
 | nx env =>
  intro σ Hs' H' sr
  have ho':av (BO a C env) _ _:=ho
  unfold BO at ho'
  split at ho'
  ·rename_i b D fs ex
   obtain ⟨⟨rfl,rfl⟩,hp⟩:=av.cC ho'
   obtain ⟨dx',ws,h1,h2,h3,h4,h5⟩:=sr.bd 0 _ _ fs ex
   exact hp dx' ws Hs' H' (g0.trans sr.gr) h2 h3 h5
  ·exact ho'.elim
noncomputable def jP (C:Addr) (sem:Addr->List PV->M (List (Str×PV))) (dps:List PV) (ps:List PV):M PV:=(Gj fun a=>sem a (ps++dps)).bind fun fs=>M.ok (.obj C fs)
section
variable {X:Cx} {E:St->XK} {k n:Nat} {f C:Addr} {fd:FuncData} {ns:List Str} {sem:Addr->List PV->M (List (Str×PV))} {x:Str} {p pos:Pos} {e:Expr} {es:List Expr} {fs:af->M (List PV)}
theorem D4 {ds:List Value} {dvs:List V} {dps:List PV} (Mk:Mk X.K C f) (F:aN X.prog X.w X.K X.mg X.base (bT X.prog X.w) k f fd ns (Fi n C sem)) (hr:bV (k+1) X.A) (hg:Gl X x) (hm:X.mg x=some (.ref C)) (hb:Binds X.K fd ns ds) (hd:Vals dvs ds) (hdp:∀ H,aG H dps dvs) (O:eU X E)
  (hl:∀ a ps,sem a (ps++dps)≠none->ps.length+dps.length+1=n)
  (ha:PA X (e::es) (tL E fs)) (hdb:(x==("__debug__" : Str))=false:=by decide) (he:starEach (e::es) X.env=(false,eval e X.env)::starEach es X.env:=by rfl) (hpl:(backTo pos (starEach es X.env)).any (·.1)=false:=by rfl) :
  PE X (.Call (.Name x p) (e::es) [] pos) (tE E (ai (jP C sem dps) fs)):=by
 refine (AV Mk F hr hg hm hb hd O ha hdb he hpl).imp fun σ H Q q=>cY (K:=kv Q) kv.g q fun B H₀ Hs H1 env ps' v sr rp hp=>?_
 intro a dx ha hdx hne
 have r2:aG Hs (ps'++dps) (v++dvs):=rp.append (hdp Hs)
 have hp':=(av.bind hp).Gj a
 have hn:sem a (ps'++dps)≠none:=fun z=>by
  rw [z] at hp';exact hp'
 refine ⟨?_,a,dx,v++dvs,Hs,H1,ps'++dps,rfl,ha,hdx,hne,rfl,sr.gr.sub,r2,hp'.imp (fun fl hfl dx' ws Hs' H' g hw hsw rw'=>⟨rfl,?_⟩) fun e he=>he⟩
 ·show (v++dvs).length+1=n
  rw [← r2.length,List.length_append]
  exact hl a ps' hn
 ·have ne:∀ c u,Hs' c=some u->c≠a:=fun c u q z=>by rw [z,hsw] at q;cases q
  have hst:aW Hs' (upd Hs' a (.ins C dx' ws)):=fun c u q=>by rw [ar (ne c u q)];exact q
  refine hfl (.ref a) (upd Hs' a (.ins C dx' ws)) H' ⟨fun c u q=>hst c u (g.st c u q),g.al,fun c u q=>?_,fun c u q1 q2=>?_⟩ (.obj aC (rw'.mono hst))
  ·by_cases z:c=a
   ·subst z;rw [aC] at q;cases q;exact hw
   ·rw [ar z] at q;exact g.sub c u q
  ·have z:c≠a:=fun z=>by rw [z,ha] at q2;cases q2
   rw [ar z];exact g.nw c u q1 q2
end
end L2
namespace L2
open PySem PySem.Spec PyProof.Rows
section
variable {X:Cx} {E:St->XK} {a b c e:Expr} {pos:Pos} {f g h:af->M PV}
theorem nW {n m:Nat} (h:n.log2<m):n<2^m:=by
 by_cases z:n=0
 ·subst z;exact Nat.two_pow_pos m
 ·exact (Nat.log2_lt z).mp h
theorem aG.rep {H:Hp} {xs:List PV} {vs:List V} (r:aG H xs vs):∀ k:Nat,aG H (List.replicate k xs).flatten (List.replicate k vs).flatten
 | 0=>.nil
 | k+1=>by rw [List.replicate_succ,List.replicate_succ,List.flatten_cons,List.flatten_cons];exact r.append (r.rep k)
def cD:PV->PV->M PV
 | .int i,.int j=>cC (i.natAbs.log2<67108864/\j.natAbs.log2<67108864) (M.ok (.int (i*j)))
 | .tup xs,.int k=>cC (xs.isEmpty=false/\-(2^63)<=k/\k<2^63/\xs.length*k.toNat<=sizeLine) (M.ok (.tup (List.replicate k.toNat xs).flatten))
 | .lst xs,.int k=>cC (-(2^63)<=k/\k<2^63/\xs.length*k.toNat<=sizeLine) (M.ok (.lst (List.replicate k.toNat xs).flatten))
 | _,_=>none
def Fh (K:PySem.W.Frag):R2:=fun x y H Q=>(rI (fun i j=>IntMulOk i j) fun i j=>.int (i*j)) x y H Q\/Fz K x y H Q\/JS x y H Q
theorem Ew:gf X (binaryOp .Mult) (Fh X.K):=gf.or EJ (gf.or Dv Cy)
theorem GU {K:PySem.W.Frag}:my E (Fh K) cD:=by
 intro σ Hs H p q v u Q s rp rq h
 cases rp with
 | int i=>cases rq with
  | int j =>
   obtain ⟨hz,h⟩:=av.cC h
   exact .inl ⟨i,j,rfl,rfl,Aq (nW hz.1) (nW hz.2) (Nat.le_refl _),er.flat h s (.int _)⟩
  | _=>exact h.elim
 | @tup a xs vs ha hx=>cases rq with
  | int k =>
   obtain ⟨⟨h0,h1,h2,h3⟩,h⟩:=av.cC h
   have n1:vs≠[]:=fun z=>by
    have:=hx.length
    rw [z] at this
    cases xs with
    | nil=>cases h0
    | cons _ _=>cases this
   refine .inr (.inl ⟨a,k,vs,rfl,rfl,gT.of (s _ _ ha),n1,h1,h2,by rw [← hx.length];exact h3,fun z=>?_,fun z=>er.tup h s (hx.rep _)⟩)
   subst z
   rw [show (1:Int).toNat=1 from rfl,List.replicate_succ,List.replicate_zero,List.flatten_cons,List.flatten_nil,List.append_nil] at h
   exact er.flat h s (.tup ha hx)
  | _=>exact h.elim
 | @lst a xs vs ha hx=>cases rq with
  | int k =>
   obtain ⟨⟨h1,h2,h3⟩,h⟩:=av.cC h
   exact .inr (.inr ⟨a,k,vs,rfl,rfl,s _ _ ha,h1,h2,by rw [← hx.length];exact h3,er.lst h s (hx.rep _)⟩)
  | _=>exact h.elim
 | _=>exact h.elim
theorem D8:my E (rI Cm fun i j=>.int (i.fdiv j)) (xu (fun _ j=>decide (j≠0/\j.natAbs.log2<9000)) fun i j=>i.fdiv j):=xA fun i j z=>(of_decide_eq_true z:j≠0/\j.natAbs.log2<9000)
theorem F9:my E (rI (fun _ j=>j≠0) fun i j=>.int (i.fmod j)) (xu (fun _ j=>decide (j≠0)) fun i j=>i.fmod j):=xA fun i j z=>of_decide_eq_true z
theorem Gn:my E (rI HM fun i j=>.int (i^j.toNat)) (xu (fun i j=>decide (0<=j/\j<=1000000/\i.natAbs<2^64)) fun i j=>i^j.toNat):=xA fun i j z=>(of_decide_eq_true z:0<=j/\j<=1000000/\i.natAbs<2^64)
def JN:PV->M PV
 | .int i=>M.ok (.int (-i))
 | _=>none
def k8 (f:af->M PV):af->M PV:=fun env=>(f env).bind JN
theorem Hq (ha:PE X a (tE E f)):PE X (.UnaryOp .USub a pos) (tE E (k8 f)) :=
 (IF Il ha).imp fun σ H Q q=>JY q fun Hs H1 p v s rp h=>by
  cases rp with
  | int i=>exact ⟨i,rfl,er.flat h s (.int _)⟩
  | _=>exact h.elim
def u5:PV->Bool
 | .cS=>true
 | _=>false
theorem CW {H:Hp} {p:PV} {v:V} (r:Rep H p v):decide (v=.cS)=u5 p:=by
 cases r <;> rfl
def xh:PV->PV->M PV
 | p,.cS=>M.ok (.bl (u5 p))
 | _,_=>none
theorem CJ:my E (fun x y H Q=>y=.cS/\Q (.bl (decide (x=.cS))) H) xh:=by
 intro σ Hs H p q v u Q s rp rq h
 cases rq with
 | cS =>
  have h':av (M.ok (PV.bl (u5 p))) (er Hs H Q) (XW (E σ) Hs H):=by cases p <;> exact h
  exact ⟨rfl,by rw [CW rp];exact er.flat h' s (.bl _)⟩
 | _=>cases p <;> exact h.elim
def jo (o o':PV->PV->M PV) (f g h:af->M PV):af->M PV:=fun env=>(f env).bind fun p=>(g env).bind fun q=>(o p q).bind fun z=>(xy z).bind fun k=>if k=true then (h env).bind fun r=>o' q r else M.ok (.bl false)
theorem vW {r r':R2} {o o':PV->PV->M PV} (hv:my E r o) (hv':my E r' o') {σ:St} {H:Hp} {Q:VK} (q:tE E (jo o o' f g h) σ H Q):xn r r' (tE E f) (tE E g) (tE E h) σ H Q:=by
 refine bL (K:=kv Q) kv.g q fun B H₀ Hs H1 env p v sr rp hp=>?_
 refine ⟨B,H₀,Hs,env,sr,(av.bind hp).imp (fun q hq u Hs2 H2 g2 ru=>?_) fun e he=>he⟩
 have sr2:=sr.grow g2
 refine hv σ Hs2 H2 p q v u _ sr2.gr.sub (rp.mono g2.st) ru ((av.bind hq).imp (fun z hz w Hs3 H3 g3 rw'=>?_) fun e he=>he.grow g2)
 obtain ⟨k,ek,hk⟩:=av.Kf (av.bind hz)
 subst ek
 cases rw'
 refine ⟨k,rfl,?_⟩
 have sr3:=sr2.grow g3
 cases k with
 | false=>exact hk _ _ _ (g2.trans g3) (.bl _)
 | true =>
  have hk':av ((h env).bind fun r=>o' q r) (kv Q Hs H1) (XW (E σ) Hs H1):=hk
  refine ⟨B,H₀,Hs3,env,sr3,(av.bind hk').imp (fun r hr w Hs4 H4 g4 rw4=>?_) fun e he=>he.grow (g2.trans g3)⟩
  exact hv' σ Hs4 H4 q r u w Q (sr3.grow g4).gr.sub ((ru.mono g3.st).mono g4.st) rw4 (hr.imp (fun z hz w' Hs5 H5 g5 r5=>hz w' Hs5 H5 ((g2.trans g3).trans (g4.trans g5)) r5) fun e he=>he.grow ((g2.trans g3).trans g4))
theorem vb {op op':CmpOp} {r r':R2} {o o':PV->PV->M PV} (ho:gf X (compareOp op) r) (hv:my E r o) (ho':gf X (compareOp op') r') (hv':my E r' o') (ha:PE X a (tE E f)) (hb:PE X b (tE E g)) (hc:PE X c (tE E h))
  (hm:lastMarks [op,op'] [b,c]=false:=by with_unfolding_all rfl):PE X (.Compare a [op,op'] [b,c] pos) (tE E (jo o o' f g h)) :=
 (Cb ho ho' ha hb hc hm).imp fun σ H Q q=>vW hv hv' q
theorem CN {op op':CmpOp} {r r':R2} {o o':PV->PV->M PV} (ho:gf X (compareOp op) r) (hv:my E r o) (ho':gf X (compareOp op') r') (hv':my E r' o') (ha:PE X a (tE E f)) (hb:PE X b (tE E g)) (hc:PE X c (tE E h))
  (hm:lastMarks [op,op'] [b,c]=false:=by with_unfolding_all rfl):PT X (.Compare a [op,op'] [b,c] pos) (tT E (du (jo o o' f g h))) :=
 (Cv ho ho' ha hb hc hm).imp fun σ H Q q=>vW hv hv' (pU q)
def cx (u:af->M Bool) (b:af->M Out):Nat->af->M Out
 | 0,_=>none
 | n+1,env=>(u env).bind fun t=>if t=true then (b env).bind fun o=>match o with
   | .nx env'=>cx u b n env'
   | .ct env'=>cx u b n env'
   | .bk env'=>M.ok (.nx env')
   | .rt p=>M.ok (.rt p)
  else M.ok (.nx env)
theorem zi {E:XK} {u:af->M Bool} {g:af->M Out} {body:List Stmt} (n:af->Nat) (O:eU X fun _=>E) (hc:PT X c (tT (fun _=>E) u)) (hb:lZ X body (tS E g)):PS X (.While c body [] pos) (tS E fun env=>cx u g (n env) env):=by
 refine (Df O.own hc hb).imp fun D σ H q=>?_
 obtain ⟨B,H₀,Hs,env,sr,q⟩:=q
 refine ⟨fun m σ H=>∃ Hs env,SR B H₀ Hs H σ env/\av (cx u g m env) (KS D B H₀) (XW E B H₀),⟨n env,Hs,env,sr,q⟩,?_⟩
 rintro m σ1 H1 ⟨Hs1,env1,sr1,q1⟩
 cases m with
 | zero=>exact q1.elim
 | succ m =>
  refine ⟨B,H₀,Hs1,env1,sr1,(av.bind q1).imp (fun t ht Hs2 H2 g2=>?_) fun e he=>he.grow sr1.gr⟩
  have sr2:=sr1.grow g2
  cases t with
  | false=>exact ht σ1 Hs2 H2 sr2
  | true =>
   refine ⟨fun σ' H'=>∃ Hs' env',SR B H₀ Hs' H' σ' env'/\av (cx u g m env') (KS D B H₀) (XW E B H₀),fun σ' H' z=>⟨m,Nat.lt_succ_self m,z⟩,B,H₀,Hs2,env1,sr2,(av.bind ht).imp (fun o ho=>?_) fun e he=>he⟩
   cases o with
   | nx env'=>exact fun σ' Hs' H' sr'=>⟨Hs',env',sr',ho⟩
   | ct env'=>exact fun σ' Hs' H' sr'=>⟨Hs',env',sr',ho⟩
   | bk env'=>exact ho
   | rt p=>exact ho
theorem ji {u:af->M Bool} {g:af->M Out}:∀ (n k:Nat) (env:af),cx u g n env≠none->cx u g (n+k) env=cx u g n env
 | 0,_,_,h=>(h rfl).elim
 | n+1,k,env,h=>by
  rw [show n+1+k=(n+k)+1 by omega]
  unfold cx at h ⊢
  cases hu:u env with
  | none=>rfl
  | some z =>
   cases z with
   | error e=>rfl
   | ok t =>
    rw [hu] at h
    cases t with
    | false=>rfl
    | true =>
     show M.bind (g env) _=M.bind (g env) _
     have h':M.bind (g env) (fun o=>match o with
      | .nx env'=>cx u g n env'
      | .ct env'=>cx u g n env'
      | .bk env'=>M.ok (.nx env')
      | .rt p=>M.ok (.rt p))≠none:=h
     cases hg:g env with
     | none=>rfl
     | some z =>
      cases z with
      | error e=>rfl
      | ok o =>
       rw [hg] at h'
       cases o with
       | nx env'=>exact ji n k env' h'
       | ct env'=>exact ji n k env' h'
       | bk env'=>rfl
       | rt p=>rfl
noncomputable def l4 (u:af->M Bool) (b:af->M Out) (env:af):M Out:=open Classical in cx u b (if h:∃ n,cx u b n env≠none then h.choose else 0) env
theorem zc {u:af->M Bool} {b:af->M Out} {n:Nat} {env:af} (h:cx u b n env≠none):l4 u b env=cx u b n env:=by
 have hx:∃ n,cx u b n env≠none:=⟨n,h⟩
 unfold l4
 rw [dif_pos hx]
 have h1:=hx.choose_spec
 rw [← ji _ n env h1,← ji n hx.choose env h,Nat.add_comm]
theorem v5 {E:XK} {u:af->M Bool} {g:af->M Out} {body:List Stmt} (O:eU X fun _=>E) (hc:PT X c (tT (fun _=>E) u)) (hb:lZ X body (tS E g)):PS X (.While c body [] pos) (tS E (l4 u g)) :=
 zi (fun env=>open Classical in if h:∃ n,cx u g n env≠none then h.choose else 0) O hc hb
end
end L2
namespace L2
open PySem PySem.Spec PyProof.Rows
def JG:PV->Option String
 | .cS=>some "NoneType"
 | .bl _=>some "bool"
 | .int _=>some "int"
 | .str _=>some "str"
 | .lst _=>some "list"
 | .jI _=>some "list"
 | .tup _=>some "tuple"
 | .emp=>some "dict"
 | _=>none
def lR (a t:String):Bool:=a==t||(a == "bool" && t == "int")
theorem oR (K:PySem.W.Frag):PySem.W.kitOne K (.type "NoneType") (.type "int")=some false:=by with_unfolding_all kernel_rfl
theorem vN (K:PySem.W.Frag):PySem.W.kitOne K (.type "bool") (.type "int")=some true:=by with_unfolding_all kernel_rfl
def tys:List String:=["int", "bool", "str", "list", "tuple"]
theorem Ji (K:PySem.W.Frag) {p:PV} {a t:String} (ha:JG p=some a) (ht:t∈tys):PySem.W.kitOne K (.type a) (.type t)=some (lR a t):=by
 have ht2:t = "int" \/ t = "bool" \/ t = "str" \/ t = "list" \/ t = "tuple" := by simpa [tys] using ht
 cases p <;> cases ha <;> rcases ht2 with rfl | rfl | rfl | rfl | rfl <;> first
  | exact oR K
  | exact kt_NoneType_bool K
  | exact kt_NoneType_str K
  | exact kt_NoneType_list K
  | exact kt_NoneType_tuple K
  | exact vN K
  | exact kt_bool_bool K
  | exact kt_bool_str K
  | exact kt_bool_list K
  | exact kt_bool_tuple K
  | exact kt_int_int K
  | exact kt_int_bool K
  | exact kt_int_str K
  | exact kt_int_list K
  | exact kt_int_tuple K
  | exact kt_str_int K
  | exact kt_str_bool K
  | exact kt_str_str K
  | exact kt_str_list K
  | exact kt_str_tuple K
  | exact kt_list_int K
  | exact kt_list_bool K
  | exact kt_list_str K
  | exact kt_list_list K
  | exact kt_list_tuple K
  | exact kt_tuple_int K
  | exact kt_tuple_bool K
  | exact kt_tuple_str K
  | exact kt_tuple_list K
  | exact kt_tuple_tuple K
  | exact kt_dict_int K
  | exact kt_dict_bool K
  | exact kt_dict_str K
  | exact kt_dict_list K
  | exact kt_dict_tuple K
theorem AO {K:PySem.W.Frag} {Hs H:Hp} {p:PV} {v:V} {a:String} (s:aW Hs H) (r:Rep Hs p v) (ha:JG p=some a):jK K H v (.type a):=by
 cases r with
 | cS=>cases ha;exact .cS
 | bl b=>cases ha;exact .bl b
 | int i=>cases ha;exact .int i
 | str x=>cases ha;exact .str x
 | tup h _=>cases ha;exact .tup (s _ _ h)
 | lst h _=>cases ha;exact .lst (s _ _ h)
 | jI h _=>cases ha;exact .rK (s _ _ h)
 | emp h=>cases ha;exact .dK (s _ _ h)
 | _=>cases ha
theorem yH (K:PySem.W.Frag) {p:PV} {a:String} (ha:JG p=some a):∀ {Ts:List String},(∀ t∈Ts,t∈tys)->PySem.W.kitAny K (.type a) (Ts.map Value.type)=some (Ts.any fun t=>lR a t)
 | [],_=>rfl
 | t::r,h=>by
  have h1:=Ji K ha (h t List.mem_cons_self)
  have h2:=yH K ha (Ts:=r) fun t q=>h t (List.mem_cons_of_mem _ q)
  simp only [List.map_cons,PySem.W.kitAny,h1,List.any_cons]
  cases lR a t with
  | true=>rfl
  | false=>exact h2
structure Gy (K:PySem.W.Frag) (C:Addr):Prop where
 cls:nK K C
 ha:PySem.W.findIn K (.ref C) "__class__" = some (some (.builtin "object.__class__"))
 hn:PySem.W.specialIn K (.builtin "object.__class__") "__get__" = some (some (.builtin "getset_descriptor.__get__"))
 Iz:PySem.W.takesIn K (.builtin "object.__class__")=some true
 hm:PySem.W.mroIn K C (.type "object")=some true
def Al (b:String->Bool) (ob oe:Addr->Option Bool):PV->M PV
 | .obj C _=>eS ((ob C).map .bl)
 | .exc C _=>eS ((oe C).map .bl)
 | p=>eS ((JG p).map fun a=>.bl (b a))
section
variable {X:Cx} {E:St->XK} {e:Expr} {pos p px pt:Pos} {f:af->M PV} {T:String} {x:Str} {C:Addr} {ob oe:Addr->Option Bool}
theorem GB {H:Hp} {C:Addr} {fo:Option (List (Str×PV))} {Hs:Hp} {v:V} (s:aW Hs H) (r:Rep Hs (.exc C fo) v):∃ a fo',v=.ref a/\ExcAt H a C fo':=by
 cases r with
 | @wU a _ h=>exact ⟨a,none,rfl,s _ _ h⟩
 | @v7 a _ d _ vs h h2 _=>exact ⟨a,some vs,rfl,d,s _ _ h,s _ _ h2⟩
def zI (b:String->Bool) (ob oe:Addr->Option Bool) (f:af->M PV):af->M PV:=fun env=>(f env).bind (Al b ob oe)
theorem uO {b:String->Bool} {p:PV} {Q:PV->Prop} {F:EX->Prop} (h:av (Al b ob oe p) Q F):(∃ a,JG p=some a/\Q (.bl (b a)))\/(∃ C fs k,p=.obj C fs/\ob C=some k/\Q (.bl k))\/∃ C fo k,p=.exc C fo/\oe C=some k/\Q (.bl k):=by
 cases p with
 | obj C fs =>
  obtain ⟨z,e,q⟩:=av.opt h
  obtain ⟨k,e2,rfl⟩:=Option.map_eq_some_iff.mp e
  exact .inr (.inl ⟨C,fs,k,rfl,e2,q⟩)
 | exc C fo =>
  obtain ⟨z,e,q⟩:=av.opt h
  obtain ⟨k,e2,rfl⟩:=Option.map_eq_some_iff.mp e
  exact .inr (.inr ⟨C,fo,k,rfl,e2,q⟩)
 | cS=>exact .inl ⟨_,rfl,h⟩
 | bl _=>exact .inl ⟨_,rfl,h⟩
 | int _=>exact .inl ⟨_,rfl,h⟩
 | str _=>exact .inl ⟨_,rfl,h⟩
 | tup _=>exact .inl ⟨_,rfl,h⟩
 | lst _=>exact .inl ⟨_,rfl,h⟩
 | jI _=>exact .inl ⟨_,rfl,h⟩
 | emp=>exact .inl ⟨_,rfl,h⟩
theorem Cu {K:PySem.W.Frag} {Hs H:Hp} {C:Addr} {fs:List (Str×PV)} {v:V} (s:aW Hs H) (r:Rep Hs (.obj C fs) v) (c:Gy K C):jK K H v (.ref C):=by
 cases r with
 | obj h _=>exact .ins (s _ _ h) c.cls c.ha c.hn c.Iz c.hm
theorem kB (hg:Gl X "isinstance") (hm:X.mg "isinstance" = none) (hT:PE X (.Name x pt) (tC (.ty T))) (ht:T∈tys) (hob:∀ C b,ob C=some b->Gy X.K C/\PySem.W.kitOne X.K (.ref C) (.type T)=some b) (hoe:∀ C b,oe C=some b->gG X.K C/\PySem.W.kitOne X.K (.ref C) (.type T)=some b) (he:PE X e (tE E f))
  (h1:starEach [e,.Name x pt] X.env=(false,eval e X.env)::starEach [.Name x pt] X.env:=by rfl) (h2:starEach [.Name x pt] X.env=(false,eval (.Name x pt) X.env)::starEach [] X.env:=by rfl) (hpl:(backTo pos (starEach [.Name x pt] X.env)).any (·.1)=false:=by rfl) :
  PE X (.Call (.Name "isinstance" p) [e,.Name x pt] [] pos) (tE E (zI (fun a=>lR a T) ob oe f)):=by
 refine (qa (dH.or Bh CH) hg hm C0 (ig he (ig hT qr h2) h1) (by decide) (by decide) h1 hpl).imp fun σ H Q q=>bL (K:=kv Q) kv.g q fun B H₀ Hs H1 env p v sr rp hp=>?_
 rcases uO hp with ⟨a,ha,q⟩ | ⟨C,fs,k,rfl,e,q⟩ | ⟨C,fo,k,rfl,e,q⟩
 ·exact .inl ⟨v,T,_,_,rfl,AO sr.gr.sub rp ha,Ji X.K ha ht,er.flat q sr.gr.sub (.bl _)⟩
 ·exact .inl ⟨v,T,_,_,rfl,Cu sr.gr.sub rp (hob C k e).1,(hob C k e).2,er.flat q sr.gr.sub (.bl _)⟩
 ·obtain ⟨a,fo',rfl,hx⟩:=GB sr.gr.sub rp
  exact .inr ⟨a,C,fo',k,(hoe C k e).1,hx,.inl ⟨T,rfl,(hoe C k e).2⟩,er.flat q sr.gr.sub (.bl _)⟩
theorem Et {e2:Expr} {t2:TE} {Ts:List String} (hg:Gl X "isinstance") (hm:X.mg "isinstance" = none) (hT:PE X e2 t2) (ht2:∀ σ H R,(∀ p,H p=none->R (.ref p) (upd H p (.tup (Ts.map V.ty))))->t2 σ H R) (ht:∀ t∈Ts,t∈tys) (hob:∀ C b,ob C=some b->Gy X.K C/\PySem.W.kitAny X.K (.ref C) (Ts.map Value.type)=some b) (he:PE X e (tE E f))
  (h1:starEach [e,e2] X.env=(false,eval e X.env)::starEach [e2] X.env:=by rfl) (h2:starEach [e2] X.env=(false,eval e2 X.env)::starEach [] X.env:=by rfl) (hpl:(backTo pos (starEach [e2] X.env)).any (·.1)=false:=by rfl) :
  PE X (.Call (.Name "isinstance" p) [e,e2] [] pos) (tE E (zI (fun a=>Ts.any fun t=>lR a t) ob (fun _=>none) f)):=by
 refine (qa z7 hg hm C0 (ig he (ig hT qr h2) h1) (by decide) (by decide) h1 hpl).imp fun σ H Q q=>bL (K:=kv Q) kv.g q fun B H₀ Hs H1 env p v sr rp hp=>?_
 refine ht2 σ H1 _ fun tp hn=>?_
 have g:=bu.new (o:=.tup (Ts.map V.ty)) sr.gr.sub hn
 rcases uO hp with ⟨a,ha,q⟩ | ⟨C,fs,k,rfl,e,q⟩ | ⟨C,fo,k,rfl,e,q⟩
 ·exact ⟨v,tp,Ts,_,_,rfl,aC,AO g.sub (rp.mono g.st) ha,yH X.K ha ht,q _ _ _ g (.bl _)⟩
 ·exact ⟨v,tp,Ts,_,_,rfl,aC,Cu g.sub (rp.mono g.st) (hob C k e).1,(hob C k e).2,q _ _ _ g (.bl _)⟩
 ·cases e
end
end L2
namespace L2
open PySem PySem.Spec PyProof.Rows
open PySem.SeqAt (shaped noMix noMixAll)
mutual
def dat:PV->Option PyData
 | .cS=>some .none
 | .bl b=>some (.bool b)
 | .int i=>some (.int i)
 | .str x=>some (.str x)
 | .tup xs=>(lM xs).map .tuple
 | .lst xs=>(lM xs).map .list
 | .jI xs=>(lM xs).map .list
 | .obj _ _=>none
 | .exc _ _=>none
 | .emp=>none
def lM:List PV->Option (List PyData)
 | []=>some []
 | p::r=>(dat p).bind fun d=>(lM r).map (d::·)
end
section
variable {X:Cx} {pins:List (Addr×Obj)} {σ:St} {H:Hp} {s:Shared}
mutual
theorem Rep.reads {Hs:Hp} (I:Inv X pins σ H s) (sm:aW Hs H):∀ {p:PV} {v:V} {u:Value} {d:PyData},Rep Hs p v->RelV v u->dat p=some d->∃ as,Reads s.heap u d as
 | _,_,u,d,.cS,r,e=>by
  cases e;cases (show u=Value.none from r);exact ⟨_,.none⟩
 | _,_,u,d,.bl b,r,e=>by
  cases e;cases (show u=Value.bool b from r);exact ⟨_,.bool b⟩
 | _,_,u,d,.int i,r,e=>by
  cases e;obtain ⟨t,rfl⟩:=(show ∃ t,u=Value.int i t from r);exact ⟨_,.int i t⟩
 | _,_,u,d,.str i,r,e=>by
  cases e;obtain ⟨t,rfl⟩:=(show ∃ t,u=Value.str i t from r);exact ⟨_,.str i t⟩
 | _,_,u,d,.tup (a:=a) ha hx,r,e=>by
  obtain ⟨ds,e2,rfl⟩:=Option.map_eq_some_iff.mp (show (lM _).map PyData.tuple=some d from e)
  cases (show u=Value.ref a from r)
  obtain ⟨its,r1,⟨o,ho,hc,n,hd⟩,_⟩:=I.tuple (gT.of (sm _ _ ha))
  obtain ⟨as,ra⟩:=aG.reads I sm hx r1 e2
  exact ⟨_,.tuple ho hc hd (by simpa using ra)⟩
 | _,_,u,d,.lst (a:=a) ha hx,r,e=>by
  obtain ⟨ds,e2,rfl⟩:=Option.map_eq_some_iff.mp (show (lM _).map PyData.list=some d from e)
  cases (show u=Value.ref a from r)
  obtain ⟨its,r1,⟨o,n,ho,hc,_,hd⟩,_⟩:=I.list (i4.of (sm _ _ ha))
  obtain ⟨as,ra⟩:=aG.reads I sm hx r1 e2
  exact ⟨_,.list ho hc hd (by simpa using ra)⟩
 | _,_,u,d,.jI (a:=a) (o:=ob) ha hx,r,e=>by
  obtain ⟨ds,e2,rfl⟩:=Option.map_eq_some_iff.mp (show (lM _).map PyData.list=some d from e)
  cases (show u=Value.ref a from r)
  obtain ⟨its,r1,⟨o,n,ho,hc,_,hd⟩,_⟩:=I.list (.inl (.inr ⟨ob,sm _ _ ha⟩))
  obtain ⟨as,ra⟩:=aG.reads I sm hx r1 e2
  exact ⟨_,.list ho hc hd (by simpa using ra)⟩
 | _,_,u,d,.obj _ _,r,e=>by cases e
 | _,_,u,d,.wU _,r,e=>by cases e
 | _,_,u,d,.v7 _ _ _,r,e=>by cases e
 | _,_,u,d,.emp _,r,e=>by cases e
theorem aG.reads {Hs:Hp} (I:Inv X pins σ H s) (sm:aW Hs H):∀ {p:List PV} {v:List V} {u:List Value} {d:List PyData},aG Hs p v->Vals v u->lM p=some d->∃ as,ReadsAll s.heap u d as
 | _,_,_,_,.nil,.nil,e=>by cases e;exact ⟨_,.nil⟩
 | _,_,_,d,.cons (p:=p) (ps:=ps) h hr,.cons r rr,e=>by
  obtain ⟨d1,e1,e2⟩:=Option.bind_eq_some_iff.mp (show (dat p).bind (fun d=>(lM ps).map (d::·))=some d from e)
  obtain ⟨ds,e3,rfl⟩:=Option.map_eq_some_iff.mp e2
  obtain ⟨as,ra⟩:=Rep.reads I sm h r e1
  obtain ⟨bs,rb⟩:=aG.reads I sm hr rr e3
  exact ⟨_,.cons ra rb⟩
end
end
def Dm (d e:PyData):M Bool:=cC (shaped d=true/\shaped e=true/\noMix d e=true) (M.ok (same d e))
def mT (o:Bool->PV) (p q:PV):M PV:=match dat p,dat q with
 | some d,some e=>(Dm d e).bind fun b=>M.ok (o b)
 | _,_=>none
def sM:PV->PV->M PV:=mT fun b=>.bl b
def l7:PV->PV->M PV:=mT fun b=>.bl (!b)
def CG (o:Bool->Bool):R2:=fun x y H Q=>∃ Hs p q d e,aW Hs H/\Rep Hs p x/\Rep Hs q y/\dat p=some d/\dat q=some e/\shaped d=true/\shaped e=true/\noMix d e=true/\Q (.bl (o (same d e))) H
section
variable {X:Cx} {E:St->XK}
theorem AE (hu:X.A.units+64<cLine):gf X (compareOp .Eq) (CG id):=by
 intro pins s σ H x y v u Q I rx ry h
 obtain ⟨Hs,p,q,d,e,sm,rp,rq,hd,he,h1,h2,h3,hq⟩:=h
 obtain ⟨as,ra⟩:=Rep.reads I sm rp rx hd
 obtain ⟨bs,rb⟩:=Rep.reads I sm rq ry he
 exact eq_dataH_same ra rb h1 h2 hu h3 (w9 I hq rfl)
theorem BP (hu:X.A.units+64<cLine):gf X (compareOp .NotEq) (CG not):=by
 intro pins s σ H x y v u Q I rx ry h
 obtain ⟨Hs,p,q,d,e,sm,rp,rq,hd,he,h1,h2,h3,hq⟩:=h
 obtain ⟨as,ra⟩:=Rep.reads I sm rp rx hd
 obtain ⟨bs,rb⟩:=Rep.reads I sm rq ry he
 exact ne_dataH_same ra rb h1 h2 hu h3 (w9 I hq rfl)
theorem BQ {o:Bool->Bool}:my E (CG o) (mT fun b=>.bl (o b)):=by
 intro σ Hs H p q v u Q s rp rq h
 unfold mT at h
 split at h
 ·rename_i d e hd he
  have h':=av.bind h
  obtain ⟨⟨h1,h2,h3⟩,h⟩:=av.cC h'
  exact ⟨Hs,p,q,d,e,s,rp,rq,hd,he,h1,h2,h3,er.flat h s (.bl _)⟩
 ·exact h.elim
theorem Fn:my E (CG id) sM:=BQ
theorem E7:my E (CG not) l7:=BQ
end
def rm (xs:List PV) (lo hi:Option Int):List PV:=(xs.drop (HT.c_ xs.length 0 lo)).take (HT.c_ xs.length xs.length hi-HT.c_ xs.length 0 lo)
theorem aG.cut {H:Hp} {xs:List PV} {vs:List V} (r:aG H xs vs) (lo hi:Option Int):aG H (rm xs lo hi) (uS vs lo hi):=by
 unfold rm uS
 rw [r.length]
 exact (r.drop _).take _
abbrev Jm (Q:Option Int->Hp->Prop):Hp->Hp->Option Int->Prop:=fun Hs H k=>∀ Hs' H',bu Hs H Hs' H'->Q k H'
def Ma (E:St->XK) (g:af->M (Option Int)):TO:=fun σ H Q=>tG E g (Jm Q) σ H
theorem PO.imp {X:Cx} {e:Option Expr} {t t':TO} (h:PO X e t) (i:∀ σ H Q,t' σ H Q->t σ H Q):PO X e t':=fun pins s σ H Q I q=>h pins s σ H Q I (i σ H Q q)
def JO:PV->M (Option Int)
 | .int i=>M.ok (some i)
 | _=>none
def ug (f:af->M PV):af->M (Option Int):=fun env=>(f env).bind JO
section
variable {X:Cx} {E:St->XK} {e:Expr} {lo hi:Option Expr} {pos p2:Pos} {f:af->M PV} {gl gh:af->M (Option Int)}
theorem Jm.g {Q:Option Int->Hp->Prop}:KG (Jm Q):=fun Hs H Hs' H' b k g Hs2 H2 g2=>k Hs2 H2 (g.trans g2)
theorem yt (he:PE X e (tE E f)):PO X (some e) (Ma E (ug f)):=(DY he).imp fun σ H Q q=>bL (K:=Jm Q) Jm.g q fun B H₀ Hs H1 env p v sr rp hp=>by
 cases rp with
 | int i=>exact ⟨i,rfl,hp Hs H1 (.refl sr.gr.sub)⟩
 | _=>exact hp.elim
end
def hU (xs:List PV):List PV:=xs.mapIdx fun i x=>.tup [.int (i:Nat),x]
section
variable {E:St->XK} {K:PySem.W.Frag} {fs:af->M (List PV)}
theorem sy {a:Addr} {Hs1:Hp} {xs:List PV} {vs:List V} (hq:∀ Hs' H',aW Hs1 Hs'->aW Hs' H'->i4 K H' a vs) (hr:aG Hs1 xs vs):kC (HS K a) Hs1 (hU xs) where
 stop:=fun i Hs H s1 s2 hi=>by
  unfold hU at hi
  rw [List.length_mapIdx,hr.length] at hi
  exact ⟨vs,hq Hs H s1 s2,hi⟩
 go:=fun i Hs H s1 s2 hi=>by
  unfold hU at hi
  rw [List.length_mapIdx] at hi
  obtain ⟨v,e,_⟩:=hr.get (List.getElem?_eq_getElem hi)
  exact ⟨vs,v,hq Hs H s1 s2,e⟩
 wy:=fun i Hs H x H2 s1 s2 hi y=>by
  unfold hU at hi
  rw [List.length_mapIdx] at hi
  obtain ⟨v,e,r⟩:=hr.get (List.getElem?_eq_getElem hi)
  obtain ⟨pa,v',hn,rfl,rfl,y1⟩:=y
  have z1:=y1 vs (hq Hs H s1 s2)
  rw [e] at z1;cases z1
  have gr:=bu.new (o:=.tup [.int (i:Nat),v]) s2 hn
  refine ⟨.tup [.int (i:Nat),xs[i]],_,?_,gr,.tup aC (.cons (.int _) (.cons ((r.mono s1).mono gr.st) .nil))⟩
  unfold hU
  rw [List.getElem?_mapIdx,List.getElem?_eq_getElem hi]
  rfl
end
end L2
namespace L2
open PySem PySem.Spec PyProof.Rows
def DP (lo st:Int) (n:Nat):It:=⟨fun i _=>i<n,fun i H x H'=>H'=H/\x=.int (lo+(i:Nat)*st),fun i _=>n<=i⟩
theorem vm {P:Program} {w:World} {K:PySem.W.Frag} {tg:Expr} (it:Addr) (lo st:Int) (n:Nat):Turn P w K tg (DP lo st n) [it] it (fun i h=>IsRangeIter h it (lo+(i:Nat)*st) ((n:Int)-(i:Nat)) st) where
 mem:=by simp
 obj:=fun i h st b hb=>by
  have e:b=it:=by simpa using hb
  subst e
  exact ⟨_,st,fun v z=>by
   have z':Data.fields _=Data.cell v:=z
   cases z'⟩
 keep:=fun i h h' st k=>k it (by simp) _ st
 item:=by
  intro X hP hw hK hc i pins s σ H E I hf st' hg
  subst hP hw hK
  obtain ⟨f0,f1,f2,f3,f4,f5⟩:=hf it (by simp)
  have W:=Walks.range (prog:=X.prog) (w:=X.w) (I.ok.hd hc) it lo st n
  refine W.item i s _ _ hg st' fun v h' tk hv st'' kk=>?_
  obtain ⟨t,rfl⟩:=hv
  have I1:Inv X pins σ H { s with heap:=h',toks:=tk }:=I.turned (fun b o hb e=>kk b o (by simpa using hb) e) f0 f1 f3 f4 f5
  exact ⟨_,rfl,yr (s:={ s with heap:=h',toks:=tk }) (n := "range_iterator") st'' rfl rfl (by decide) ⟨.int (lo+(i:Nat)*st),H,I1,⟨t,rfl⟩,⟨rfl,rfl⟩,st'',fun b hb=>(hf b hb).1⟩⟩
 done:=by
  intro X hP hw hK hc i pins s σ H E I hf st' hg
  subst hP hw hK
  obtain ⟨f0,f1,f2,f3,f4,f5⟩:=hf it (by simp)
  exact wpAny_pyNext_range_end (I.ok.hd hc) st' (by have:n<=i:=hg;omega) fun h' eb=>⟨rfl,I.turned (t':=s.toks) (fun b o hb e=>eb b o hb e) f0 f1 f3 f4 f5⟩
 self:=fun _ _ _ _ _ st h=>wpAny_pyIter_rangeiter st h
theorem uC (a b c:Int):0<=Builtin.Range.rangeSize a b c:=by
 unfold Builtin.Range.rangeSize
 split
 ·split
  ·have:=Int.ediv_nonneg (a:=b-a-1) (b:=c) (by omega) (by omega);omega
  ·omega
 ·split
  ·have:=Int.ediv_nonneg (a:=a-b-1) (b:=-c) (by omega) (by omega);omega
  ·omega
section
variable {X:Cx} {tg:Expr}
theorem zq {pins:List (Addr×Obj)} {σ:St} {H:Hp} {s:Shared} {R:It->Hp->Prop} {E:Value->Shared->Prop} {lo hi st:Int} {t u v:Tok} {tk:Nat} (I:Inv X pins σ H s) (hsm:Builtin.Range.small lo hi st=true)
  (q:R (DP lo st (Builtin.Range.rangeSize lo hi st).toNat) H):wpAny (model X.prog X.w) X.A (pyIter (.ref s.heap.objs.size)) (OW X pins σ tg R) E { s with heap:=s.heap.push { cls:=.type "range", data:=.fields #[.int lo t,.int hi u,.int st v] },toks:=tk }:=by
 refine wpAny_pyIter_range (IsRange.new ..) hsm ?_
 have I1:Inv X pins σ H { s with heap:=s.heap.push { cls:=.type "range", data:=.fields #[.int lo t,.int hi u,.int st v] },toks:=tk }:=I.kept fun b o e=>Heap.get?_push_of_some _ e
 refine ⟨(s.heap.push { cls:=.type "range", data:=.fields #[.int lo t,.int hi u,.int st v] }).objs.size,[(s.heap.push { cls:=.type "range", data:=.fields #[.int lo t,.int hi u,.int st v] }).objs.size],_,_,H,rfl,
  I1.kept (t':=tk) fun b o e=>Heap.get?_push_of_some _ e,vm _ lo st (Builtin.Range.rangeSize lo hi st).toNat,?_,fun b hb=>?_,q⟩
 ·have e1:lo+((0:Nat):Int)*st=lo:=by simp
  have e2:(((Builtin.Range.rangeSize lo hi st).toNat:Nat):Int)-((0:Nat):Int)=Builtin.Range.rangeSize lo hi st:=by have:=uC lo hi st;omega
  show IsRangeIter _ _ (lo+((0:Nat):Int)*st) ((((Builtin.Range.rangeSize lo hi st).toNat:Nat):Int)-((0:Nat):Int)) st
  rw [e1,e2]
  exact Heap.get?_push_size _ rfl
 ·have e:b=(s.heap.push { cls:=.type "range", data:=.fields #[.int lo t,.int hi u,.int st v] }).objs.size:=by simpa using hb
  subst e
  exact I1.tZ (Nat.le_refl _) (I1.a_.fresh (Nat.le_refl _))
def C3 (i j k:Int):Bool:=decide (k≠0)&&decide (k.natAbs<1073741824)&&Builtin.Range.small i j k
def Fm (ta:TA):TI:=fun σ H R=>ta σ H fun vs H1=>∃ i j k:Int,vs=[.int i,.int j,.int k]/\C3 i j k=true/\R (DP i k (Builtin.Range.rangeSize i j k).toNat) H1
theorem rZ {a b c:Expr} {ta:TA} {p pos:Pos} (hg:Gl X "range") (hm:X.mg "range" = none) (ha:PA X [a,b,c] ta) (hs:starEach [a,b,c] X.env=[(false,eval a X.env),(false,eval b X.env),(false,eval c X.env)]:=by rfl) (hs2:starEach [b,c] X.env=[(false,eval b X.env),(false,eval c X.env)]:=by rfl) :
  PI X tg (.Call (.Name "range" p) [a,b,c] [] pos) (Fm ta):=by
 intro pins s σ H R I h
 refine Call_ (i5 I hg hm boot_range (PyProof.Rows.callWith_type1 (bJ (ha pos pins s σ H _ I h) fun us s1 ⟨vs,H1,I1,r1,q1⟩=>?_) (by rw [hs,hs2]) (by rw [hs2];rfl)))
 obtain ⟨i,j,k,e,hc,q⟩:=q1
 subst e
 cases r1 with
 | cons r rr =>
  cases rr with
  | cons r' rr =>
   cases rr with
   | cons r'' rr =>
    cases rr
    obtain ⟨t,rfl⟩:=r
    obtain ⟨t',rfl⟩:=r'
    obtain ⟨t'',rfl⟩:=r''
    unfold C3 at hc
    rw [Bool.and_eq_true,Bool.and_eq_true] at hc
    exact call_range_3 (of_decide_eq_true hc.1.1) (zq I1 hc.2 q) (.inl (PyProof.noPylong_small (of_decide_eq_true hc.1.2)))
end
def zE:List PV->M (List PV)
 | [.int i,.int j,.int k]=>cC (C3 i j k=true) (M.ok ((List.range (Builtin.Range.rangeSize i j k).toNat).map fun (n:Nat)=>.int (i+n*k)))
 | _=>none
section
variable {E:St->XK} {K:PySem.W.Frag} {fs:af->M (List PV)}
theorem zh {lo st:Int} {n:Nat} {Hs1:Hp}:kC (DP lo st n) Hs1 ((List.range n).map fun (i:Nat)=>PV.int (lo+(i:Int)*st)) where
 stop:=fun i Hs H s1 s2 hi=>show n<=i by simpa using hi
 go:=fun i Hs H s1 s2 hi=>show i<n by simpa using hi
 wy:=fun i Hs H x H2 s1 s2 hi y=>by
  obtain ⟨rfl,rfl⟩:=y
  have hi':i<n:=by simpa using hi
  exact ⟨.int (lo+(i:Int)*st),Hs,by simp [hi'],.refl s2,.int _⟩
theorem zR {ps:List PV} {Q:List PV->Prop} {F:EX->Prop} (h:av (zE ps) Q F):∃ i j k,ps=[.int i,.int j,.int k]/\C3 i j k=true/\Q ((List.range (Builtin.Range.rangeSize i j k).toNat).map fun (n:Nat)=>.int (i+n*k)):=by
 unfold zE at h
 split at h
 ·obtain ⟨hc,h⟩:=av.cC h
  exact ⟨_,_,_,rfl,hc,h⟩
 ·exact h.elim
theorem aG.three {H:Hp} {p q r:PV} {vs:List V} (h:aG H [p,q,r] vs):∃ v u w,vs=[v,u,w]/\Rep H p v/\Rep H q u/\Rep H r w:=by
 cases h with
 | cons h r=>obtain ⟨u,w,rfl,h2,h3⟩:=r.two;exact ⟨_,_,_,rfl,h,h2,h3⟩
theorem vK:By E (Fm (tL E fs)) (jM zE fs):=by
 intro σ H R q
 refine cY (K:=KI R) KI.g q fun B H₀ Hs H1 env ps v sr rp hp=>?_
 obtain ⟨i,j,k,rfl,hc,hp⟩:=zR hp
 obtain ⟨w,u,z,rfl,rw',ru,rz⟩:=rp.three
 cases rw'
 cases ru
 cases rz
 exact ⟨i,j,k,rfl,hc,hp _ Hs H1 (.refl sr.gr.sub) zh⟩
end
end L2
namespace L2
open PySem PySem.Spec PyProof.Rows
def jy:List PV->List PV->List PV->List PV
 | x::xs,y::ys,z::zs=>.tup [x,y,z]::jy xs ys zs
 | _,_,_=>[]
theorem sd:∀ {xs ys zs:List PV} {i:Nat} (h1:i<xs.length) (h2:i<ys.length) (h3:i<zs.length),(jy xs ys zs)[i]?=some (.tup [xs[i],ys[i],zs[i]])
 | x::xs,y::ys,z::zs,0,_,_,_=>rfl
 | x::xs,y::ys,z::zs,i+1,h1,h2,h3=>by
  show (jy xs ys zs)[i]?=_
  exact sd (xs:=xs) (ys:=ys) (zs:=zs) (i:=i) (by simpa using h1) (by simpa using h2) (by simpa using h3)
 | [],_,_,_,h1,_,_=>by simp at h1
 | _::_,[],_,_,_,h2,_=>by simp at h2
 | _::_,_::_,[],_,_,_,h3=>by simp at h3
theorem kZ:∀ {xs ys zs:List PV},(jy xs ys zs).length=min xs.length (min ys.length zs.length)
 | x::xs,y::ys,z::zs=>by
  show (jy xs ys zs).length+1=_
  rw [kZ]
  simp only [List.length_cons]
  omega
 | [],_,_=>by simp [jy]
 | _::_,[],_=>by simp [jy]
 | _::_,_::_,[]=>by simp [jy]
def xi:List PV->M (List PV)
 | [p,q,r]=>match bS p,bS q,bS r with
  | some xs,some ys,some zs=>M.ok (jy xs ys zs)
  | _,_,_=>none
 | _=>none
section
variable {E:St->XK} {K:PySem.W.Frag} {fs:af->M (List PV)}
theorem zd {b1 b2 b3:Bool} {a1 a2 a3:Addr} {Hs1:Hp} {xs ys zs:List PV} {vs us ws:List V} (hq1:∀ Hs' H',aW Hs1 Hs'->aW Hs' H'->k9 K H' b1 a1 vs) (hr1:aG Hs1 xs vs) (hq2:∀ Hs' H',aW Hs1 Hs'->aW Hs' H'->k9 K H' b2 a2 us) (hr2:aG Hs1 ys us)
  (hq3:∀ Hs' H',aW Hs1 Hs'->aW Hs' H'->k9 K H' b3 a3 ws) (hr3:aG Hs1 zs ws):kC (Qj K b1 b2 b3 a1 a2 a3) Hs1 (jy xs ys zs) where
 stop:=fun i Hs H s1 s2 hi=>by
  rw [kZ,hr1.length,hr2.length,hr3.length] at hi
  exact ⟨vs,us,ws,hq1 Hs H s1 s2,hq2 Hs H s1 s2,hq3 Hs H s1 s2,by omega⟩
 go:=fun i Hs H s1 s2 hi=>by
  rw [kZ] at hi
  obtain ⟨v,e,_⟩:=hr1.get (List.getElem?_eq_getElem (show i<xs.length by omega))
  obtain ⟨u,e',_⟩:=hr2.get (List.getElem?_eq_getElem (show i<ys.length by omega))
  obtain ⟨w,e'',_⟩:=hr3.get (List.getElem?_eq_getElem (show i<zs.length by omega))
  exact ⟨vs,us,ws,v,u,w,hq1 Hs H s1 s2,hq2 Hs H s1 s2,hq3 Hs H s1 s2,e,e',e''⟩
 wy:=fun i Hs H x H2 s1 s2 hi y=>by
  rw [kZ] at hi
  have l1:i<xs.length:=by omega
  have l2:i<ys.length:=by omega
  have l3:i<zs.length:=by omega
  obtain ⟨v,e,r⟩:=hr1.get (List.getElem?_eq_getElem l1)
  obtain ⟨u,e',r'⟩:=hr2.get (List.getElem?_eq_getElem l2)
  obtain ⟨w,e'',r''⟩:=hr3.get (List.getElem?_eq_getElem l3)
  obtain ⟨pa,v',u',w',hn,rfl,rfl,y1,y2,y3⟩:=y
  have z1:=y1 vs (hq1 Hs H s1 s2)
  have z2:=y2 us (hq2 Hs H s1 s2)
  have z3:=y3 ws (hq3 Hs H s1 s2)
  rw [e] at z1;cases z1
  rw [e'] at z2;cases z2
  rw [e''] at z3;cases z3
  have gr:=bu.new (o:=.tup [v,u,w]) s2 hn
  exact ⟨_,_,sd l1 l2 l3,gr,.tup aC (.cons ((r.mono s1).mono gr.st) (.cons ((r'.mono s1).mono gr.st) (.cons ((r''.mono s1).mono gr.st) .nil)))⟩
theorem zW {ps:List PV} {Q:List PV->Prop} {F:EX->Prop} (h:av (xi ps) Q F):∃ p q r xs ys zs,ps=[p,q,r]/\bS p=some xs/\bS q=some ys/\bS r=some zs/\Q (jy xs ys zs):=by
 unfold xi at h
 split at h
 ·split at h
  ·exact ⟨_,_,_,_,_,_,rfl,by assumption,by assumption,by assumption,h⟩
  ·exact h.elim
 ·exact h.elim
theorem vX:By E (Ft K (tL E fs)) (jM xi fs):=by
 intro σ H R q
 refine cY (K:=KI R) KI.g q fun B H₀ Hs H1 env ps v sr rp hp=>?_
 obtain ⟨p,q,r,xs,ys,zs,rfl,e1,e2,e3,hp⟩:=zW hp
 obtain ⟨w,u,z,rfl,rw',ru,rz⟩:=rp.three
 obtain ⟨b1,a1,vs,rfl,hq1,hr1⟩:=kQ (K:=K) sr.gr.sub rw' e1
 obtain ⟨b2,a2,us,rfl,hq2,hr2⟩:=kQ (K:=K) sr.gr.sub ru e2
 obtain ⟨b3,a3,ws,rfl,hq3,hr3⟩:=kQ (K:=K) sr.gr.sub rz e3
 exact ⟨b1,b2,b3,a1,a2,a3,rfl,⟨vs,hq1 Hs H1 (fun _ _ z=>z) sr.gr.sub⟩,⟨us,hq2 Hs H1 (fun _ _ z=>z) sr.gr.sub⟩,⟨ws,hq3 Hs H1 (fun _ _ z=>z) sr.gr.sub⟩,hp _ Hs H1 (.refl sr.gr.sub) (zd hq1 hr1 hq2 hr2 hq3 hr3)⟩
end
end L2
namespace L2
open PySem PySem.Spec PyProof.Rows
def n9 (i j k:Nat):PV->af->M af
 | .tup [p,q,r],env=>M.ok (((env.set i (some (.sh p))).set j (some (.sh q))).set k (some (.sh r)))
 | _,_=>none
theorem yJ {E:XK} {K:PySem.W.Frag} {i j k:Nat}:E5 E (iw K 3 (aU (aF i) (aU (aF j) (aU (aF k) iE)))) (n9 i j k):=by
 intro B H₀ Hs H σ env p v Q Z sr r h
 cases r with
 | @tup a xs vs ha hx =>
  match xs,hx with
  | [p,q,r],hx =>
   obtain ⟨v,u,w,rfl,rp,rq,rr⟩:=hx.three
   exact ⟨a,[v,u,w],rfl,gT.of (sr.gr.sub _ _ ha),rfl,v,[u,w],rfl,u,[w],rfl,w,[],rfl,rfl,h _ (((sr.set rp).set rq).set rr)⟩
  | [],_=>exact h.elim
  | [_],_=>exact h.elim
  | [_,_],_=>exact h.elim
  | _::_::_::_::_,_=>exact h.elim
 | _=>exact h.elim
theorem w8 {i j k:Nat}:sN (n9 i j k):=fun p env e h n=>by
 unfold n9 at h
 split at h
 ·cases h;exact kI (kI (kI n))
 ·cases h
section
variable {X:Cx} {E:XK} {e:Expr} {es:List Expr} {pos pos' px:Pos} {fs:af->M (List PV)} {f h:af->M PV} {i:Nat} {x:Str}
def ownAt (i:Nat) (env:af):M (List PV):=match env[i]? with
 | some (some (.ow xs))=>M.ok xs
 | _=>none
theorem av.own {i:Nat} {env:af} {Q:List PV->Prop} {F:EX->Prop} (h:av (ownAt i env) Q F):∃ xs,env[i]?=some (some (.ow xs))/\Q xs:=by
 unfold ownAt at h
 split at h
 ·exact ⟨_,by assumption,h⟩
 ·exact h.elim
def Fx (i:Nat) (xs:List PV) (p:PV) (env:af):PV->M Out
 | .int n=>match Am xs.length n with
  | some j=>M.ok (.nx (env.set i (some (.ow (xs.set j p)))))
  | none=>none
 | _=>none
def Jq (i:Nat) (g f:af->M PV):af->M Out:=fun env=>(f env).bind fun p=>(ownAt i env).bind fun xs=>(g env).bind (Fx i xs p env)
theorem Fo {ie:Expr} (hi:X.N[i]?=some x) (hv:BB X.env.scope x) (hk:PE X ie (tE (fun _=>E) h)) (he:PE X e (tE (fun _=>E) f)) (hd:(x==("__debug__" : Str))=false:=by decide) (hcd:(x==("__classdict__" : Str))=false:=by decide)
  (ha:∀ v,assign (.Subscript (.Name x px) ie pos') X.env v=(do
   let ov ← holding [v] (eval (.Name x px) X.env)
   let iv ← holding [v,ov] (eval ie X.env)
   standAt pos'
   holding [v,ov,iv] (setItem ov iv v)
   release [v,ov,iv] []):=by intro _;rfl)
  (hs:swapsWithSole [.Subscript (.Name x px) ie pos'] e pos.line X.env=pure false:=by rfl) (hw:swappedStores [.Subscript (.Name x px) ie pos'] e X.env=pure none:=by rfl)
  (h1:(assignEach [.Subscript (.Name x px) ie pos'] X.env).map (·.2)=[assign (.Subscript (.Name x px) ie pos') X.env]:=by rfl):PS X (.Assign [.Subscript (.Name x px) ie pos'] e pos) (tS E (Jq i h f)):=by
 refine (Hu he (H_ (mX hi hv hd hcd) hk set_list ha) hs hw h1).imp fun D σ H q=>kd q fun B H₀ Hs H1 env p v sr rp hp=>?_
 obtain ⟨xs,ex,hp⟩:=av.own (av.bind hp)
 obtain ⟨a,vs,h1,h2,h3,h4,h5⟩:=sr.ow i xs ex
 refine ⟨.ref a,h1,B,H₀,Hs,env,sr,(av.bind hp).imp (fun k hk w Hs2 H2 g2 rk=>?_) fun e he=>he.grow sr.gr⟩
 have sr2:=sr.grow g2
 cases rk with
 | int n =>
  have hk':av (match Am xs.length n with | some j=>M.ok (Out.nx (env.set i (some (.ow (xs.set j p))))) | none=>none) (KS D B H₀) (XW E B H₀):=hk
  split at hk'
  ·rename_i j ej
   exact ⟨a,vs,n,j,rfl,rfl,g2.al _ _ h2,by rw [← h5.length];exact ej,hk' σ Hs2 _ (sr2.put ex h1 ((h5.mono g2.st).set (rp.mono g2.st) j))⟩
  ·exact hk'.elim
 | _=>exact hk.elim
end
theorem KO.gr {Q:VK}:KG (KO Q):=fun Hs H Hs' H' b k g vs p Hs2 H2 g2 r n=>k vs p Hs2 H2 (g.trans g2) r n
section
variable {X:Cx} {E:St->XK} {k n:Nat} {f C:Addr} {fd:FuncData} {ps:List Str} {sem:List PV->M (List PV)} {m:Str} {p pos apos cpos:Pos} {e o:Expr} {es:List Expr} {fs:af->M (List PV)} {g:af->M PV}
end
end L2
namespace L2
open PySem PySem.Spec PyProof.Rows
mutual
def pX:PV->Bool
 | .cS=>true
 | .bl _=>true
 | .int _=>true
 | .str _=>true
 | .tup xs=>ni xs
 | _=>false
def ni:List PV->Bool
 | []=>true
 | p::r=>pX p&&ni r
end
mutual
theorem Rep.away {Hs:Hp} {a:Addr} {ws:List V} (ha:Hs a=some (.lst ws)):∀ {p:PV} {v:V},Rep Hs p v->pX p=true->Rep (rem Hs a) p v
 | _,_,.cS,_=>.cS
 | _,_,.bl b,_=>.bl b
 | _,_,.int b,_=>.int b
 | _,_,.str b,_=>.str b
 | _,_,.tup (a:=c) h r,n=>by
  have nc:c≠a:=fun z=>by subst z;rw [ha] at h;cases h
  exact .tup (by unfold rem;rw [if_neg nc];exact h) (r.away ha n)
 | _,_,.lst _ _,n=>by cases n
 | _,_,.jI _ _,n=>by cases n
 | _,_,.obj _ _,n=>by cases n
 | _,_,.wU _,n=>by cases n
 | _,_,.v7 _ _ _,n=>by cases n
theorem aG.away {Hs:Hp} {a:Addr} {ws:List V} (ha:Hs a=some (.lst ws)):∀ {p:List PV} {v:List V},aG Hs p v->ni p=true->aG (rem Hs a) p v
 | _,_,.nil,_=>.nil
 | _,_,.cons h r,n=>by
  have n':=Bool.and_eq_true_iff.mp (show (pX _&&ni _)=true from n)
  exact .cons (h.away ha n'.1) (r.away ha n'.2)
end
def Cg:M PV->M PV
 | some (.ok p)=>cC (pX p=true) (M.ok p)
 | _=>none
theorem av.Cg {r:M PV} {Q:PV->Prop} {E:EX->Prop} (h:av (L2.Cg r) Q E):av r (fun p=>pX p=true/\Q p) (fun _=>False):=by
 cases r with
 | none=>exact h
 | some r=>cases r with
  | error e=>exact h
  | ok p =>
   obtain ⟨n,h⟩:=av.cC h
   exact ⟨n,h⟩
theorem bu.back {Hs H Hs' H':Hp} {a:Addr} {ws:List V} (h1:Hs a=none) (hH:H a=some (.lst ws)) (s:aW Hs H) (g:bu (upd Hs a (.lst ws)) H Hs' H'):bu Hs H (rem Hs' a) H'/\Hs' a=some (.lst ws):=by
 have e:Hs' a=some (.lst ws):=g.st _ _ aC
 refine ⟨⟨fun c u q=>?_,g.al,fun c u q=>?_,fun c u q1 q2=>?_⟩,e⟩
 ·have nc:c≠a:=fun z=>by subst z;rw [h1] at q;cases q
  unfold rem;rw [if_neg nc]
  exact g.st c u (by rw [ar nc];exact q)
 ·unfold rem at q
  split at q
  ·cases q
  ·exact g.sub c u q
 ·unfold rem
  by_cases nc:c=a
  ·rw [if_pos nc]
  ·rw [if_neg nc]
   exact g.nw c u (by rw [ar nc];exact q1) q2
theorem SR.lend {B H₀ Hs H:Hp} {σ:St} {env:af} {i:Nat} {xs:List PV} (r:SR B H₀ Hs H σ env) (e:env[i]?=some (some (.ow xs))):∃ a vs,Hs a=none/\H a=some (.lst vs)/\SR B H₀ (upd Hs a (.lst vs)) H σ (tR i env):=by
 obtain ⟨a,vs,h1,h2,h3,h4,h5⟩:=r.ow i xs e
 refine ⟨a,vs,h3,h2,?_⟩
 have ne:∀ c u,Hs c=some u->c≠a:=fun c u q z=>by rw [z,h3] at q;cases q
 have hst:aW Hs (upd Hs a (.lst vs)):=fun c u q=>by rw [ar (ne c u q)];exact q
 unfold tR
 rw [e]
 refine ⟨⟨fun c u q=>hst c u (r.gr.st c u q),r.gr.al,fun c u q=>?_,fun c u q1 q2=>?_⟩,by rw [List.length_set];exact r.len,fun j q ej=>?_,fun j ys ej=>?_,fun j k ys zs b nj e1 e2 e3 e4=>?_,fun j ba C fs ej=>?_,fun j k _ _ C D fs gs e1 e2=>?_⟩
 ·by_cases z:c=a
  ·subst z;rw [aC] at q;cases q;exact h2
  ·rw [ar z] at q;exact r.gr.sub c u q
 ·have z:c≠a:=fun z=>by rw [z,h4] at q2;cases q2
  rw [ar z];exact r.gr.nw c u q1 q2
 ·rw [List.getElem?_set] at ej
  by_cases z:i=j
  ·subst z
   rw [if_pos rfl] at ej
   split at ej
   ·cases ej
    exact ⟨.ref a,h1,.lst aC (h5.mono hst)⟩
   ·cases ej
  ·rw [if_neg z] at ej
   obtain ⟨v,q1,q2⟩:=r.sh j q ej
   exact ⟨v,q1,q2.mono hst⟩
 ·rw [List.getElem?_set] at ej
  by_cases z:i=j
  ·subst z
   rw [if_pos rfl] at ej
   split at ej <;> cases ej
  ·rw [if_neg z] at ej
   obtain ⟨b,us,q1,q2,q3,q4,q5⟩:=r.ow j ys ej
   have nb:b≠a:=fun w=>by subst w;exact r.sep i j xs ys b z e ej h1 q1
   exact ⟨b,us,q1,q2,by rw [ar nb];exact q3,q4,q5.mono hst⟩
 ·rw [List.getElem?_set] at e1 e2
  by_cases z:i=j
  ·subst z
   rw [if_pos rfl] at e1
   split at e1 <;> cases e1
  ·by_cases z2:i=k
   ·subst z2
    rw [if_pos rfl] at e2
    split at e2 <;> cases e2
   ·rw [if_neg z] at e1
    rw [if_neg z2] at e2
    exact r.sep j k ys zs b nj e1 e2 e3 e4
 ·rw [List.getElem?_set] at ej
  by_cases z:i=j
  ·subst z
   rw [if_pos rfl] at ej
   split at ej <;> cases ej
  ·rw [if_neg z] at ej
   obtain ⟨dx,us,q1,q2,q3,q4,q5⟩:=r.bd j ba C fs ej
   have nb:ba≠a:=fun w=>by subst w;rw [h2] at q2;cases q2
   exact ⟨dx,us,q1,q2,by rw [ar nb];exact q3,q4,q5.mono hst⟩
 ·rw [List.getElem?_set] at e1 e2
  by_cases z:i=j
  ·subst z
   rw [if_pos rfl] at e1
   split at e1 <;> cases e1
  ·by_cases z2:i=k
   ·subst z2
    rw [if_pos rfl] at e2
    split at e2 <;> cases e2
   ·rw [if_neg z] at e1
    rw [if_neg z2] at e2
    exact r.one j k _ _ C D fs gs e1 e2
def vR (i:Nat) (f:af->M PV):af->M PV:=fun env=>(ownAt i env).bind fun _=>Cg (f (tR i env))
section
variable {X:Cx} {E:St->XK} {e:Expr} {f:af->M PV} {u:af->M Bool}
theorem yD (i:Nat) (he:PE X e (tE E f)):PE X e (tE E (vR i f)):=he.imp fun σ H Q q=>by
 obtain ⟨B,H₀,Hs,env,sr,q⟩:=q
 obtain ⟨xs,ex,q⟩:=av.own (av.bind q)
 obtain ⟨a,vs,h3,h2,sr2⟩:=sr.lend ex
 refine ⟨B,H₀,_,_,sr2,(av.Cg q).imp (fun p hp v Hs' H' g r=>?_) fun _ z=>z.elim⟩
 obtain ⟨g2,ea⟩:=bu.back h3 h2 sr.gr.sub g
 exact hp.2 v _ _ g2 (r.away ea hp.1)
end
end L2
namespace L2
open PySem PySem.Spec PyProof.Rows
def bo:PV->PV->M PV:=xu (fun _ j=>decide (j≠0/\j.natAbs.log2<9000)) fun i j=>i.fdiv j
def cR:PV->PV->M PV:=xu (fun _ j=>decide (j≠0)) fun i j=>i.fmod j
def u6:PV->PV->M PV:=xu (fun i j=>decide (0<=j/\j<=1000000/\i.natAbs<2^64)) fun i j=>i^j.toNat
def CO:PV->PV->M PV:=CA fun i j=>decide (i<j)
def Dk:PV->PV->M PV:=CA fun i j=>decide (i<=j)
def Fq:PV->PV->M PV:=CA fun i j=>decide (j<i)
def IB:PV->PV->M PV:=CA fun i j=>decide (j<=i)
section
variable {E:St->XK}
theorem BM:my E (rI Cm fun i j=>.int (i.fdiv j)) bo:=D8
theorem Ek:my E (rI (fun _ j=>j≠0) fun i j=>.int (i.fmod j)) cR:=F9
theorem EA:my E (rI HM fun i j=>.int (i^j.toNat)) u6:=Gn
theorem t7:my E (yB fun i j=>.bl (decide (i<j))) CO:=tH
theorem m5:my E (yB fun i j=>.bl (decide (i<=j))) Dk:=tH
theorem Ct:my E (yB fun i j=>.bl (decide (j<i))) Fq:=tH
theorem BV:my E (yB fun i j=>.bl (decide (j<=i))) IB:=tH
end
def bb (n:Nat) (s:List PV->M PV):List PV->M PV:=fun ps=>cC (ps.length=n) (s ps)
theorem pP {n:Nat} {s:List PV->M PV} {ps:List PV} (h:bb n s ps≠none):ps.length=n:=by
 unfold bb cC at h
 split at h
 ·assumption
 ·exact (h rfl).elim
section
variable {P:Program} {w:World} {K:PySem.W.Frag} {mg:Str->Option Value} {base:Heap}
theorem AN {k n:Nat} {f:Addr} {fd:FuncData} {ps:List Str} {s:List PV->M PV} (F:aN P w K mg base (bT P w) k f fd ps (eJ n s)):aN P w K mg base (bT P w) k f fd ps (eJ n (bb n s)) where
 len:=fun vs H Q E h=>by
  obtain ⟨h0,Hs,qs,sm,r,h⟩:=h
  exact F.len vs H Q E ⟨h0,Hs,qs,sm,r,(av.cC h).2⟩
 run:=fun A outer s H args us vs Q E hr e hb rv h=>by
  obtain ⟨h0,Hs,qs,sm,r,h⟩:=h
  exact F.run A outer s H args us vs Q E hr e hb rv ⟨h0,Hs,qs,sm,r,(av.cC h).2⟩
structure bI (P:Program) (w:World) (K:PySem.W.Frag) (mg:Str->Option Value) (base:Heap) (n:Nat) (x:Str) (m:Nat) (sem:List PV->M PV):Prop where
 ex:∃ (f:Addr) (fd:FuncData) (ps:List Str),mg x=some (.ref f)/\PySem.W.keepIn K (.ref f)=true/\ps.length=m/\Binds K fd ps []/\aN P w K mg base (bT P w) n f fd ps (eJ m (bb m sem))
theorem aE.gA {x qual:Str} {st:Stmt} {dv:Value} {f:Addr} {fd:FuncData} {N ps:List Str} {k:Nat} {g:af->M Out} (F:aE K x qual st dv f fd) (S:ay N ps (au st))
  (hb:∀ (cdv:Value) (A:Around) (outer:List Env) (s:Shared) (H:Hp) (E:XK),bV k (A.deeper (envOfC qual (au st) s.heap.objs.size f cdv))->eU ((ot (bT P w) P w K mg base N qual (au st) f cdv A outer s H E).out fun _=>E) (fun _=>E)->lZ ((ot (bT P w) P w K mg base N qual (au st) f cdv A outer s H E).out fun _=>E) (ff st) (tS E g)) :
  aN P w K mg base (bT P w) (k+1) f fd ps (eJ ps.length (bb ps.length (aw N.length g))):=by
 obtain ⟨oc,od,kV,doc,pm,an,cdv,ct,osl,rfl,lk,hcd⟩:=F.ex
 exact AN (HI lk hcd S fun A outer s H E hr=>hb cdv A outer s H E hr (Bk rfl rfl))
end
section
variable {X:Cx} {E:St->XK} {n m k:Nat} {x:Str} {sem:List PV->M PV} {e:Expr} {es:List Expr} {fs:af->M (List PV)} {p pos:Pos}
theorem bI.call (F:bI X.prog X.w X.K X.mg X.base n x m sem) (hr:bV k X.A) (hn:n<=k) (hg:Gl X x) (O:eU X E) (ha:PA X (e::es) (tL E fs)) (hdb:(x==("__debug__" : Str))=false:=by decide) (he:starEach (e::es) X.env=(false,eval e X.env)::starEach es X.env:=by rfl) (hpl:(backTo pos (starEach es X.env)).any (·.1)=false:=by rfl) :
  PE X (.Call (.Name x p) (e::es) [] pos) (tE E (ai (bb m sem) fs)):=by
 obtain ⟨f,fd,ps,h1,h2,h3,h4,h5⟩:=F.ex
 have:=DN (p:=p) (dps:=[]) h5 (hr.mono hn) hg h1 h2 h4 .nil (fun _=>.nil) O (fun ps' hp=>by rw [List.append_nil] at hp;exact pP hp) ha hdb he hpl
 refine this.imp fun σ H Q q=>?_
 have e:(fun ps=>bb m sem (ps++[]))=bb m sem:=by funext ps;rw [List.append_nil]
 rw [e];exact q
structure k4 (P:Program) (w:World) (K:PySem.W.Frag) (mg:Str->Option Value) (base:Heap) (C:Addr) (n:Nat) (x:Str) (m:Nat) (sem:List PV->M PV):Prop where
 ex:∃ (f:Addr) (fd:FuncData) (ps:List Str),nK K C/\Meth K C x f/\Binds K fd ps []/\aN P w K mg base (bT P w) n f fd ps (eJ m (bb m sem))
theorem k4.call {C:Addr} {o:Expr} {g:af->M PV} {apos:Pos} {pl:Sem Bool} (F:k4 X.prog X.w X.K X.mg X.base C n x m sem) (hr:bV k X.A) (hn:n<=k) (O:eU X E) (ho:PE X o (tE E g)) (ha:PA X (e::es) (tL E fs))
  (hst:starEach (e::es) X.env=(false,eval e X.env)::starEach es X.env:=by rfl) (hpl:(backTo pos (starEach es X.env)).any (·.1)=false:=by rfl)
  (ht:eval (.Call (.Attribute o x apos) (e::es) [] pos) X.env=(do
   let ov ← eval o X.env
   standAt apos.atName
   let (f,first) ← holding [ov] (getMethod ov x pl)
   callWith pos f first (backTo pos (starEach (e::es) X.env)) (backToKw pos (keywordEach [] X.env))):=by rfl) :
  PE X (.Call (.Attribute o x apos) (e::es) [] pos) (tE E (bH C x (bb m sem) g fs)):=by
 obtain ⟨f,fd,ps,h1,h2,h3,h4⟩:=F.ex
 exact Ed ho h1 h2 h4 (hr.mono hn) h3 O (fun ps' hp=>pP hp) ha hst hpl ht
theorem k4.Jf {C:Addr} {o:Expr} {g:af->M PV} {apos:Pos} {pl:Sem Bool} (F:k4 X.prog X.w X.K X.mg X.base C n x m sem) (hr:bV k X.A) (hn:n<=k) (O:eU X E) (ho:PE X o (tE E g))
  (ht:eval (.Call (.Attribute o x apos) [] [] pos) X.env=(do
   let ov ← eval o X.env
   standAt apos.atName
   let (f,first) ← holding [ov] (getMethod ov x pl)
   callWith pos f first (backTo pos (starEach [] X.env)) (backToKw pos (keywordEach [] X.env))):=by rfl) :
  PE X (.Call (.Attribute o x apos) [] [] pos) (tE E (bH C x (bb m sem) g aq)):=by
 obtain ⟨f,fd,ps,h1,h2,h3,h4⟩:=F.ex
 exact Dg ho h1 h2 h4 (hr.mono hn) h3 O (fun ps' hp=>pP hp) ht
end
structure Ij (P:Program) (w:World) (K:PySem.W.Frag) (mg:Str->Option Value) (base:Heap) (C:Addr) (n:Nat) (x:Str) (m:Nat) (dps:List PV) (sem:Addr->List PV->M (List (Str×PV))):Prop where
 ex:∃ (f:Addr) (fd:FuncData) (ps:List Str) (ds:List Value) (dvs:List V),mg x=some (.ref C)/\Mk K C f/\Binds K fd ps ds/\Vals dvs ds/\(∀ H,aG H dps dvs)/\aN P w K mg base (bT P w) n f fd ps (Fi m C sem)
def tX (m:Nat) (sem:Addr->List PV->M (List (Str×PV))):Addr->List PV->M (List (Str×PV)):=fun a ps=>cC (ps.length+1=m) (sem a ps)
theorem zm {P:Program} {w:World} {K:PySem.W.Frag} {mg:Str->Option Value} {base:Heap} {k n:Nat} {f C:Addr} {fd:FuncData} {ps:List Str} {s:Addr->List PV->M (List (Str×PV))} (F:aN P w K mg base (bT P w) k f fd ps (Fi n C s)):aN P w K mg base (bT P w) k f fd ps (Fi n C (tX n s)) where
 len:=fun vs H Q E h=>by
  obtain ⟨h0,a,dx,us,Hs,H1,qs,e1,e2,e3,e4,e5,sm,r,h⟩:=h
  exact F.len vs H Q E ⟨h0,a,dx,us,Hs,H1,qs,e1,e2,e3,e4,e5,sm,r,(av.cC h).2⟩
 run:=fun A outer s H args us vs Q E hr e hb rv h=>by
  obtain ⟨h0,a,dx,us',Hs,H1,qs,e1,e2,e3,e4,e5,sm,r,h⟩:=h
  exact F.run A outer s H args us vs Q E hr e hb rv ⟨h0,a,dx,us',Hs,H1,qs,e1,e2,e3,e4,e5,sm,r,(av.cC h).2⟩
theorem aE.QL {P:Program} {w:World} {K:PySem.W.Frag} {mg:Str->Option Value} {base:Heap} {x qual:Str} {st:Stmt} {dv:Value} {f C:Addr} {fd:FuncData} {N ps:List Str} {k:Nat} {g:af->M Out} (F:aE K x qual st dv f fd) (S:ay N ps (au st)) (hN:0<N.length)
  (hb:∀ (cdv:Value) (A:Around) (outer:List Env) (s:Shared) (H:Hp) (E:XK),bV k (A.deeper (envOfC qual (au st) s.heap.objs.size f cdv))->eU ((ot (bT P w) P w K mg base N qual (au st) f cdv A outer s H E).out fun _=>E) (fun _=>E)->lZ ((ot (bT P w) P w K mg base N qual (au st) f cdv A outer s H E).out fun _=>E) (ff st) (tS E g)) :
  aN P w K mg base (bT P w) (k+1) f fd ps (Fi ps.length C (tX ps.length (zo N.length g C))):=by
 obtain ⟨oc,od,kV,doc,pm,an,cdv,ct,osl,rfl,lk,hcd⟩:=F.ex
 exact zm <| DA lk hcd S hN fun A outer s H E hr=>hb cdv A outer s H E hr (Bk rfl rfl)
section
variable {X:Cx} {E:St->XK} {n m k:Nat} {x:Str} {e:Expr} {es:List Expr} {fs:af->M (List PV)} {p pos:Pos}
theorem Ij.make {C:Addr} {dps:List PV} {sem:Addr->List PV->M (List (Str×PV))} (F:Ij X.prog X.w X.K X.mg X.base C n x m dps (tX m sem)) (hr:bV k X.A) (hn:n+1<=k) (hg:Gl X x) (O:eU X E) (ha:PA X (e::es) (tL E fs)) (hdb:(x==("__debug__" : Str))=false:=by decide) (he:starEach (e::es) X.env=(false,eval e X.env)::starEach es X.env:=by rfl) (hpl:(backTo pos (starEach es X.env)).any (·.1)=false:=by rfl) :
  PE X (.Call (.Name x p) (e::es) [] pos) (tE E (ai (jP C (tX m sem) dps) fs)):=by
 obtain ⟨f,fd,ps,ds,dvs,h1,h2,h4,h5,h6,h7⟩:=F.ex
 refine D4 (p:=p) h2 h7 (hr.mono hn) hg h1 h4 h5 h6 O (fun a ps' hp=>?_) ha hdb he hpl
 unfold tX cC at hp
 split at hp
 ·rename_i h;rwa [List.length_append] at h
 ·exact (hp rfl).elim
end
def nv:Addr->Option Bool:=fun _=>none
theorem kn {P:Addr->Bool->Prop}:∀ C b,nv C=some b->P C b:=fun _ _ h=>by cases h
theorem vr {X:Cx} {E:St->XK} {x:Str} {pos:Pos} (i:Nat) (hN:X.N[i]?=some x:=by rfl) (hv:BB X.env.scope x:=by first | exact .inl rfl | exact .inr (.inl rfl) | exact .inr (.inr rfl)) (hd:(x==("__debug__" : Str))=false:=by decide) (hcd:(x==("__classdict__" : Str))=false:=by decide):PE X (.Name x pos) (tE E (aa i)):=G6 hN hv hd hcd
end L2
namespace L2
open PySem PySem.Spec PyProof.Rows
theorem Fc {env:Env} {e:Expr} {es:List Expr} (h:(match e with | .Starred ..=>true | _=>false)=false):starEach (e::es) env=(false,eval e env)::starEach es env:=by
 cases e <;> first | rfl | cases h
def kX:List Expr->Option (List Int)
 | []=>some []
 | .Constant (.int i) _ _::r=>(kX r).map (i::·)
 | _=>none
section
variable {X:Cx} {E:St->XK} {pos:Pos}
theorem yc:∀ {es:List Expr} {ns:List Int},kX es=some ns->PA X es (tL E fun _=>M.ok (ns.map PV.int))
 | [],_,h=>by cases h;exact BN
 | .Constant (.int i) j p::r,ns,h=>by
  obtain ⟨ms,h1,rfl⟩:=Option.map_eq_some_iff.mp (show (kX r).map (i::·)=some ns from h)
  exact yp A6 (yc h1) (Fc rfl)
theorem yz {es:List Expr} (ns:List Int) (h:kX es=some ns:=by rfl) (hz:ns.length<=1000:=by decide):PE X (.List es pos) (tE E fun _=>M.ok (.lst (ns.map PV.int))):=by
 refine (AR (E:=E) (yc h)).imp fun σ H Q q=>?_
 have e:(rW fun _=>M.ok (ns.map PV.int))=fun _=>M.ok (.lst (ns.map PV.int)):=by
  funext env
  show cC _ _=_
  unfold cC
  rw [if_pos (by rw [List.length_map];exact Nat.le_trans hz (by decide))]
 rw [e];exact q
end
end L2
namespace L2
open PySem PySem.Spec PyProof.Rows
def C2:PV->PV->M (List PV)
 | .lst xs,.int k=>cC (-(2^63)<=k/\k<2^63/\xs.length*k.toNat<=sizeLine) (M.ok (List.replicate k.toNat xs).flatten)
 | _,_=>none
def HC (f g:af->M PV):af->M (List PV):=fun env=>(f env).bind fun p=>(g env).bind fun q=>C2 p q
section
variable {X:Cx} {E:St->XK} {a b:Expr} {pos:Pos} {f g:af->M PV}
theorem FX (ha:PE X a (tE E f)) (hb:PE X b (tE E g)):PE X (.BinOp a .Mult b pos) (tO E (HC f g)):=by
 refine (FC Cy ha hb).imp fun σ H Q q=>bL (K:=KO Q) KO.gr q fun B H₀ Hs H1 env p v sr rp hp=>?_
 refine ⟨B,H₀,Hs,env,sr,(av.bind hp).imp (fun q hq u Hs' H' g' ru=>?_) fun e he=>he⟩
 have sr':=sr.grow g'
 have rp':=rp.mono g'.st
 cases rp' with
 | @lst l xs vs ha hx=>cases ru with
  | int k =>
   obtain ⟨⟨h1,h2,h3⟩,h⟩:=av.cC hq
   exact ⟨l,k,vs,rfl,rfl,sr'.gr.sub _ _ ha,h1,h2,by rw [← hx.length];exact h3,fun p n=>h _ p Hs' H' g' (hx.rep _) n⟩
  | _=>exact hq.elim
 | _=>exact hq.elim
end
end L2
namespace L2
open PySem PySem.Spec PyProof.Rows
structure CV (K:PySem.W.Frag) (mg:Str->Option Value) (C:Addr) (x:Str):Prop where
 hc:PySem.W.excIn K C eR "ValueError.__new__" = true
 c:gG K C
 ht:PySem.W.typeIn K (.ref C)=some (.type "type")
 kp:PySem.W.keepIn K (.ref C)=true
 m:mg x=some (.ref C)
structure qU (P:Program) (w:World) (K:PySem.W.Frag) (mg:Str->Option Value) (base:Heap) (C:Addr) (x fl:Str):Prop where
 ex:∃ (f:Addr) (fd:FuncData) (ps:List Str),p_ K C "ValueError.__new__" f=true/\PySem.W.isFn K (.ref f)=true/\aN P w K mg base (bT P w) 1 f fd ps (Ab K C fl)/\Binds K fd ps []
 c:gG K C
 ht:PySem.W.typeIn K (.ref C)=some (.type "type")
 kp:PySem.W.keepIn K (.ref C)=true
 m:mg x=some (.ref C)
section
variable {X:Cx} {E:XK} {e:Expr} {es:List Expr} {pos p cpos:Pos} {x fl:Str} {C:Addr} {k:Nat} {fs:af->M (List PV)}
theorem CV.raise (F:CV X.K X.mg C x) (O:eU X fun _=>E) (hcalm:X.calm=true) (hg:Gl X x) (ha:PA X (e::es) (tL (fun _=>E) fs))
  (hdb:(x==("__debug__" : Str))=false:=by decide) (he:starEach (e::es) X.env=(false,eval e X.env)::starEach es X.env:=by rfl) (hpl:(backTo cpos (starEach es X.env)).any (·.1)=false:=by rfl) :
  PS X (.Raise (some (.Call (.Name x p) (e::es) [] cpos)) none pos) (tS E (nq C fs)):=z6 O hcalm F.hc F.c F.ht F.kp hg F.m ha hdb he hpl
theorem qU.raise (F:qU X.prog X.w X.K X.mg X.base C x fl) (hr:bV k X.A) (hn:2<=k) (O:eU X fun _=>E) (hcalm:X.calm=true) (hg:Gl X x) (ha:PA X [e] (tL (fun _=>E) fs))
  (hdb:(x==("__debug__" : Str))=false:=by decide) (he:starEach [e] X.env=(false,eval e X.env)::starEach [] X.env:=by rfl) (hpl:(backTo cpos (starEach [] X.env)).any (·.1)=false:=by rfl) :
  PS X (.Raise (some (.Call (.Name x p) [e] [] cpos)) none pos) (tS E (iu C fl fs)):=by
 obtain ⟨f,fd,ps,h1,h2,h3,h4⟩:=F.ex
 exact Ae O hcalm h1 h2 F.c F.ht F.kp h3 (hr.mono hn) h4 hg F.m ha hdb he hpl
end
end L2
namespace L2
open PySem PySem.Spec PyProof.Rows
section
variable {X:Cx} {E:St->XK}
end
end L2
namespace L2
open PySem PySem.Spec PyProof.Rows
end L2
namespace L2
open PySem PySem.Spec PyProof.Rows
def Jd (i j:Nat) (env:af):List PV->M Out
 | [p,q]=>M.ok (.nx ((env.set i (some (.sh p))).set j (some (.sh q))))
 | _=>none
def AQ (i j:Nat) (fs:af->M (List PV)):af->M Out:=fun env=>(fs env).bind (Jd i j env)
theorem BD {X:Cx} {E:XK} {i j:Nat} {x y:Str} {a b:Expr} {fs:af->M (List PV)} {px py pt pos:Pos} {kt k2:Nat} {pt2:Pos} (hc:X.calm=true) (hN:X.N.Nodup) (hi:X.N[i]?=some x) (hj:X.N[j]?=some y) (hij:i≠j)
  (hx:X.env.scope.names.lookup x=some .local) (hy:X.env.scope.names.lookup y=some .local) (ha:PA X [a,b] (tL (fun _=>E) fs))
  (hw:swappedStores [.Tuple [.Name x px,.Name y py] kt pt] (.Tuple [a,b] k2 pt2) X.env=pure (some [x,y]))
  (hs:swapsWithSole [.Tuple [.Name x px,.Name y py] kt pt] (.Tuple [a,b] k2 pt2) pos.line X.env=pure false:=by rfl) :
  PS X (.Assign [.Tuple [.Name x px,.Name y py] kt pt] (.Tuple [a,b] k2 pt2) pos) (tS E (AQ i j fs)):=by
 refine (Ho hc hN hi hj hij hx hy ha hw hs).imp fun D σ H q=>qj q fun B H₀ Hs H1 env ps v sr rp hp=>?_
 match ps,rp,hp with
 | [],_,hp=>exact hp.elim
 | [_],_,hp=>exact hp.elim
 | _::_::_::_,_,hp=>exact hp.elim
 | [p,q],rp,hp =>
  obtain ⟨v,u,rfl,r1,r2⟩:=rp.two
  exact ⟨v,u,rfl,hp _ Hs H1 ((sr.set r1).set r2)⟩
end L2
namespace L2
open PySem PySem.Spec PyProof.Rows
section
variable {X:Cx} {E:St->XK} {pos:Pos}
end
end L2
namespace L2
open PySem PySem.Spec PyProof.Rows
section
variable {X:Cx} {tg elt iter c:Expr} {scope:Scope} {cl:List (Str×Addr)} {pos:Pos} {wi:TI} {it:af->M (List PV)} {g:TG} {set:PV->af->M af} {f:af->M PV} {ts fs:List Str} {js:List Nat}
theorem Bx {E:St->XK} {σ:St} {H:Hp} {Q:VK} (hv:By E wi it) (tgv:∀ E,E5 E g set) (so:sN set) (q:tO E (dI it set none f ts.length js) σ H Q):xH wi g (tE EF f) ts js σ H Q:=by
 refine hv σ H _ ?_
 obtain ⟨B,H₀,Hs,env,sr,q⟩:=q
 refine ⟨B,H₀,Hs,env,sr,(av.bind q).imp (fun xs hp J Hs1 H1 gr ok D hD=>?_) fun e he=>he⟩
 obtain ⟨hz,hp⟩:=av.cC hp
 have hp:=av.C7 hp
 have sr1:=sr.grow gr
 refine ⟨fun i m σ H=>m=xs.length-i/\i<=xs.length/\Jc set none f Q Hs1 H1 D xs i σ H,⟨xs.length,by simp,Nat.zero_le _,Hs1,_,[],[],sr1.block hD,e7,aC,?_,.nil,Nat.le_refl _,hp.imp (fun zs hz vs p Hs2 H2 g2 r n=>hz vs p Hs2 H2 (gr.trans g2) r n) fun _ z=>z⟩,?_⟩
 ·cases z:Hs1 D with
  | none=>rfl
  | some o=>have:=gr.sub _ _ z;rw [hD] at this;cases this
 rintro i m σ' H2 ⟨rfl,hi,Hs2,env2,ys,vs,sr2,n2,d1,d2,r2,l2,h2⟩
 by_cases hlt:i<xs.length
 ·refine .inr ⟨ok.go i Hs2 H2 sr2.gr.st sr2.gr.sub hlt,Jc set none f Q Hs1 H1 D xs (i+1),fun σ3 H3 j=>⟨xs.length-(i+1),by omega,rfl,hlt,j⟩,fun x H3 y=>?_⟩
  obtain ⟨p,Hs3,ep,g3,r3⟩:=ok.wy i Hs2 H2 x H3 sr2.gr.st sr2.gr.sub hlt y
  have hd:xs.drop i=p::xs.drop (i+1):=by
   rw [List.drop_eq_getElem_cons hlt]
   rw [List.getElem?_eq_getElem hlt] at ep
   rw [Option.some.inj ep]
  rw [hd] at h2
  have h3:=av.bind h2
  have sr3:=sr2.grow g3
  refine tgv (fun _ _ _=>False) Hs1 H1 Hs3 H3 σ' env2 p x _ (fun _=>False) sr3 r3 ?_
  cases hset:set p env2 with
  | none=>rw [hset] at h3;exact h3
  | some z=>cases z with
   | error e=>rw [hset] at h3;exact h3
   | ok e3 =>
    rw [hset] at h3
    intro σ4 sr4
    have n4:=so p env2 e3 hset n2
    refine ⟨Hs1,H1,Hs3,e3,sr4,(av.bind h3).imp (fun y hy v Hs5 H5 g5 r5=>?_) fun _ z=>z.elim⟩
    exact Jc.put (set:=set) (t:=none) (f:=f) hD (sr4.grow g5) n4 (g5.al _ _ (g3.al _ _ d1)) (g5.nw _ _ (g3.nw _ _ d2 d1) (g3.al _ _ d1)) ((r2.mono g3.st).mono g5.st) l2 (by omega) r5 hy
 ·refine .inl ⟨ok.stop i Hs2 H2 sr2.gr.st sr2.gr.sub (by omega),?_⟩
  exact Jc.done (set:=set) (t:=none) (f:=f) (xs:=xs) (Hs1:=Hs1) (H1:=H1) (i:=i) hD ⟨Hs2,env2,ys,vs,sr2,n2,d1,d2,r2,l2,h2⟩ (by omega)
variable {E:XK} {i:Nat} {y:Str} {py spos:Pos}
theorem uh (hcalm:X.calm=true)
  (hclos:closureFor scope X.env=pure cl) (hk:scope.kind=.function) (nc:iK scope.names=true) (lo:kT scope.names=true) (fh:kP cl scope.names=true) (ag:fG X cl) (fr:iP X scope cl fs js)
  (hi:PI X tg iter wi) (hv:By (fun _=>E) wi it) (hg:∀ C s₀ H₀ ex pins,PG (vi X scope cl (ts++fs) C s₀ H₀ ex pins) tg g) (tgv:∀ E,E5 E g set) (so:sN set) (he:∀ C s₀ H₀ ex pins,PE (vi X scope cl (ts++fs) C s₀ H₀ ex pins) elt (tE EF f))
  (hN:X.N.Nodup) (hiy:X.N[i]?=some y) (hy:Loc X.env.scope y)
  (hs:∀ x,foldedSetIterable iter X.env x=pure x:=by intro _;rfl) (hsw:swapsWith (.ListComp elt [⟨tg,iter,[],0⟩] scope pos) (some (.Name y py)) spos.line X.env=pure true:=by rfl)
  (hf:X.fn y=true\/X.env.scope.names.lookup y=some .local:=by first | exact .inl rfl | exact .inr rfl | assumption) :
  PS X (.Assign [.Name y py] (.ListComp elt [⟨tg,iter,[],0⟩] scope pos) spos) (tS E (aY i (eD (dI it set none f ts.length js)))):=by
 refine (Eg hN hiy hy hcalm hclos hk nc lo fh ag fr hi hg he hs hsw hf).imp fun D σ H q=>?_
 refine Bx hv tgv so ?_
 obtain ⟨B,H₀,Hs,env,sr,q⟩:=q
 refine ⟨B,H₀,Hs,env,sr,(av.bind (av.bind q)).imp (fun ps hp vs p Hs' H' g r n=>?_) fun e he=>he.grow sr.gr⟩
 have gn:=bu.new (o:=.lst vs) g.sub n
 exact hp _ _ _ ((sr.grow (g.trans gn)).set (.lst aC (r.mono gn.st)))
end
end L2
namespace L2
open PySem PySem.Spec PyProof.Rows
section
variable {X:Cx} {tg:Expr} {a:Expr} {ta:TA} {p pos:Pos}
end
section
variable {E:St->XK} {X:Cx} {fs:af->M (List PV)} {a tg:Expr} {p p2 pos pos2:Pos}
end
end L2
namespace L2
open PySem PySem.Spec PyProof.Rows
open AutoSeq1 (wpAny_loadPart')
theorem yM (l:Addr) (items:Array Value) (n:Nat) (dct:Option Addr) (sl:Array (Option Value)) :
  Meets (Builtin.«enumerate.__new__» ⟨[.type "enumerate", .ref l],[]⟩) (fun _ R s=>s.heap.get? l=some { cls:=.type "tuple", dict:=dct,data:=.seq items n,slots:=sl } ∧
   R (.ok (.ret (.ref (s.heap.push { cls:=.type "tuple_iterator", data:=.fields #[.ref l,.int 0 0] }).objs.size)))
    { s with heap:=(s.heap.push { cls:=.type "tuple_iterator", data:=.fields #[.ref l,.int 0 0] }).push { cls:=.type "enumerate", data:=.fields #[.none,.bool false,.ref s.heap.objs.size,rawInt 0,.none,.none] } }) :=
 .of_wp fun prog w A R s h=>by
  obtain ⟨hp,g,d,tk,os⟩:=s;obtain ⟨hl,h⟩:=h
  have hsub:=sub_enumerate
  have hL:Heap.IsTuple (Shared.heap ⟨hp,g,d,tk,os⟩) l items:=⟨_,hl,rfl,n,rfl⟩
  wp_walk using wpAny_loadPart' hl
  refine wpAny_stack_any fun st=>wpAny_pure ?_
  split
  ·rename_i c _ _ _ _ _
   cases (c==Value.type "enumerate")
   ·wp_walk using wpAny_loadPart' hl,wpAny_pyIter_tuple hL
    exact ⟨_,rfl,h⟩
   ·wp_walk using wpAny_loadPart' hl,wpAny_pyIter_tuple hL
    exact ⟨_,rfl,h⟩
  ·wp_walk using wpAny_loadPart' hl,wpAny_pyIter_tuple hL
   exact ⟨_,rfl,h⟩
section
variable {prog:Program} {w:World} {A:Around} {E:Value->Shared->Prop} {s:Shared}
theorem xc {l:Addr} {items:Array Value} {Q:Value->Shared->Prop} (hL:s.heap.IsTuple l items)
  (h:∀ h',IsEnum h' (s.heap.objs.size+1) s.heap.objs.size 0 .none->h'.IsTupleIter s.heap.objs.size l 0->h'.objs.size=s.heap.objs.size+2 ->
   (∀ b o,s.heap.get? b=some o->h'.get? b=some o)->Q (.ref (s.heap.objs.size+1)) { s with heap:=h' }) :
  wpAny (model prog w) A (call (.type "enumerate") [.ref l]) Q E s:=by
 obtain ⟨⟨c,dct,dt,sl⟩,hl,hc,n,hd⟩:=hL
 replace hc:c=.type "tuple" := hc
 replace hd:dt=.seq items n:=hd
 subst hc hd
 refine callType_new F.called_enumerate (by decide) (F.typeCall_enumerate_1 _) (F.newCall_enumerate_1 _) (fun obj=>F.args_object_init_2 obj _) F.entry_enumerate_new
  (yM l items n dct sl) ⟨hl,?_⟩
 have hz:(s.heap.push { cls:=.type "tuple_iterator", data:=.fields #[.ref l,.int 0 0] }).objs.size=s.heap.objs.size+1:=Heap.size_push ..
 show _/\_
 rw [hz]
 have he:IsEnum ((s.heap.push { cls:=.type "tuple_iterator", data:=.fields #[.ref l,.int 0 0] }).push
   { cls:=.type "enumerate", data:=.fields #[.none,.bool false,.ref s.heap.objs.size,rawInt 0,.none,.none] }) (s.heap.objs.size+1) s.heap.objs.size 0 .none:=by
  have:=Heap.get?_push_size (s.heap.push { cls:=.type "tuple_iterator", data:=.fields #[.ref l,.int 0 0] })
   (o:={ cls:=.type "enumerate", data:=.fields #[.none,.bool false,.ref s.heap.objs.size,rawInt 0,.none,.none] }) rfl
  rw [hz] at this;exact this
 refine ⟨⟨_,he,rfl⟩,h _ he ⟨_,Heap.get?_push_of_some _ (Heap.get?_push_size _ rfl),rfl,rfl⟩ (by rw [Heap.size_push,hz]) fun b o x=>Heap.get?_push_of_some _ (Heap.get?_push_of_some _ x)⟩
end
theorem H0 {prog:Program} {w:World} {A:Around} (hh:A.handled=none) (it t:Addr) (items:Array Value) :
  Draws prog w A it [it,t] items.size (fun i v=>items[i]?=some v) (fun i h=>h.IsTupleIter it t i/\h.IsTuple t items) where
 live:=fun _ _ st=>let ⟨⟨o,ho,_⟩,_⟩:=st;⟨o,ho⟩
 frame:=fun _ _ _ st hk=>by
  obtain ⟨⟨o,ho,r⟩,⟨o2,ho2,r2⟩⟩:=st
  exact ⟨⟨o,hk it (by simp) o ho,r⟩,⟨o2,hk t (by simp) o2 ho2,r2⟩⟩
 item:=fun i s Q E hi st hQ=>by
  obtain ⟨st,tt⟩:=st
  refine gZ st tt (x:=items[i]) (by simp [hi]) fun h' hit' hs'=>?_
  refine hQ _ h' s.toks (by simp [hi]) ⟨hit',?_⟩ hs'
  obtain ⟨o,ho,c1,_⟩:=st
  obtain ⟨o2,ho2,c2,r2⟩:=tt
  refine ⟨o2,(hs'.2 t fun z=>?_).trans ho2,c2,r2⟩
  rw [z,ho] at ho2;cases ho2
  rw [c1] at c2;exact absurd c2 (by decide)
 done:=fun s Q E st hE=>eQ hh st.1 st.2 (by simp) hE
section
variable {X:Cx}
def Gf (K : PySem.W.Frag) (a : Addr) : It :=
  ⟨fun i H => ∃ xs x, gT K H a xs /\ xs[i]? = some x,
   fun i H y H' => ∃ p x, H p = none /\ y = .ref p /\ H' = upd H p (.tup [.int i, x]) /\ ∀ xs, gT K H a xs -> xs[i]? = some x,
   fun i H => ∃ xs, gT K H a xs /\ xs.length <= i⟩
theorem wD {P:Program} {w:World} {K:PySem.W.Frag} {elts:List Expr} {x1:Nat} {tp:Pos} (a e it:Addr) (hne:e≠it):Turn P w K (.Tuple elts x1 tp) (Gf K a) [e,it] e (fun i h=>(∃ old,IsEnum h e it i old)/\h.IsTupleIter it a i) where
 mem:=by simp
 obj:=fun i h st b hb=>by
  obtain ⟨⟨old,he⟩,⟨o,e1,c,d⟩⟩:=st
  rcases List.mem_cons.mp hb with z | z
  ·subst z
   exact ⟨_,he,fun v z=>by cases z⟩
  ·have z':b=it:=by simpa using z
   subst z'
   exact ⟨o,e1,fun v z=>by rw [d] at z;cases z⟩
 keep:=fun i h h' st k=>by
  obtain ⟨⟨old,he⟩,⟨o,ho,r⟩⟩:=st
  exact ⟨⟨old,k e (by simp) _ he⟩,⟨o,k it (by simp) o ho,r⟩⟩
 item:=by
  intro X hP hw hK hc i pins s σ H E I hf st hg
  subst hP hw hK
  obtain ⟨xs,x,hq,hx⟩:=hg
  obtain ⟨its,rv,p,hz⟩:=I.tuple hq
  obtain ⟨u,hu,ru⟩:=rv.get hx
  obtain ⟨⟨old,he⟩,hit⟩:=st
  have helt:e<s.heap.objs.size:=Heap.lt_size he
  have hilt:it<s.heap.objs.size:=by obtain ⟨_,z,_⟩:=hit;exact Heap.lt_size z
  have hea:e ∉ [it,a]:=fun z=>by
   rcases List.mem_cons.mp z with z | z
   ·exact hne z
   ·obtain ⟨o,ho,c,_⟩:=p
    rw [← List.mem_singleton.mp z,he] at ho
    cases ho;exact absurd (show Value.type "enumerate" = Value.type "tuple" from c) (by decide)
  have hi':i<its.toArray.size:=by
   have:=(List.getElem?_eq_some_iff.mp hu).1
   simpa using this
  refine wpAny_pyNext_enum_itemD (H0 (A:=X.A.in1) (I.ok.hd hc) it a its.toArray) he ⟨hit,p⟩ hi' hne hea fun u' h' tk hu' ho hst hT hsz hk=>⟨_,rfl,?_⟩
  have eu:u'=u:=by
   rw [List.getElem?_toArray,hu] at hu';exact (Option.some.inj hu').symm
  subst eu
  refine wpAny_letOwnedTupleGo_enum (s:={ s with heap:=h',toks:=tk+1 }) ho fun h2 he2 hs2=>?_
  have keep2:∀ b o,b ∉ [e,it]->s.heap.get? b=some o->h2.get? b=some o:=fun b o hb q=>by
   have n1:b≠e:=fun z=>hb (by simp [z])
   have n2:b≠it:=fun z=>hb (by simp [z])
   exact (hs2.2 b n1).trans (hk b o n1 n2 q)
  have hT2:h2.get? s.heap.objs.size=some { cls:=.type "tuple", data:=.seq #[.int i tk,u'] }:=(hs2.2 _ (Nat.ne_of_gt helt)).trans hT
  have I2:Inv X pins σ (upd H s.heap.objs.size (.tup [.int i,x])) { s with heap:=h2,toks:=tk+1 } :=
   I.kK (ch:=[e,it]) keep2 hf (Nat.le_refl _) (fun b hb=>by
    rcases List.mem_cons.mp hb with z | z
    ·subst z;exact ⟨_,he⟩
    ·have z':b=it:=by simpa using z
     subst z'
     obtain ⟨o,z,_⟩:=hit
     exact ⟨o,z⟩)
    ⟨by show 2<=sizeLine;decide,[.int i tk,u'],.cons ⟨_,rfl⟩ (.cons ru .nil),⟨_,hT2,rfl,_,rfl⟩⟩
  have hnew:H s.heap.objs.size=none:=I.a_.fresh (Nat.le_refl _)
  obtain ⟨oi,hoi,ri⟩:=hst.1
  refine ⟨.ref s.heap.objs.size,_,I2,rfl,⟨_,x,hnew,rfl,rfl,fun ys hy=>by rw [I.nA hy hq];exact hx⟩,⟨⟨u',by simpa using he2⟩,⟨oi,(hs2.2 it (Ne.symm hne)).trans hoi,ri⟩⟩,fun b hb=>?_⟩
  have nb:b≠s.heap.objs.size:=by
   rcases List.mem_cons.mp hb with z | z
   ·rw [z];exact Nat.ne_of_lt helt
   ·have z':b=it:=by simpa using z
    rw [z'];exact Nat.ne_of_lt hilt
  rw [ar nb]
  exact (hf b hb).1
 done:=by
  intro X hP hw hK hc i pins s σ H E I hf st hg
  subst hP hw hK
  obtain ⟨xs,hq,hx⟩:=hg
  obtain ⟨its,rv,p,hz⟩:=I.tuple hq
  have hl:=rv.length
  obtain ⟨⟨old,he⟩,hit⟩:=st
  obtain ⟨f0,f1,f2,f3,f4,f5⟩:=hf it (by simp)
  have hT:s.TypeIs (.ref e) "enumerate" := ⟨_,he,rfl⟩
  unfold pyNext
  refine wpAny_bind (wpAny_attempt (wpAny_callSpecial?_slot (name:=Str.ofString "__next__") hT F.slot_enumerate_next
   (wpAny_call_entry F.slot_enumerate_next hT F.entry_enumerate_next ?_ (F.args_enumerate_next_1 _))))
  show wpAny _ _ (field (.ref e) 2 >>= _) _ _ _
  refine wpAny_bind (wpAny_field he rfl (x:=.ref it) rfl ?_)
  refine wpAny_bind (eQ (I.ok.hd hc) hit p (by simp;omega) fun h' x he' hx'=>?_)
  obtain ⟨o,ho,hc'⟩:=hx'
  refine wpAny_bind (wpAny_isInstance (T := "StopIteration") (b:=true) ⟨o,ho,hc'⟩ isSubtype_stop ?_)
  exact wpAny_pure ⟨rfl,I.turned (t':=s.toks) (fun b o hb e=>he' b o hb e) f0 f1 f3 f4 f5⟩
 self:=fun _ _ _ _ _ st h=>by
  obtain ⟨⟨old,he⟩,_⟩:=st
  exact wpAny_pyIter_enum he h
def IZ (K:PySem.W.Frag) (tl:TA):TI:=fun σ H R=>tl σ H fun vs H1=>∃ a,vs=[.ref a]/\(((∃ xs,i4 K H1 a xs)/\R (HS K a) H1)\/((∃ xs,gT K H1 a xs)/\R (Gf K a) H1))
theorem j3 {elts:List Expr} {x1:Nat} {tp:Pos} {l:Expr} {tl:TA} {p pos:Pos} (hg:Gl X "enumerate") (hm:X.mg "enumerate" = none) (hl:PA X [l] tl) (hs:starEach [l] X.env=[(false,eval l X.env)]:=by rfl) :
  PI X (.Tuple elts x1 tp) (.Call (.Name "enumerate" p) [l] [] pos) (IZ X.K tl):=by
 intro pins s σ H R I h
 refine Call_ (i5 I hg hm PyProof.Rows.boot_enumerate (PyProof.Rows.callWith_type1 (bJ (hl pos pins s σ H _ I h) fun us s1 ⟨vs,H1,I1,r1,q1⟩=>?_) hs rfl))
 obtain ⟨a,e,q⟩:=q1
 subst e
 cases r1 with
 | cons r rr =>
  cases rr
  cases (show _=Value.ref a from r)
  have fp:∀ b∈[s1.heap.objs.size+1,s1.heap.objs.size],lQ X pins H1 b:=fun b hb=>by
   rcases List.mem_cons.mp hb with z | z
   ·subst z
    exact I1.tZ (Nat.le_succ _) (I1.a_.fresh (Nat.le_succ _))
   ·have z':b=s1.heap.objs.size:=by simpa using z
    subst z'
    exact I1.tZ (Nat.le_refl _) (I1.a_.fresh (Nat.le_refl _))
  rcases q with ⟨⟨xs,hq⟩,q⟩ | ⟨⟨xs,hq⟩,q⟩
  ·obtain ⟨its,rv,pl,hz⟩:=I1.list hq
   refine call_enumerate_list pl.isList fun h' he hit hsz hk=>?_
   refine wpAny_pyIter_enum (s:={ s1 with heap:=h' }) he ?_
   exact ⟨s1.heap.objs.size+1,[s1.heap.objs.size+1,s1.heap.objs.size],_,_,H1,rfl,I1.kept (t':=s1.toks) hk,zK a _ _ (Nat.succ_ne_self _),⟨⟨_,he⟩,hit⟩,fp,q⟩
  ·obtain ⟨its,rv,pl,hz⟩:=I1.tuple hq
   refine xc pl fun h' he hit hsz hk=>?_
   refine wpAny_pyIter_enum (s:={ s1 with heap:=h' }) he ?_
   exact ⟨s1.heap.objs.size+1,[s1.heap.objs.size+1,s1.heap.objs.size],_,_,H1,rfl,I1.kept (t':=s1.toks) hk,wD a _ _ (Nat.succ_ne_self _),⟨⟨_,he⟩,hit⟩,fp,q⟩
end
def OB (p:PV):M (List PV):=match bS p with
 | some xs=>M.ok (hU xs)
 | none=>none
def zV:List PV->M (List PV)
 | [p]=>OB p
 | _=>none
section
variable {E:St->XK} {K:PySem.W.Frag} {fs:af->M (List PV)}
theorem BY {a:Addr} {Hs1:Hp} {xs:List PV} {vs:List V} (hq:∀ Hs' H',aW Hs1 Hs'->aW Hs' H'->gT K H' a vs) (hr:aG Hs1 xs vs):kC (Gf K a) Hs1 (hU xs) where
 stop:=fun i Hs H s1 s2 hi=>by
  unfold hU at hi
  rw [List.length_mapIdx,hr.length] at hi
  exact ⟨vs,hq Hs H s1 s2,hi⟩
 go:=fun i Hs H s1 s2 hi=>by
  unfold hU at hi
  rw [List.length_mapIdx] at hi
  obtain ⟨v,e,_⟩:=hr.get (List.getElem?_eq_getElem hi)
  exact ⟨vs,v,hq Hs H s1 s2,e⟩
 wy:=fun i Hs H x H2 s1 s2 hi y=>by
  unfold hU at hi
  rw [List.length_mapIdx] at hi
  obtain ⟨v,e,r⟩:=hr.get (List.getElem?_eq_getElem hi)
  obtain ⟨pa,v',hn,rfl,rfl,y1⟩:=y
  have z1:=y1 vs (hq Hs H s1 s2)
  rw [e] at z1;cases z1
  have gr:=bu.new (o:=.tup [.int (i:Nat),v]) s2 hn
  refine ⟨.tup [.int (i:Nat),xs[i]],_,?_,gr,.tup aC (.cons (.int _) (.cons ((r.mono s1).mono gr.st) .nil))⟩
  unfold hU
  rw [List.getElem?_mapIdx,List.getElem?_eq_getElem hi]
  rfl
theorem gY:By E (IZ K (tL E fs)) (jM zV fs):=by
 intro σ H R q
 refine cY (K:=KI R) KI.g q fun B H₀ Hs H1 env ps v sr rp hp=>?_
 match ps,rp,hp with
 | [],_,hp=>exact hp.elim
 | _::_::_,_,hp=>exact hp.elim
 | [p],rp,hp =>
  obtain ⟨w,rfl,rw'⟩:=rp.one
  cases rw' with
  | lst ha hx=>exact ⟨_,rfl,.inl ⟨⟨_,i4.of (sr.gr.sub _ _ ha)⟩,hp _ Hs H1 (.refl sr.gr.sub) (sy (fun Hs' H' s1 s2=>i4.of (s2 _ _ (s1 _ _ ha))) hx)⟩⟩
  | jI ha hx=>exact ⟨_,rfl,.inl ⟨⟨_,.inl (.inr ⟨_,sr.gr.sub _ _ ha⟩)⟩,hp _ Hs H1 (.refl sr.gr.sub) (sy (fun Hs' H' s1 s2=>.inl (.inr ⟨_,s2 _ _ (s1 _ _ ha)⟩)) hx)⟩⟩
  | tup ha hx=>exact ⟨_,rfl,.inr ⟨⟨_,gT.of (sr.gr.sub _ _ ha)⟩,hp _ Hs H1 (.refl sr.gr.sub) (BY (fun Hs' H' s1 s2=>gT.of (s2 _ _ (s1 _ _ ha))) hx)⟩⟩
  | _=>exact hp.elim
end
end L2
namespace L2
open PySem PySem.Spec PyProof.Rows
def PU (E:St->XK) (f:af->M Out):TS:=fun D σ H=>∃ B H₀ Hs env,SR B H₀ Hs H σ env/\av (f env) (KS D B H₀) (XW (E σ) Hs H)
theorem zz {E:St->XK} {f:af->M PV} {g:af->PV->M Out} {D:Ends} {σ:St} {H:Hp} {R:VK} (h:PU E (fun env=>(f env).bind (g env)) D σ H)
  (k:∀ B H₀ Hs H1 env p v,SR B H₀ Hs H1 σ env->Rep Hs p v->av (g env p) (KS D B H₀) (fun _=>True)->R v H1):tE E f σ H R:=by
 obtain ⟨B,H₀,Hs,env,sr,h⟩:=h
 refine ⟨B,H₀,Hs,env,sr,(av.bind h).imp (fun p hp v Hs' H' g r=>?_) fun e he=>he⟩
 exact k B H₀ Hs' H' env p v (sr.grow g) r (hp.imp (fun _ z=>z) fun _ _=>trivial)
section
variable {X:Cx} {E:St->XK} {e:Expr} {pos pos':Pos} {f:af->M PV} {i:Nat} {x:Str}
theorem Er (he:PE X e (tE E f)) (hs:swapsWith e none pos.line X.env=pure false:=by rfl):lZ X [.Expr e pos] (PU E (lx f)):=by
 intro pins s σ H D I q
 exact wm (tj he hs) yw pins s σ H D I (zz q fun B H₀ Hs H1 env p v sr rp hp=>hp σ Hs H1 sr)
end
theorem SR.unset {B H₀ Hs H:Hp} {σ:St} {env:af} {i:Nat} (r:SR B H₀ Hs H σ env):SR B H₀ Hs H (σ.set i none) (env.set i none):=by
 have key:∀ (j:Nat) (q:SV),(env.set i none)[j]?=some (some q)->env[j]?=some (some q)/\i≠j:=fun j q e=>by
  rw [List.getElem?_set] at e
  by_cases z:i=j
  ·rw [if_pos z] at e
   split at e <;> cases e
  ·rw [if_neg z] at e;exact ⟨e,z⟩
 have old:∀ j,i≠j->(σ.set i none)[j]?=σ[j]?:=fun j z=>by rw [List.getElem?_set,if_neg z]
 refine ⟨r.gr,by rw [List.length_set,List.length_set];exact r.len,fun j q e=>?_,fun j xs e=>?_,fun j k xs ys a n e1 e2 e3=>?_,fun j a C fs e=>?_,fun j k a b C D fs gs e1 e2=>?_⟩
 ·obtain ⟨e,z⟩:=key j _ e
  rw [old j z];exact r.sh j q e
 ·obtain ⟨e,z⟩:=key j _ e
  rw [old j z];exact r.ow j xs e
 ·obtain ⟨e1,z1⟩:=key j _ e1
  obtain ⟨e2,z2⟩:=key k _ e2
  rw [old j z1] at e3
  rw [old k z2];exact r.sep j k xs ys a n e1 e2 e3
 ·obtain ⟨e,z⟩:=key j _ e
  rw [old j z];exact r.bd j a C fs e
 ·exact r.one j k a b C D fs gs (key j _ e1).1 (key k _ e2).1
section
variable {X:Cx} {E:St->XK} {e:Expr} {pos pos':Pos} {f:af->M PV} {i:Nat} {x:Str}
end
abbrev Cx.pL (X:Cx) (pn:List (Addr×Obj)):Cx:={ X with pn:=pn }
abbrev Cx.hand (X:Cx) (ea:Addr):Cx:={ X with A:=X.A.mark (some (.ref ea)),calm:=false,xe:=fun _ _=>False }
section
variable {X:Cx} {pins pins':List (Addr×Obj)} {σ:St} {H:Hp} {s:Shared} {ea:Addr}
theorem Cx.Ok.pL (ok:X.Ok) (pn:List (Addr×Obj)):(X.pL pn).Ok:=⟨ok.mod,ok.kind,ok.glob,ok.blt,ok.above,ok.inj,ok.has,ok.Fe,ok.hd,ok.frames,ok.Ht,ok.FJ,ok.bs,ok.Ao,ok.rG,ok.tF,ok.lW,ok.Dl⟩
theorem Cx.Ok.qI {pn:List (Addr×Obj)} (ok:(X.pL pn).Ok):X.Ok:=⟨ok.mod,ok.kind,ok.glob,ok.blt,ok.above,ok.inj,ok.has,ok.Fe,ok.hd,ok.frames,ok.Ht,ok.FJ,ok.bs,ok.Ao,ok.rG,ok.tF,ok.lW,ok.Dl⟩
theorem Cx.Ok.hand (ok:X.Ok) (ea:Addr):(X.hand ea).Ok:=⟨ok.mod,ok.kind,ok.glob,ok.blt,ok.above,ok.inj,ok.has,ok.Fe,(fun z=>nomatch z),ok.frames,ok.Ht,ok.FJ,ok.bs,ok.Ao,ok.rG,ok.tF,ok.lW,ok.Dl⟩
theorem Inv.pL (I:Inv X pins σ H s):Inv (X.pL (X.pn++pins)) [] σ H s:=⟨I.ok.pL _,I.os,I.bare,I.base,I.loc,I.cell,I.free,I.fx,(fun p hp=>I.pin p (by rw [List.append_nil] at hp;exact hp)),I.a_,I.len⟩
theorem Inv.qI (I:Inv (X.pL (X.pn++pins)) pins' σ H s):Inv X pins σ H s:=⟨I.ok.qI,I.os,I.bare,I.base,I.loc,I.cell,I.free,I.fx,(fun p hp=>I.pin p (List.mem_append_left _ hp)),I.a_,I.len⟩
theorem Inv.hand (I:Inv X pins σ H s) (ea:Addr):Inv (X.hand ea) pins σ H s:=⟨I.ok.hand ea,I.os,I.bare,I.base,I.loc,I.cell,I.free,I.fx,I.pin,I.a_,I.len⟩
theorem Inv.ip (I:Inv (X.hand ea) pins σ H s) (ok:X.Ok):Inv X pins σ H s:=⟨ok,I.os,I.bare,I.base,I.loc,I.cell,I.free,I.fx,I.pin,I.a_,I.len⟩
theorem Inv.BA {Hc:Hp} {T C:Addr} {dd:Option Addr} {fl:Value} (I:Inv X pins σ (m_ Hc ea T C dd fl) s) (h1:Hc ea=some (gU C dd ea)) (h2:Hc T=none) (h3:T≠ea):Inv X pins σ Hc s:=by
 have no:∀ b,m_ Hc ea T C dd fl b=none->Hc b=none:=fun b e=>by
  by_cases z:b=ea
  ·rw [z,pI] at e;cases e
  ·by_cases z2:b=T
   ·rw [z2];exact h2
   ·rw [jf z z2] at e;exact e
 have so:∀ b o,m_ Hc ea T C dd fl b=some o->(∀ φ,o≠.ext φ)->Hc b=some o:=fun b o e n=>by
  by_cases z:b=ea
  ·rw [z,pI] at e;cases e;exact absurd rfl (n _)
  ·by_cases z2:b=T
   ·rw [z2,qk h3] at e;cases e;exact absurd rfl (n _)
   ·rw [jf z z2] at e;exact e
 refine ⟨I.ok,I.os,I.bare,⟨I.base.keep,I.base.slot,fun b o e n hx=>no b (I.base.free b o e n hx),I.base.there,fun b xs e=>so b _ (I.base.oJ b xs e) (fun _ z=>nomatch z),fun b o u e=>so b _ (I.base.lh b o u e) (fun _ z=>nomatch z),fun b ps e=>?_⟩,I.loc,I.cell,no _ I.free,fun x c e=>no _ (I.fx x c e),fun p hp=>?_,fun b o e=>?_,I.len⟩
 ·obtain ⟨more,q⟩:=I.base.oI b ps e
  exact ⟨more,so b _ q fun _ z=>nomatch z⟩
 ·obtain ⟨e,n,r⟩:=I.pin p hp
  exact ⟨e,no _ n,r⟩
 ·by_cases z:b=ea
  ·subst z
   rw [h1] at e;cases e
   obtain ⟨vs,_,_,hx,_⟩:=I.yO h3
   exact D5 hx
  ·by_cases z2:b=T
   ·rw [z2,h2] at e;cases e
   ·refine (I.a_ b o (by rw [jf z z2];exact e)).lN (fun _ _ _ q=>q) (fun c q=>so c _ q fun _ z=>nomatch z) fun c xs q=>so c _ q fun _ z=>nomatch z
theorem Inv.gone {A:Around} {E:Value->Shared->Prop} {i:Nat} {n:Str} {pos:Pos} {Q:Unit->Shared->Prop} (I:Inv X pins σ H s) (hN:X.N.Nodup) (hi:X.N[i]?=some n) (hx:X.env.scope.names.lookup n=some .local)
  (h:∀ s',Inv X pins (σ.set i none) H s'->Q () s'):wpAny (model X.prog X.w) A (do bindName X.env n .none;unbindBehindTheSuite X.env n pos) Q E s:=by
 obtain ⟨m,hn,hl⟩:=id I.loc
 have Aw:=I.Aw
 refine wpAny_nameGoes_keeps hx hn (by rw [I.ok.kind];rfl) fun h' v hn' hs=>?_
 obtain ⟨oL,_,_,hoL,_⟩:=id hn
 have tracked:mV X.prog X.w H h':=fun b ob e=>by
  refine (I.a_ b ob e).lN (fun c w' hc q=>(hs.2 c ?_).trans q) (fun _ q=>q) fun _ _ q=>q
  rintro rfl
  rcases hc with z | hc
  ·rw [← z,I.free] at e;cases e
  ·rw [I.free] at hc;cases hc
 refine h _ ⟨I.ok,I.os,I.bare,⟨fun b o e n hb hx=>?_,fun b o e n hb hx=>?_,I.base.free,fun b o e hx=>?_,I.base.oJ,I.base.lh,I.base.oI⟩,⟨_,hn',fun j y v' e1 e2 e3=>?_⟩,fun y c e=>?_,I.free,I.fx,fun p hp=>?_,tracked,by simpa using I.len⟩
 ·exact (hs.2 b (Nat.ne_of_lt (Nat.lt_of_lt_of_le (Heap.lt_size e) I.ok.above))).trans (I.base.keep b o e n hb hx)
 ·obtain ⟨sl,e1⟩:=I.base.slot b o e n hb hx
  exact ⟨sl,(hs.2 b (Nat.ne_of_lt (Nat.lt_of_lt_of_le (Heap.lt_size e) I.ok.above))).trans e1⟩
 ·obtain ⟨o',e1⟩:=I.base.there b o e hx
  exact ⟨o',(hs.2 b (Nat.ne_of_lt (Nat.lt_of_lt_of_le (Heap.lt_size e) I.ok.above))).trans e1⟩
 ·have hj:i≠j:=fun z=>by
   subst z
   rw [List.getElem?_set,if_pos rfl] at e2
   split at e2 <;> cases e2
  rw [List.getElem?_set_ne hj] at e2
  obtain ⟨u',r',q⟩:=hl j y v' e1 e2 e3
  refine ⟨u',r',?_⟩
  rcases q with ⟨k,e⟩ | ⟨k,c,e,z⟩
  ·refine .inl ⟨k,?_⟩
   have:y≠n:=fun e=>hj (qP hN hi (e▸e1))
   simp [this,e]
  ·exact .inr ⟨k,c,e,z.sameBut hs (Aw y c e)⟩
 ·obtain ⟨w',z⟩:=I.cell y c e
  exact ⟨w',z.sameBut hs (Aw y c e)⟩
 ·obtain ⟨e,n,ne,nf,d⟩:=I.pin p hp
  exact ⟨(hs.2 p.1 ne).trans e,n,ne,nf,d⟩
end
abbrev Hd:=(Addr->Option Bool)×Option Nat×(af->M Out)
def uz (i:Nat):Out->Out
 | .nx e=>.nx (e.set i none)
 | .bk e=>.bk (e.set i none)
 | .ct e=>.ct (e.set i none)
 | .rt p=>.rt p
def qy (o:Option Nat) (h:af->M Out) (x:EX) (env:af):M Out:=match o with
 | none=>C7 (h env)
 | some i=>(C7 (h (env.set i (some (.sh (.exc x.1 x.2)))))).bind fun out=>M.ok (uz i out)
def uo (b:Option Bool) (x y:M Out):M Out:=match b with
 | some true=>x
 | some false=>y
 | none=>none
def iS:List Hd->EX->af->M Out
 | [],_,_=>none
 | (t,o,h)::r,x,env=>uo (t x.1) (qy o h x env) (iS r x env)
def xI (r:M Out) (k:EX->M Out):M Out:=match r with
 | some (.error x)=>k x
 | r=>r
def DK (f:af->M Out) (hs:List Hd):af->M Out:=fun env=>xI (f env) fun x=>iS hs x env
inductive E6 (X:Cx) (E:XK):List ExceptHandler->List Hd->Prop where
 | nil:E6 X E [] []
 | J6 {x:Str} {np pos:Pos} {b₀:Stmt} {suite:List Stmt} {rest:List ExceptHandler} {t:Addr->Option Bool} {h:af->M Out} {hs:List Hd} {D:Addr} (hg:Gl X x) (hm:X.mg x=some (.ref D)) (hd:(x==("__debug__" : Str))=false)
   (ht:∀ C b,t C=some b->PySem.W.exmOne X.K (.ref C) (.ref D)=some b) (hb:∀ ea,lZ (X.hand ea) (b₀::suite) (tS E h)) (r:E6 X E rest hs):E6 X E (.ExceptHandler (some (.Name x np)) none (b₀::suite) pos::rest) ((t,none,h)::hs)
 | FA {x n:Str} {i:Nat} {np pos:Pos} {b₀:Stmt} {suite:List Stmt} {rest:List ExceptHandler} {t:Addr->Option Bool} {h:af->M Out} {hs:List Hd} {D:Addr} (hg:Gl X x) (hm:X.mg x=some (.ref D)) (hd:(x==("__debug__" : Str))=false)
   (hN:X.N.Nodup) (hi:X.N[i]?=some n) (hx:X.env.scope.names.lookup n=some .local)
   (ht:∀ C b,t C=some b->PySem.W.exmOne X.K (.ref C) (.ref D)=some b) (hb:∀ ea,lZ (X.hand ea) (b₀::suite) (tS E h)) (r:E6 X E rest hs):E6 X E (.ExceptHandler (some (.Name x np)) (some n) (b₀::suite) pos::rest) ((t,some i,h)::hs)
section
variable {X:Cx} {pins:List (Addr×Obj)} {σ:St} {H Hc B H₀ Hs:Hp} {s:Shared} {ea T C:Addr} {dd:Option Addr} {E:XK} {env:af} {fo:Option (List (Str×PV))} {D:Ends} {Z:EX->Prop} {F:Value->Shared->Prop}
theorem SP.ip {D:Ends} {f:Flow} {s':Shared} (h:SP (X.hand ea) pins D f s') (ok:X.Ok):SP X pins D f s':=by
 cases f with
 | next=>obtain ⟨σ',H',I,q⟩:=h;exact ⟨σ',H',I.ip ok,q⟩
 | brk=>obtain ⟨σ',H',I,q⟩:=h;exact ⟨σ',H',I.ip ok,q⟩
 | cont=>obtain ⟨σ',H',I,q⟩:=h;exact ⟨σ',H',I.ip ok,q⟩
 | ret u=>obtain ⟨v,σ',H',I,r,q⟩:=h;exact ⟨v,σ',H',I.ip ok,r,q⟩
theorem av.err {α:Type} {r:M α} {Q:α->Prop} {E':EX->Prop} (h:av r Q (fun _=>False)):av r Q E':=h.imp (fun _ z=>z) fun _ z=>z.elim
def Ends.gone (D:Ends) (i:Nat):Ends:=⟨fun σ H=>D.nx (σ.set i none) H,D.rt,fun σ H=>D.bk (σ.set i none) H,fun σ H=>D.ct (σ.set i none) H⟩
theorem KS.gone {i:Nat} {o:Out} (h:KS D B H₀ (uz i o)):KS (D.gone i) B H₀ o:=by
 cases o with
 | nx e=>exact fun σ Hs H sr=>h _ Hs H sr.unset
 | bk e=>exact fun σ Hs H sr=>h _ Hs H sr.unset
 | ct e=>exact fun σ Hs H sr=>h _ Hs H sr.unset
 | rt p=>exact h
theorem Cr {M:Model} {o:Obj} (hx:s.heap.get? ea=some o):PySem.W.Looks M s.heap (typeOf (.ref ea)) o.cls:=by
 intro A Q E s' k q
 exact Bz (k _ _ hx) q
theorem E6.run {hls:List ExceptHandler} {hd:List Hd} (hh:E6 X E hls hd):∀ {s:Shared},Inv X pins σ (m_ Hc ea T C dd .none) s->Hc ea=some (gU C dd ea)->Hc T=none->T≠ea->SR B H₀ Hs Hc σ env->Rep Hs (.exc C fo) (.ref ea) ->
  av (iS hd (C,fo) env) (KS D B H₀) Z->wpAny (model X.prog X.w) X.A (handleBy (.ref ea) X.env hls) (SP X pins D) F s:=by
 induction hh with
 | nil=>intro s I h1 h2 h3 sr rp q;exact q.elim
 | @J6 x np pos b₀ suite rest t h hs Dc hg hm hd ht hb r ih =>
  intro s I h1 h2 h3 sr rp q
  obtain ⟨vs,oT,ts,hx,_⟩:=I.yO h3
  refine wpAny_handleBy_cons (codeAny_handlers_test (jj (I.hand ea) hg hm ?_ hd)) (fun q=>nomatch q)
  have LT:=Cr (M:=model X.prog X.w) hx
  cases e:t C with
  | none=>simp only [iS,e,uo] at q;exact q.elim
  | some b =>
   refine (PySem.W.exm_one I.jx LT (ht C b e)).here ?_
   cases b with
   | false =>
    simp only [iS,e,uo] at q
    exact ih I h1 h2 h3 sr rp q
   | true =>
    simp only [iS,e,uo,qy] at q
    refine codeAny_handlers_suite ((I.hand ea).qm (fr:=none) h3 fun h' I2=>?_)
    refine wpAny_mono (hb ea pins _ σ Hc D (I2.BA h1 h2 h3) ⟨B,H₀,Hs,env,sr,(av.C7 q).err⟩) (fun f s' z=>z.ip I.ok) fun _ _ z=>z.elim
 | @FA x n i np pos b₀ suite rest t h hs Dc hg hm hd hN hi hxn ht hb r ih =>
  intro s I h1 h2 h3 sr rp q
  obtain ⟨vs,oT,ts,hx,_⟩:=I.yO h3
  refine wpAny_handleBy_cons (codeAny_handlers_test (jj (I.hand ea) hg hm ?_ hd)) (fun q=>nomatch q)
  have LT:=Cr (M:=model X.prog X.w) hx
  cases e:t C with
  | none=>simp only [iS,e,uo] at q;exact q.elim
  | some b =>
   refine (PySem.W.exm_one I.jx LT (ht C b e)).here ?_
   cases b with
   | false =>
    simp only [iS,e,uo] at q
    exact ih I h1 h2 h3 sr rp q
   | true =>
    simp only [iS,e,uo,qy] at q
    refine codeAny_handlers_suite_as ((I.hand ea).qm (fr:=none) h3 fun h' I2=>?_)
    refine j5 (X:=X.hand ea) (v:=.ref ea) (i:=i) (I2.BA h1 h2 h3) hN hi (.inl hxn) rfl (fun s3 I3=>?_) (.inr hxn)
    refine wpAny_mono (hb ea pins _ _ Hc (D.gone i) I3 ⟨B,H₀,Hs,_,sr.set rp,(av.C7 (E:=Z) ?_).err⟩) (fun f s' z=>?_) fun _ _ z=>z.elim
    ·exact (av.bind q).imp (fun o z=>KS.gone z) fun _ z=>z
    ·cases f with
     | next=>obtain ⟨σ',H',I4,d⟩:=z;exact (I4.ip I.ok).gone hN hi hxn fun s5 I5=>⟨_,H',I5,d⟩
     | brk=>obtain ⟨σ',H',I4,d⟩:=z;exact (I4.ip I.ok).gone hN hi hxn fun s5 I5=>⟨_,H',I5,d⟩
     | cont=>obtain ⟨σ',H',I4,d⟩:=z;exact (I4.ip I.ok).gone hN hi hxn fun s5 I5=>⟨_,H',I5,d⟩
     | ret u=>obtain ⟨v,σ',H',I4,rv,d⟩:=z;exact (I4.ip I.ok).gone hN hi hxn fun s5 I5=>⟨v,_,H',I5,rv,d⟩
theorem HQ {body:List Stmt} {h₀:ExceptHandler} {hls:List ExceptHandler} {pos:Pos} {f:af->M Out} {hd:List Hd} (hst:X.stack=X.env::X.outer) (hf:X.env.frame=some X.env.locals)
  (hb:∀ (pn:List (Addr×Obj)) (E2:St->XK),eU ((X.pL pn).out E2) E2->lZ ((X.pL pn).out E2) body (PU E2 f)) (hh:E6 X E (h₀::hls) hd):PS X (.Try body (h₀::hls) [] [] pos) (tS E (DK f hd)):=by
 intro pins s σ H D I q
 obtain ⟨B,H₀,Hs,env,sr,q⟩:=q
 refine wpAny_Try_except ?_
 let E2:St->XK:=fun σ v _ Hc=>∃ Hs C fo ea,v=.ref ea/\SR B H₀ Hs Hc σ env/\Rep Hs (.exc C fo) (.ref ea)/\av (iS hd (C,fo) env) (KS D B H₀) (XW E B H₀)
 have q1:av (f env) (KS D B H₀) (XW (E2 σ) Hs H):=by
  unfold DK at q
  cases e:f env with
  | none=>rw [e] at q;exact q
  | some r =>
   rw [e] at q
   cases r with
   | ok o=>exact q
   | error x=>exact fun ea Hs' H' g rp=>⟨Hs',x.1,x.2,ea,rfl,sr.grow g,rp,q⟩
 refine wpAny_mono (hb (X.pn++pins) E2 (Bk hst hf) [] s σ H D (I.pL.pR _) ⟨B,H₀,Hs,env,sr,q1⟩) (fun fl s1 hq=>?_) (fun e s1 z=>?_)
 ·cases fl with
  | next=>obtain ⟨σ',H',I',d⟩:=hq;exact wpAny_execs_nil ⟨σ',H',I'.eB.qI,d⟩
  | brk=>obtain ⟨σ',H',I',d⟩:=hq;exact ⟨σ',H',I'.eB.qI,d⟩
  | cont=>obtain ⟨σ',H',I',d⟩:=hq;exact ⟨σ',H',I'.eB.qI,d⟩
  | ret u=>obtain ⟨v,σ',H',I',r,d⟩:=hq;exact ⟨v,σ',H',I'.eB.qI,r,d⟩
 ·refine Zx.note (X:=X.pL (X.pn++pins)) z hst hf fun s' ea C dd pins' σ' Hc T he I2 h1 h2 h3 h4=>?_
  subst he
  refine I2.qm (fr:=none) h3 fun h' I3=>?_
  obtain ⟨Hs',C',fo,ea',ee,sr',rp,hp⟩:=h4
  cases ee
  have I4:=I3.BA h1 h2 h3
  have eC:C'=C:=by
   obtain ⟨vs,hx⟩:=I4.qi h1
   cases rp with
   | wU hr =>
    obtain ⟨vs2,hx2⟩:=I4.qi (sr'.gr.sub _ _ hr)
    rw [hx] at hx2;injection hx2 with hx2;injection hx2 with hx2;injection hx2 with hx2;exact hx2.symm
   | v7 hr _ _ =>
    obtain ⟨vs2,hx2⟩:=I4.qi (sr'.gr.sub _ _ hr)
    rw [hx] at hx2;injection hx2 with hx2;injection hx2 with hx2;injection hx2 with hx2;exact hx2.symm
  subst eC
  exact hh.run I3.qI h1 h2 h3 sr' rp hp
end
end L2
namespace L2
open PySem PySem.Spec PyProof.Rows
def Iy (ys ns:List Addr) (C:Addr):Option Bool:=if ys.contains C=true then some true else if ns.contains C=true then some false else none
theorem Bq {ys ns:List Addr} {C:Addr} {b:Bool} (h:Iy ys ns C=some b):(b=true/\C∈ys)\/(b=false/\C∈ns):=by
 unfold Iy at h
 by_cases h1:ys.contains C=true
 ·rw [if_pos h1] at h;cases h;exact .inl ⟨rfl,by simpa using h1⟩
 ·rw [if_neg h1] at h
  by_cases h2:ns.contains C=true
  ·rw [if_pos h2] at h;cases h;exact .inr ⟨rfl,by simpa using h2⟩
  ·rw [if_neg h2] at h;cases h
def Kj (f:Addr->Option Bool) (ys ns:List Addr):Bool:=ys.all (fun C=>f C==some true)&&ns.all fun C=>f C==some false
theorem Iu {f:Addr->Option Bool} {ys ns:List Addr} (h:Kj f ys ns=true) {C:Addr} {b:Bool} (e:Iy ys ns C=some b):f C=some b:=by
 unfold Kj at h
 rw [Bool.and_eq_true,List.all_eq_true,List.all_eq_true] at h
 rcases Bq e with ⟨rfl,m⟩ | ⟨rfl,m⟩
 ·exact eq_of_beq (h.1 C m)
 ·exact eq_of_beq (h.2 C m)
structure OD (K:PySem.W.Frag) (mg:Str->Option Value) (x:Str) (D:Addr) (ys ns:List Addr):Prop where
 mg:mg x=some (.ref D)
 ok:∀ C b,Iy ys ns C=some b->PySem.W.exmOne K (.ref C) (.ref D)=some b
theorem OD.of {K:PySem.W.Frag} {mg:Str->Option Value} {x:Str} {D:Addr} {ys ns:List Addr} (h1:mg x=some (.ref D)) (h2:Kj (fun C=>PySem.W.exmOne K (.ref C) (.ref D)) ys ns=true):OD K mg x D ys ns:=⟨h1,fun _ _ e=>Iu h2 e⟩
theorem LN {α:Type} {p:α->Prop}:∀ x∈([]:List α),p x:=fun _ h=>nomatch h
theorem Rf {α:Type} {p:α->Prop} {a:α} {l:List α} (h:p a) (r:∀ x∈l,p x):∀ x∈a::l,p x:=fun x m=>by
 rcases List.mem_cons.mp m with rfl | m
 ·exact h
 ·exact r x m
section
variable {X:Cx} {E:St->XK} {e:Expr} {pos p px pt:Pos} {f:af->M PV} {x:Str} {D:Addr} {ys ns yo no:List Addr}
end
end L2
namespace L2
open PySem PySem.Spec PyProof.Rows
section
variable {X:Cx} {E:St->XK} {e o:Expr} {pos apos cpos:Pos} {f g:af->M PV}
end
end L2
namespace L2
open PySem PySem.Spec PyProof.Rows _root_.HT
section
variable {prog:Program} {w:World} {A:Around} {E:Value->Shared->Prop} {s:Shared}
theorem mr {t sl:Addr} {items:Array Value} {vl vu:Value} {lo hi:Option Int} {Q:Value->Shared->Prop} (ht:IsTup s.heap t items) (hs:s.heap.IsSliceOf sl vl vu .none) (pl:IsPart vl lo) (pu:IsPart vu hi)
  (hw:c_ items.size 0 lo=0/\c_ items.size items.size hi=items.size) (h:Q (.ref t) s):wpAny (model prog w) A (getItem (.ref t) (.ref sl)) Q E s:=by
 obtain ⟨os,hos,hcs,hds⟩:=id hs
 have hTs:s.TypeIs (.ref sl) "slice" := ⟨os,hos,hcs⟩
 unfold getItem
 try with_reducible refine wpAny_holding ?_
 first | refine wpAny_bind (wpAny_pure ?_) | skip
 refine wpAny_bind (wpAny_sequenceKey ht.typeIs (by decide) ?_)
 refine wpAny_bind (wpAny_callSpecial?_slot (name:=Str.ofString "__getitem__") ht.typeIs PyProof.Rows.slot_tuple_getitem
  (wpAny_call_entry PyProof.Rows.slot_tuple_getitem ht.typeIs entry_tuple_getitem ?_ (args_tuple_getitem _ _)))
 show wpAny _ _ (Builtin.Tuple.tupleItemsOf (.ref t) >>= _) _ _ s
 refine wpAny_bind (tupleItemsOf_ ht ?_)
 refine wpAny_bind (wpAny_typeOf hTs ?_)
 rw [if_pos (by decide)]
 refine wpAny_bind (iU hs pl pu ?_)
 have hyes:(((c_ items.size 0 lo:Nat):Int)==0&&(1:Int)==1&&(c_ items.size items.size hi-c_ items.size 0 lo)==items.size)=true:=by
  rw [hw.1,hw.2];simp
 show wpAny _ _ (if (((c_ items.size 0 lo:Nat):Int)==0&&(1:Int)==1&&(c_ items.size items.size hi-c_ items.size 0 lo)==items.size)=true then _ else _) _ _ s
 rw [if_pos hyes]
 unfold Builtin.Tuple.tupleIsExact
 refine wpAny_bind (wpAny_bind (wpAny_typeOf ht.typeIs (wpAny_pure ?_)))
 rw [if_pos (show ((Value.type "tuple" == Value.type "tuple")=true) from beq_self_eq_true _)]
 refine wpAny_bind (wpAny_rule ?_)
 first
  | exact wpAny_bind (wpAny_pure (wpAny_pure ⟨_,rfl,wpAny_pure h⟩))
  | exact wpAny_bind (wpAny_pure ⟨_,rfl,wpAny_pure h⟩)
  | exact wpAny_pure ⟨_,rfl,wpAny_pure h⟩
end
section
variable {X:Cx} {E:St->XK} {e:Expr} {lo hi:Option Expr} {pos p2:Pos} {f:af->M PV} {gl gh:af->M (Option Int)}
def KD (K:PySem.W.Frag):V->Option Int->Option Int->Hp->VK->Prop:=fun x lo hi H Q=>∃ a xs,x=.ref a/\gT K H a xs/\(c_ xs.length 0 lo=0/\c_ xs.length xs.length hi=xs.length)/\Q (.ref a) H
theorem El:Di X (KD X.K):=by
 intro pins s σ H x v vl vu lo hi sl Q I rx hs pl pu h
 obtain ⟨a,xs,rfl,hx,hw,q⟩:=h
 cases rx
 obtain ⟨its,r,ht,hz⟩:=I.tuple hx
 have hlen:its.toArray.size=xs.length:=by rw [List.size_toArray];exact r.length.symm
 refine ⟨"tuple", _,PyProof.Rows.slot_tuple_getitem.lookup,ht.typeIs,?_⟩
 exact mr ht hs pl pu (by rw [hlen];exact hw) ⟨.ref a,H,I,rfl,q⟩
def Kn (p:PV) (lo hi:Option Int):M PV:=match p with
 | .tup xs=>M.ok (.tup (rm xs lo hi))
 | .lst xs=>M.ok (.lst (rm xs lo hi))
 | .jI xs=>M.ok (.lst (rm xs lo hi))
 | _=>none
def wK (f:af->M PV) (lo hi:af->M (Option Int)):af->M PV:=fun env=>(f env).bind fun p=>(lo env).bind fun l=>(hi env).bind fun h=>Kn p l h
theorem yX (he:PE X e (tE E f)) (hl:PO X lo (Ma E gl)) (hh:PO X hi (Ma E gh)):PE X (.Subscript e (.Slice lo hi none p2) pos) (tE E (wK f gl gh)):=by
 refine (Dh (Di.or GA (Di.or El D6)) he hl hh).imp fun σ H Q q=>bL (K:=kv Q) kv.g q fun B H₀ Hs H1 env p v sr rp hp=>?_
 refine ⟨B,H₀,Hs,env,sr,(av.bind hp).imp (fun l hl Hs2 H2 g2=>?_) fun e he=>he⟩
 have sr2:=sr.grow g2
 refine ⟨B,H₀,Hs2,env,sr2,(av.bind hl).imp (fun h hh Hs3 H3 g3=>?_) fun e he=>he.grow g2⟩
 have sr3:=sr2.grow g3
 have hz:av (Kn p l h) (er Hs3 H3 Q) (fun _=>True):=hh.imp (fun z hz w Hs4 H4 g4 r=>hz w Hs4 H4 ((g2.trans g3).trans g4) r) fun _ _=>trivial
 have rp3:=(rp.mono g2.st).mono g3.st
 cases rp3 with
 | @tup a xs vs ha hx =>
  by_cases hn:c_ xs.length 0 l=0/\c_ xs.length xs.length h=xs.length
  ·refine .inr (.inl ⟨_,_,rfl,gT.of (sr3.gr.sub _ _ ha),by rw [← hx.length];exact hn,?_⟩)
   have e:rm xs l h=xs:=by
    unfold rm;rw [hn.1,hn.2,List.drop_zero,Nat.sub_zero,List.take_length]
   have hz':er Hs3 H3 Q (.tup xs):=by
    have z:er Hs3 H3 Q (.tup (rm xs l h)):=hz
    rw [e] at z;exact z
   exact er.flat hz' sr3.gr.sub (.tup ha hx)
  ·exact .inl ⟨_,_,rfl,gT.of (sr3.gr.sub _ _ ha),by rw [← hx.length];exact hn,er.tup hz sr3.gr.sub (hx.cut l h)⟩
 | lst ha hx=>exact .inr (.inr ⟨_,_,rfl,i4.of (sr3.gr.sub _ _ ha),er.lst hz sr3.gr.sub (hx.cut l h)⟩)
 | jI ha hx=>exact .inr (.inr ⟨_,_,rfl,.inl (.inr ⟨_,sr3.gr.sub _ _ ha⟩),er.lst hz sr3.gr.sub (hx.cut l h)⟩)
 | _=>exact hz.elim
end
end L2
namespace L2
open PySem PySem.Spec PyProof.Rows
def QE (ys:List Addr) (f:Str):PV->M PV
 | .exc C (some fs)=>cC (ys.contains C=true) (eS (fs.lookup f))
 | _=>none
def MK (ys:List Addr) (f:Str) (g:af->M PV):af->M PV:=fun env=>(g env).bind (QE ys f)
theorem Je {X:Cx} {E:St->XK} {e:Expr} {pos:Pos} {g:af->M PV} {ys:List Addr} {f:Str} (he:PE X e (tE E g)) (hy:∀ C∈ys,gG X.K C/\bp X.K C f) (hb:attributeBase e f X.env (eval e X.env)=eval e X.env):PE X (.Attribute e f pos) (tE E (MK ys f g)):=by
 refine (Dy he hb).imp fun σ H Q q=>bL (K:=kv Q) kv.g q fun B H₀ Hs H1 env p v sr rp hp=>?_
 cases p with
 | exc C fo =>
  cases fo with
  | none=>exact hp.elim
  | some fs =>
   obtain ⟨m,hp⟩:=av.cC hp
   obtain ⟨x,ex,hp⟩:=av.opt hp
   have m':C∈ys:=by simpa using m
   cases rp with
   | @v7 a _ d _ vs h1 h2 h3 =>
    obtain ⟨u,h4,h5⟩:=h3.look ex
    exact ⟨a,C,vs,u,rfl,⟨d,sr.gr.sub _ _ h1,sr.gr.sub _ _ h2⟩,(hy C m').1,(hy C m').2,h4,er.flat hp sr.gr.sub h5⟩
 | _=>exact hp.elim
end L2
namespace L2
open PySem PySem.Spec PyProof.Rows
open PySem.SeqAt (shaped noMix noMixAll)
section
variable {α β:Type}
theorem M.aM (a:α) (f:α->M β):M.bind (M.ok a) f=f a:=Eq.trans rfl rfl
theorem M.CC (e:EX) (f:α->M β):M.bind (some (Except.error e)) f=some (.error e):=Eq.trans rfl rfl
theorem M.bind_none (f:α->M β):M.bind none f=none:=Eq.trans rfl rfl
theorem M.bind_some (a:α) (f:α->M β):M.bind (some (Except.ok a)) f=f a:=Eq.trans rfl rfl
theorem M.bind_assoc {γ:Type} (x:M α) (f:α->M β) (g:β->M γ):M.bind (M.bind x f) g=M.bind x fun a=>M.bind (f a) g:=by
 cases x with
 | none=>rfl
 | some x=>cases x <;> rfl
theorem ax {c:Prop} [Decidable c] {x:M α} (h:c):cC c x=x:=if_pos h
theorem FY (a:α):C7 (M.ok a)=M.ok a:=Eq.trans rfl rfl
end
theorem zA (x:PV):eS (some x)=M.ok x:=Eq.trans rfl rfl
theorem vL (g:af->M Out) (env:af):AF g (.nx env)=g env:=Eq.trans rfl rfl
theorem uM (g:af->M Out) (p:PV):AF g (.rt p)=M.ok (.rt p):=Eq.trans rfl rfl
theorem EZ (b:Bool):xy (.bl b)=M.ok b:=Eq.trans rfl rfl
theorem DG (p:PV):FW (.rt p)=M.ok p:=Eq.trans rfl rfl
theorem DX (e:af):FW (.nx e)=M.ok .cS:=Eq.trans rfl rfl
def tI (xs:List Int):PV:=.tup (xs.map PV.int)
def lI (xs:List Int):PV:=.lst (xs.map PV.int)
theorem Eh (xs:List Int):bS (tI xs)=some (xs.map PV.int):=Eq.trans rfl rfl
theorem Es (xs:List Int):bS (lI xs)=some (xs.map PV.int):=Eq.trans rfl rfl
theorem Ck (xs:List PV):bS (.tup xs)=some xs:=Eq.trans rfl rfl
theorem vM (xs:List PV):bS (.lst xs)=some xs:=Eq.trans rfl rfl
theorem CQ (xs:List PV):bS (.jI xs)=some xs:=Eq.trans rfl rfl
theorem Ep (xs:List Int):uZ (tI xs)=M.ok (.int xs.length):=by simp [uZ,tI,bS,eS]
theorem EN (xs:List Int):uZ (lI xs)=M.ok (.int xs.length):=by simp [uZ,lI,bS,eS]
theorem AK (xs:List PV):uZ (.tup xs)=M.ok (.int xs.length):=Eq.trans rfl rfl
theorem B_ (xs:List PV):uZ (.lst xs)=M.ok (.int xs.length):=Eq.trans rfl rfl
theorem As (xs:List PV):uZ (.jI xs)=M.ok (.int xs.length):=Eq.trans rfl rfl
theorem Bb (xs:List Int):z_ [.lst (xs.map PV.int)]=M.ok (.int xs.sum):=by simp [z_,IY,sR,eS]
theorem vA (xs:List Bool):uU [.lst (xs.map PV.bl)]=M.ok (.bl (xs.all id)):=by simp [uU,all1,vd,eS]
theorem lU {α:Type} {f:af->M PV} {inj h:α->PV} {rest:af} {x0:Option SV} (xs:List α) (H:∀ a∈xs,f (some (.sh (inj a))::rest)=M.ok (h a)):cB (cU 0) none f (xs.map inj) (x0::rest)=M.ok (xs.map h):=by
 induction xs generalizing x0 with
 | nil=>rfl
 | cons a r ih =>
  rw [List.map_cons,cB]
  show M.bind (M.ok ((x0::rest).set 0 (some (.sh (inj a))))) _=_
  rw [M.aM,List.set_cons_zero]
  show M.bind (f _) _=_
  rw [H a List.mem_cons_self,M.aM,ih fun b hb=>H b (List.mem_cons_of_mem _ hb)]
  rfl
theorem j_ {α:Type} {f:af->M PV} {p q h:α->PV} {rest:af} {x0 x1:Option SV} (xs:List α) (H:∀ a∈xs,f (some (.sh (p a))::some (.sh (q a))::rest)=M.ok (h a)):cB (bC 0 1) none f (xs.map fun a=>.tup [p a,q a]) (x0::x1::rest)=M.ok (xs.map h):=by
 induction xs generalizing x0 x1 with
 | nil=>rfl
 | cons a r ih =>
  rw [List.map_cons,cB]
  show M.bind (M.ok (((x0::x1::rest).set 0 (some (.sh (p a)))).set 1 (some (.sh (q a))))) _=_
  rw [M.aM,List.set_cons_zero,List.set_cons_succ,List.set_cons_zero]
  show M.bind (f _) _=_
  rw [H a List.mem_cons_self,M.aM,ih fun b hb=>H b (List.mem_cons_of_mem _ hb)]
  rfl
theorem Ir {α:Type} {f:af->M PV} {p q s h:α->PV} {rest:af} {x0 x1 x2:Option SV} (xs:List α) (H:∀ a∈xs,f (some (.sh (p a))::some (.sh (q a))::some (.sh (s a))::rest)=M.ok (h a)):cB (n9 0 1 2) none f (xs.map fun a=>.tup [p a,q a,s a]) (x0::x1::x2::rest)=M.ok (xs.map h):=by
 induction xs generalizing x0 x1 x2 with
 | nil=>rfl
 | cons a r ih =>
  rw [List.map_cons,cB]
  show M.bind (M.ok ((((x0::x1::x2::rest).set 0 (some (.sh (p a)))).set 1 (some (.sh (q a)))).set 2 (some (.sh (s a))))) _=_
  rw [M.aM,List.set_cons_zero,List.set_cons_succ,List.set_cons_zero,List.set_cons_succ,List.set_cons_succ,List.set_cons_zero]
  show M.bind (f _) _=_
  rw [H a List.mem_cons_self,M.aM,ih fun b hb=>H b (List.mem_cons_of_mem _ hb)]
  rfl
theorem fy {α β:Type} {f:α->PV} {g:β->PV} {p q:PV} (xs:List α) (ys:List β) (hp:bS p=some (xs.map f)) (hq:bS q=some (ys.map g)):zip2 [p,q]=M.ok ((xs.zip ys).map fun z=>.tup [f z.1,g z.2]):=by
 simp only [zip2,hp,hq]
 congr 2
 rw [List.zipWith_map,List.zip_eq_zipWith,List.map_zipWith]
theorem vz {α β γ:Type} {f:α->PV} {g:β->PV} {h:γ->PV} {p q r:PV} (xs:List α) (ys:List β) (zs:List γ) (hp:bS p=some (xs.map f)) (hq:bS q=some (ys.map g)) (hr:bS r=some (zs.map h)):xi [p,q,r]=M.ok ((xs.zip (ys.zip zs)).map fun z=>.tup [f z.1,g z.2.1,h z.2.2]):=by
 simp only [xi,hp,hq,hr]
 congr 2
 clear hp hq hr
 induction xs generalizing ys zs with
 | nil=>cases ys <;> cases zs <;> rfl
 | cons a r ih =>
  cases ys with
  | nil=>rfl
  | cons b s =>
   cases zs with
   | nil=>rfl
   | cons c t=>simp only [List.map_cons,jy,List.zip_cons_cons,ih]
theorem Ag {α:Type} {f:α->PV} (xs:List α):hU (xs.map f)=(xs.zipIdx).map fun z=>.tup [.int (z.2:Int),f z.1]:=by
 unfold hU
 rw [List.mapIdx_eq_zipIdx_map,List.zipIdx_map,List.map_map]
 rfl
theorem pj {set:PV->af->M af} {body:af->M Out} {α:Type} {inj:α->PV} (J:List α->af->Prop)
  (H:∀ a r env,J (a::r) env->∃ e' env',set (inj a) env=M.ok e'/\body e'=M.ok (.nx env')/\J r env'):∀ (xs:List α) (env:af),J xs env->∃ env',ju set body (xs.map inj) env=M.ok (.nx env')/\J [] env'
 | [],env,h=>⟨env,rfl,h⟩
 | a::r,env,h=>by
  obtain ⟨e',env',h1,h2,h3⟩:=H a r env h
  obtain ⟨env'',h4,h5⟩:=pj J H r env' h3
  refine ⟨env'',?_,h5⟩
  rw [List.map_cons,ju,h1,M.aM,h2,M.aM]
  exact h4
theorem sF {u:af->M Bool} {b:af->M Out} (J:af->Prop) (m:af->Nat)
  (H:∀ env,J env->(u env=M.ok false)\/(u env=M.ok true/\∃ env',b env=M.ok (.nx env')/\J env'/\m env'<m env)) (env:af) (h:J env):∃ env',l4 u b env=M.ok (.nx env')/\J env'/\u env'=M.ok false:=by
 have key:∀ (n:Nat) (env:af),J env->m env<n->∃ env',cx u b n env=M.ok (.nx env')/\J env'/\u env'=M.ok false:=by
  intro n
  induction n with
  | zero=>intro env _ hn;omega
  | succ n ih =>
   intro env h hn
   rcases H env h with hu | ⟨hu,env',hb,hj,hm⟩
   ·exact ⟨env,by rw [cx,hu,M.aM];rfl,h,hu⟩
   ·obtain ⟨env'',h1,h2,h3⟩:=ih env' hj (by omega)
    exact ⟨env'',by rw [cx,hu,M.aM,if_pos rfl,hb,M.aM];exact h1,h2,h3⟩
 obtain ⟨env',h1,h2,h3⟩:=key (m env+1) env h (Nat.lt_succ_self _)
 refine ⟨env',?_,h2,h3⟩
 rw [zc (n:=m env+1) (by rw [h1];exact fun z=>nomatch z),h1]
theorem log2_small {i:Int} {k:Nat} (h:i.natAbs<2^k) (hk:k<=9000):i.natAbs.log2<67108864:=by
 by_cases z:i.natAbs=0
 ·rw [z];decide
 ·have:=(Nat.log2_lt z).mpr h
  omega
theorem aZ {i j:Int} {k l:Nat} (hi:i.natAbs<2^k) (hj:j.natAbs<2^l) (hk:k<=9000:=by decide) (hl:l<=9000:=by decide):cD (.int i) (.int j)=M.ok (.int (i*j)):=by
 rw [cD,ax ⟨log2_small hi hk,log2_small hj hl⟩]
theorem nr {i j:Int} (h0:j≠0) (h:j.natAbs<2^9000):bo (.int i) (.int j)=M.ok (.int (i.fdiv j)):=by
 show cC _ _=_
 refine ax (decide_eq_true ⟨h0,(Nat.log2_lt (by omega)).mpr h⟩)
theorem CF {i j:Int} (h0:j≠0):cR (.int i) (.int j)=M.ok (.int (i.fmod j)):=by
 show cC _ _=_
 exact ax (decide_eq_true h0)
theorem aH {i j:Int} (h0:0<j) (h:j<2^64):bo (.int i) (.int j)=M.ok (.int (i/j)):=by
 rw [nr (by omega) (Nat.lt_of_lt_of_le (show j.natAbs<2^64 by omega) (Nat.pow_le_pow_right (by decide) (by decide))),Int.fdiv_eq_ediv_of_nonneg _ (by omega)]
theorem aI {i j:Int} (h0:0<j):cR (.int i) (.int j)=M.ok (.int (i%j)):=by
 rw [CF (by omega),Int.fmod_eq_emod_of_nonneg _ (by omega)]
theorem bF {xs:List PV} {p:PV} {j:Nat} {x:PV} (hs:bS p=some xs) (h:xs[j]?=some x):aJ p (.int (j:Int))=M.ok x:=by
 cases p with
 | tup ys=>cases hs;simp only [aJ,t6 h,eS]
 | lst ys=>cases hs;simp only [aJ,t6 h,eS]
 | jI ys=>cases hs;simp only [aJ,t6 h,eS]
 | _=>cases hs
section
variable {b:String->Bool} {ob oe:Addr->Option Bool}
theorem HZ (xs:List Int):Al b ob oe (tI xs)=M.ok (.bl (b "tuple")):=Eq.trans rfl rfl
theorem He (xs:List Int):Al b ob oe (lI xs)=M.ok (.bl (b "list")):=Eq.trans rfl rfl
theorem yE (xs:List PV):Al b ob oe (.tup xs)=M.ok (.bl (b "tuple")):=Eq.trans rfl rfl
theorem EE (xs:List PV):Al b ob oe (.lst xs)=M.ok (.bl (b "list")):=Eq.trans rfl rfl
theorem yA (i:Int):Al b ob oe (.int i)=M.ok (.bl (b "int")):=Eq.trans rfl rfl
theorem Cq (i:Bool):Al b ob oe (.bl i)=M.ok (.bl (b "bool")):=Eq.trans rfl rfl
theorem ya:Al b ob oe .cS=M.ok (.bl (b "NoneType")):=Eq.trans rfl rfl
theorem yg (x:Str):Al b ob oe (.str x)=M.ok (.bl (b "str")):=Eq.trans rfl rfl
theorem EK:Al b ob oe .emp=M.ok (.bl (b "dict")):=Eq.trans rfl rfl
end
theorem EV (i j:Int):l7 (.int i) (.int j)=M.ok (.bl (!decide (i=j))):=by
 simp only [l7,mT,dat,Dm,shaped,PyData.canLay0,PyData.depth,noMix]
 rw [ax ⟨rfl,rfl,trivial⟩]
 unfold same
 rw [M.aM];congr
theorem EC (i j:Int):sM (.int i) (.int j)=M.ok (.bl (decide (i=j))):=by
 simp only [sM,mT,dat,Dm,shaped,PyData.canLay0,PyData.depth,noMix]
 rw [ax ⟨rfl,rfl,trivial⟩]
 unfold same
 rw [M.aM];congr
theorem Gp (i j:Bool):l7 (.bl i) (.bl j)=M.ok (.bl (!decide (i=j))):=by
 simp only [l7,mT,dat,Dm,shaped,PyData.canLay0,PyData.depth,noMix]
 rw [ax ⟨rfl,rfl,trivial⟩]
 unfold same
 rw [M.aM];congr
theorem Ic (i j:Bool):sM (.bl i) (.bl j)=M.ok (.bl (decide (i=j))):=by
 simp only [sM,mT,dat,Dm,shaped,PyData.canLay0,PyData.depth,noMix]
 rw [ax ⟨rfl,rfl,trivial⟩]
 unfold same
 rw [M.aM];congr
theorem yU (xs:List Int):lM (xs.map PV.int)=some (xs.map PyData.int):=by
 induction xs with
 | nil=>rfl
 | cons a r ih=>simp [lM,dat,ih]
theorem uT (xs:List Int):PyData.canLayAll0 (xs.map PyData.int)=true:=by
 induction xs with
 | nil=>rfl
 | cons a r ih=>simp [PyData.canLayAll0,PyData.canLay0,ih]
theorem xk (xs:List Int):PyData.depthAll (xs.map PyData.int)=0:=by
 induction xs with
 | nil=>rfl
 | cons a r ih=>simp [PyData.depthAll,PyData.depth,ih]
theorem noMix_ints:∀ (xs ys:List Int),noMixAll (xs.map PyData.int) (ys.map PyData.int)=true
 | [],[]=>by simp [noMixAll]
 | [],_::_=>by simp [noMixAll]
 | _::_,[]=>by simp [noMixAll]
 | a::r,b::s=>by simp [noMixAll,noMix,noMix_ints r s]
theorem same_ints:∀ (xs ys:List Int),sameAll (xs.map PyData.int) (ys.map PyData.int)=decide (xs=ys)
 | [],[]=>by simp [sameAll]
 | [],_::_=>by simp [sameAll]
 | _::_,[]=>by simp [sameAll]
 | a::r,b::s=>by
  simp only [List.map_cons,sameAll,same_ints r s]
  unfold same
  rw [Bool.eq_iff_iff];simp
theorem EU (i j:Int):CO (.int i) (.int j)=M.ok (.bl (decide (i<j))):=Eq.trans rfl rfl
theorem Ey (i j:Int):Dk (.int i) (.int j)=M.ok (.bl (decide (i<=j))):=Eq.trans rfl rfl
theorem Eb (i j:Int):Fq (.int i) (.int j)=M.ok (.bl (decide (j<i))):=Eq.trans rfl rfl
theorem Dt (i j:Int):IB (.int i) (.int j)=M.ok (.bl (decide (j<=i))):=Eq.trans rfl rfl
theorem Bg (i j:Int):fT (.int i) (.int j)=M.ok (.int (i+j)):=Eq.trans rfl rfl
theorem Cj (i j:Int):lS (.int i) (.int j)=M.ok (.int (i-j)):=Eq.trans rfl rfl
theorem iT {n:Int} (h:0<=n) (h2:n<2^62):pK [.int n]=M.ok ((List.range n.toNat).map fun (i:Nat)=>.int (i:Int)):=by
 show cC (-(2^62)<=n/\n<2^62) _=_
 rw [ax (by omega)]
 simp
theorem dM {β:Type} {set:PV->af->M af} {body:af->M Out} {α:Type} {inj:α->PV} {k:Out->M β} {r:M β} (xs:List α) (J:List α->af->Prop) {env:af} (h:J xs env)
  (H:∀ a r env,J (a::r) env->∃ e' env',set (inj a) env=M.ok e'/\body e'=M.ok (.nx env')/\J r env') (hk:∀ env',J [] env'->k (.nx env')=r):M.bind (ju set body (xs.map inj) env) k=r:=by
 obtain ⟨env',e,h'⟩:=pj J H xs env h
 rw [e,M.aM];exact hk env' h'
theorem w4 {β:Type} {u:af->M Bool} {b:af->M Out} {k:Out->M β} {r:M β} (J:af->Prop) (m:af->Nat) {env:af} (h:J env)
  (H:∀ env,J env->(u env=M.ok false)\/(u env=M.ok true/\∃ env',b env=M.ok (.nx env')/\J env'/\m env'<m env)) (hk:∀ env',J env'->u env'=M.ok false->k (.nx env')=r):M.bind (l4 u b env) k=r:=by
 obtain ⟨env',e,h',h2⟩:=sF J m H env h
 rw [e,M.aM];exact hk env' h' h2
theorem aP {n:Nat} (h:n<=1000):n<=sizeLine:=Nat.le_of_lt (m7 h)
def tupK (ps:List PV):M PV:=cC (ps.length<=sizeLine) (M.ok (.tup ps))
def lstK (ps:List PV):M PV:=cC (ps.length<=sizeLine) (M.ok (.lst ps))
theorem Dp (fs:af->M (List PV)) (env:af):k_ fs env=(fs env).bind tupK:=rfl
theorem Em (fs:af->M (List PV)) (env:af):rW fs env=(fs env).bind lstK:=rfl
theorem Ie:tupK []=M.ok (.tup []):=ax (aP (show 0<=1000 by decide))
theorem HR:lstK []=M.ok (.lst []):=ax (aP (show 0<=1000 by decide))
theorem HW (a:PV):tupK [a]=M.ok (.tup [a]):=ax (aP (show 1<=1000 by decide))
theorem Hb (a:PV):lstK [a]=M.ok (.lst [a]):=ax (aP (show 1<=1000 by decide))
theorem GD (a b:PV):tupK [a,b]=M.ok (.tup [a,b]):=ax (aP (show 2<=1000 by decide))
theorem GY (a b:PV):lstK [a,b]=M.ok (.lst [a,b]):=ax (aP (show 2<=1000 by decide))
theorem HY (a b c:PV):tupK [a,b,c]=M.ok (.tup [a,b,c]):=ax (aP (show 3<=1000 by decide))
theorem HE (a b c:PV):lstK [a,b,c]=M.ok (.lst [a,b,c]):=ax (aP (show 3<=1000 by decide))
theorem FH (a b c d:PV):tupK [a,b,c,d]=M.ok (.tup [a,b,c,d]):=ax (aP (show 4<=1000 by decide))
theorem F_ (a b c d:PV):lstK [a,b,c,d]=M.ok (.lst [a,b,c,d]):=ax (aP (show 4<=1000 by decide))
theorem Gs (a b c d e:PV):tupK [a,b,c,d,e]=M.ok (.tup [a,b,c,d,e]):=ax (aP (show 5<=1000 by decide))
theorem Hn (a b c d e:PV):lstK [a,b,c,d,e]=M.ok (.lst [a,b,c,d,e]):=ax (aP (show 5<=1000 by decide))
theorem F6 (a b c d e f:PV):tupK [a,b,c,d,e,f]=M.ok (.tup [a,b,c,d,e,f]):=ax (aP (show 6<=1000 by decide))
theorem G5 (a b c d e f:PV):lstK [a,b,c,d,e,f]=M.ok (.lst [a,b,c,d,e,f]):=ax (aP (show 6<=1000 by decide))
end L2
namespace L2
open PySem PySem.Spec PyProof.Rows
def iF {α:Type} (m:M α) (Q:α->Prop):Prop:=∃ a,m=M.ok a/\Q a
section
variable {α β γ:Type} {Q Q':α->Prop} {m:M α}
theorem iF.eq {a:α} (h:iF m fun x=>x=a):m=M.ok a:=by obtain ⟨b,e,rfl⟩:=h;exact e
def Tn (J:af->Prop) (B:af->Prop) (R:PV->Prop):Out->Prop
 | .nx e=>J e
 | .ct e=>J e
 | .bk e=>B e
 | .rt p=>R p
theorem iF.xP {set:PV->af->M af} {body:af->M Out} {inj:γ->PV} {B:af->Prop} {R:PV->Prop} (J:List γ->af->Prop)
  (H:∀ a r env,J (a::r) env->iF (M.bind (set (inj a) env) body) (Tn (J r) B R)):∀ (xs:List γ) (env:af),J xs env->iF (ju set body (xs.map inj) env) fun o=>(∃ e,o=.nx e/\(J [] e\/B e))\/∃ p,o=.rt p/\R p
 | [],env,h=>⟨_,rfl,.inl ⟨_,rfl,.inl h⟩⟩
 | a::r,env,h=>by
  obtain ⟨o,e,q⟩:=H a r env h
  rw [List.map_cons,ju,← M.bind_assoc,e,M.aM]
  cases o with
  | nx e'=>exact iF.xP J H r e' q
  | ct e'=>exact iF.xP J H r e' q
  | bk e'=>exact ⟨_,rfl,.inl ⟨_,rfl,.inr q⟩⟩
  | rt p=>exact ⟨_,rfl,.inr ⟨_,rfl,q⟩⟩
theorem iF.loop {R:β->Prop} {set:PV->af->M af} {body:af->M Out} {inj:γ->PV} {k:Out->M β} {xs:List γ} {env:af} (J:List γ->af->Prop) (h:J xs env)
  (H:∀ a r env,J (a::r) env->iF (M.bind (set (inj a) env) body) (Tn (J r) (fun _=>False) fun _=>False)) (hk:∀ env',J [] env'->iF (k (.nx env')) R):iF (M.bind (ju set body (xs.map inj) env) k) R:=by
 obtain ⟨o,e,q⟩:=iF.xP J H xs env h
 rw [e,M.aM]
 rcases q with ⟨e',rfl,q | q⟩ | ⟨p,_,q⟩
 ·exact hk e' q
 ·exact q.elim
 ·exact q.elim
theorem iF.IH {R:β->Prop} {set:PV->af->M af} {body:af->M Out} {inj:γ->PV} {k:Out->M β} {xs:List γ} {env:af} (J:List γ->af->Prop) (h:J xs env)
  (H:∀ a r env,J (a::r) env->iF (M.bind (set (inj a) env) body) (Tn (J r) (fun e=>iF (k (.nx e)) R) fun p=>iF (k (.rt p)) R)) (hk:∀ env',J [] env'->iF (k (.nx env')) R):iF (M.bind (ju set body (xs.map inj) env) k) R:=by
 obtain ⟨o,e,q⟩:=iF.xP J H xs env h
 rw [e,M.aM]
 rcases q with ⟨e',rfl,q | q⟩ | ⟨p,rfl,q⟩
 ·exact hk e' q
 ·exact q
 ·exact q
end
def IW (i:Nat) (env:af) (xs:List PV) (p:PV):M Out:=if xs.length<sizeLine then M.ok (.nx (env.set i (some (.ow (xs++[p]))))) else none
theorem ia (i:Nat) (f:af->M PV) (env:af):jl i f env=(ownAt i env).bind fun xs=>(f env).bind fun p=>IW i env xs p:=by
 unfold jl ownAt
 rcases env[i]? with _ | _ | (_ | _ | _) <;> rfl
theorem hZ {i:Nat} {env:af} {xs:List PV} {p:PV} (h:xs.length<1000):IW i env xs p=M.ok (.nx (env.set i (some (.ow (xs++[p]))))):=if_pos (m7 (Nat.le_of_lt h))
def vQ (C:Addr) (m:Str) (sem:List PV->M PV) (p:PV) (x:M (List PV)):M PV:=match p with
 | .obj C' fl=>cC (C'=C/\fl.lookup m=none) (x.bind fun ps=>sem (.obj C' fl::ps))
 | _=>none
theorem cZ (C:Addr) (m:Str) (sem:List PV->M PV) (g:af->M PV) (fs:af->M (List PV)) (env:af):bH C m sem g fs env=(g env).bind fun p=>vQ C m sem p (fs env):=rfl
theorem nN {C:Addr} {m:Str} {sem:List PV->M PV} {fl:List (Str×PV)} {x:M (List PV)} (h:fl.lookup m=none):vQ C m sem (.obj C fl) x=x.bind fun ps=>sem (.obj C fl::ps):=ax ⟨rfl,h⟩
def D_ (ok:Addr->Bool) (f:Str) (p:PV):M PV:=match p with
 | .obj C fs=>cC (ok C=true) (eS (fs.lookup f))
 | _=>none
theorem mE (ok:Addr->Bool) (f:Str) (g:af->M PV) (env:af):fm ok f g env=(g env).bind (D_ ok f):=rfl
theorem v8 {ok:Addr->Bool} {f:Str} {C:Addr} {fs:List (Str×PV)} {x:PV} (h:ok C=true) (hl:fs.lookup f=some x):D_ ok f (.obj C fs)=M.ok x:=by
 show cC _ _=_
 rw [ax h,hl];rfl
theorem G2 (xs ys:List Int):l7 (lI xs) (lI ys)=M.ok (.bl (!decide (xs=ys))):=by
 simp only [l7,mT,dat,lI,yU,Option.map_some,Dm]
 rw [ax (by simp [SeqAt.shaped,PyData.canLay0,PyData.depth,uT,xk,SeqAt.noMix,noMix_ints])]
 unfold same
 rw [same_ints];rfl
theorem f_ (xs:List Int) (x:Int):xs.map PV.int++[.int x]=(xs++[x]).map PV.int:=by simp
end L2
namespace L2
open PySem PySem.Spec PyProof.Rows
theorem um {α:Type} {f:α->PV} {p:PV} (xs:List α) (h:bS p=some (xs.map f)):zV [p]=M.ok (xs.zipIdx.map fun z=>.tup [.int (z.2:Int),f z.1]):=by
 show OB p=_
 unfold OB
 rw [h]
 show M.ok (hU _)=_
 rw [Ag]
theorem BU (xs:List Int):zV [lI xs]=M.ok (xs.zipIdx.map fun z=>.tup [.int (z.2:Int),.int z.1]):=um xs rfl
theorem Ba (xs:List Int):zV [tI xs]=M.ok (xs.zipIdx.map fun z=>.tup [.int (z.2:Int),.int z.1]):=um xs rfl
theorem oX {α:Type} {f:α->PV} (xs:List α):zV [.lst (xs.map f)]=M.ok (xs.zipIdx.map fun z=>.tup [.int (z.2:Int),f z.1]):=um xs rfl
theorem Ds (f:af->M Out) (hs:List Hd) (env:af):DK f hs env=xI (f env) fun x=>iS hs x env:=rfl
theorem wM (x:EX) (k:EX->M Out):xI (some (.error x)) k=k x:=Eq.trans rfl rfl
theorem wL (t:Addr->Option Bool) (o:Option Nat) (h:af->M Out) (r:List Hd) (x:EX) (env:af):iS ((t,o,h)::r) x env=uo (t x.1) (qy o h x env) (iS r x env):=Eq.trans rfl rfl
theorem Gr (x y:M Out):uo (some true) x y=x:=Eq.trans rfl rfl
theorem BK (i:Nat) (h:af->M Out) (x:EX) (env:af):qy (some i) h x env=(C7 (h (env.set i (some (.sh (.exc x.1 x.2)))))).bind fun out=>M.ok (uz i out):=Eq.trans rfl rfl
end L2
namespace L2
open PySem PySem.Spec PyProof.Rows
theorem QD {α:Type} {us:List α} (h:us.length=1):∃ a,us=[a]:=by
 cases us with
 | nil=>cases h
 | cons a t=>cases t with
  | nil=>exact ⟨a,rfl⟩
  | cons b t=>cases h
theorem ln2 {α:Type} {us:List α} (h:us.length=2):∃ a b,us=[a,b]:=by
 cases us with
 | nil=>cases h
 | cons a t=>obtain ⟨b,rfl⟩:=QD (Nat.succ.inj h);exact ⟨a,b,rfl⟩
theorem Pn {α:Type} {us:List α} (h:us.length=3):∃ a b c,us=[a,b,c]:=by
 cases us with
 | nil=>cases h
 | cons a t=>obtain ⟨b,c,rfl⟩:=ln2 (Nat.succ.inj h);exact ⟨a,b,c,rfl⟩
theorem QJ {α:Type} {us:List α} (h:us.length=4):∃ a b c d,us=[a,b,c,d]:=by
 cases us with
 | nil=>cases h
 | cons a t=>obtain ⟨b,c,d,rfl⟩:=Pn (Nat.succ.inj h);exact ⟨a,b,c,d,rfl⟩
theorem Ru {α:Type} {us:List α} (h:us.length=5):∃ a b c d e,us=[a,b,c,d,e]:=by
 cases us with
 | nil=>cases h
 | cons a t=>obtain ⟨b,c,d,e,rfl⟩:=QJ (Nat.succ.inj h);exact ⟨a,b,c,d,e,rfl⟩
def yL (K:PySem.W.Frag):Bool:=K.all fun p=>match p.2.cls with
 | .type t=>t != "list"
 | _=>true
theorem Cw {K:PySem.W.Frag} (h:yL K=true) {a:Addr} {o:Obj} (e:K.lookup a=some o):o.cls≠.type "list" := by
 induction K with
 | nil=>cases e
 | cons p r ih =>
  obtain ⟨b,u⟩:=p
  rw [yL,List.all_cons,Bool.and_eq_true] at h
  rw [List.lookup_cons] at e
  cases q:a==b with
  | true =>
   rw [q] at e;cases e
   intro z
   have h1:=h.1
   simp only [z] at h1
   exact absurd h1 (by decide)
  | false=>rw [q] at e;exact ih h.2 e
theorem se {H:Hp}:∀ ns:List Int,aG H (ns.map PV.int) (ns.map V.int)
 | []=>.nil
 | i::r=>.cons (.int i) (se r)
theorem wO {l:PySem.W.OpenLaw} {n k:Nat} {q:Program} {loose:List Str} {XP:(Str->Option Value)->Heap->Prop} {YP:World->Heap->Prop} {d:DefRec} {K:Params->PySem.W.Frag} {sem:List PV->M PV} {x:Str}
  (hn:l.most=some n) (hn2:n<=sizeLine) (hdf:d.params.defaults=[]) (hr:bV k callerA)
  (hY:∀ (w:World) (h:Heap),YP w h->(K w.params).In h)
  (hK:∀ w:World,yL (K w.params)=true)
  (F:∀ (w:World) (mg:Str->Option Value) (fa:Addr) (h:Heap),(K w.params).In h->h.Ns mainGlobals mg->mg d.name=some (.ref fa) ->
   ∃ fd:FuncData,(∀ (s:Shared) (u:Value),BindsTo s fd ⟨[u],[]⟩ [(x,u)]) ∧
    ∀ base:Heap,(K w.params).In base->base.Ns mainGlobals mg->aN l.prog w (K w.params) mg base (bT l.prog w) k fa fd [x] (eJ 1 sem))
  (hsem:∀ ns:List Int,ns.length<=n->(∀ i∈ns,Builtin.Int.intBits i<=1048576)->sem [.jI (ns.map PV.int)]=M.ok (.bl true)) :
  PySem.W.WalkO q loose XP YP l.row.toRowW d [] (fun f vs=>PySem.call f vs):=by
 intro w s₀ s₁ mg mb G Y fa o pm cd doc dV kV ho hd hcd hD hmg hg args vals as zQ hlay hrd hwl hlo
 obtain rfl:dV=.none:=PySem.W.Dflts.none hD hdf
 obtain rfl:kV=.none:=PySem.W.Dflts.noKw hD
 obtain ⟨a,vs,ns,rfl,rfl,hobj,hints,hlen⟩:=Att.yQ hn zQ hwl
 have hbits:∀ i∈ns,Builtin.Int.intBits i<=1048576:=fun i hi=>by
  have h1:=PySem.W.layableW_arg hlay _ (List.mem_singleton.mpr rfl)
  have h2:=PySem.W.layableW_item h1 (.int i) (List.mem_map.mpr ⟨i,hi,rfl⟩)
  exact intBits_le_of_layable h2
 have KX:=hY w _ Y
 obtain ⟨fd,hb,hF⟩:=F w mg fa _ KX G.T.g hmg
 have hs:=hsem ns hlen hbits
 refine PySem.W.enter_call (codeAny_mono (BW KX G.T.g G.T.b G.T.builtins G.T.nolimit hg hobj hints (Nat.le_trans hlen hn2) hr hF hb (fun H hO hS=>⟨rfl,H,[.jI (ns.map PV.int)],fun _ _ e=>e,?_,?_⟩) fun H e s' z=>?_) fun r s' hq=>?_)
 ·rcases hS with (hS | ⟨ob,hS⟩) | ⟨ob,its,m,e1,e2,_⟩
  ·rcases hO a with z | ⟨ob,xs,z⟩
   ·rw [z] at hS;cases hS
   ·rw [z] at hS;cases hS
  ·exact .cons (.jI hS (se ns)) .nil
  ·exact absurd e2 (Cw (hK w) e1)
 ·rw [hs]
  intro v Hs' H' g r
  cases r;rfl
 ·obtain ⟨ea,T,C,dd,Hc,_,_,_,_,_,_,_,_,z⟩:=z;exact z
 ·obtain ⟨rfl,h2,h3,h4⟩:=hq
  exact ⟨.inl ⟨.bool true,.bool true,[],rfl,fun _=>rfl,.bool true,Att.yS l _,fun _=>⟨List.Pairwise.nil,fun _ hm=>(nomatch hm)⟩⟩,h2,h3,h4⟩
end L2
namespace L2
open PySem PySem.Spec PyProof.Rows
abbrev fF (x q:Str) (t:Stmt) (s:Value) (c:Addr):FuncData:=PySem.W.fnOf x q (g9 t) (ff t) (au t) .none .none .none s none (.ref c) .none
theorem aE.of {K:PySem.W.Frag} {x q:Str} {t:Stmt} {dv kV doc pm:Value} {an:Option Addr} {cdv ct:Value} {f:Addr} (h1:K.lookup f=some ⟨.type "function", none,.func (PySem.W.fnOf x q (g9 t) (ff t) (au t) dv kV doc pm an cdv ct),⟨[]⟩⟩) (h2:PySem.W.codeIn K cdv q=true) (h3:PySem.W.keepIn K (.ref f)=true):aE K x q t dv f (PySem.W.fnOf x q (g9 t) (ff t) (au t) dv kV doc pm an cdv ct):=⟨⟨_,_,_,_,_,_,_,_,_,rfl,h1,h2⟩,h3⟩
section
variable {α:Type} {P:List α->Prop}
theorem Ap (h:∀ a,P [a]):∀ us,us.length=1->P us:=fun us hl=>by obtain ⟨a,rfl⟩:=QD hl;exact h a
theorem oQ (h:∀ a b,P [a,b]):∀ us,us.length=2->P us:=fun us hl=>by obtain ⟨a,b,rfl⟩:=ln2 hl;exact h a b
theorem Gg (h:∀ a b c,P [a,b,c]):∀ us,us.length=3->P us:=fun us hl=>by obtain ⟨a,b,c,rfl⟩:=Pn hl;exact h a b c
theorem J1 (h:∀ a b c d,P [a,b,c,d]):∀ us,us.length=4->P us:=fun us hl=>by obtain ⟨a,b,c,d,rfl⟩:=QJ hl;exact h a b c d
theorem Ra (h:∀ a b c d e,P [a,b,c,d,e]):∀ us,us.length=5->P us:=fun us hl=>by obtain ⟨a,b,c,d,e,rfl⟩:=Ru hl;exact h a b c d e
end
theorem ay.of {N P:List Str} {sc:Scope} (h1:sc.kind=.function:=by rfl) (h2:sc.isCoroutine=false:=by rfl) (h3:sc.isGenerator=false:=by rfl) (h4:N.Nodup:=by decide +kernel) (h5:N.take P.length=P:=by rfl) (h6:∀ x∈P,sc.names.lookup x=some .local\/sc.names.lookup x=some .cell:=by decide +kernel) (h7:∀ y∈sc.names,y.2≠.free:=by decide +kernel):ay N P sc:=⟨h1,h2,h3,h4,h5,h6,h7⟩
theorem aK {X:Cx} {pos:Pos} {i:Nat} {x:Str} (hN:X.N.Nodup) (hi:X.N[i]?=some x:=by rfl) (hx:Loc X.env.scope x:=by first | exact .inl rfl | exact .inr rfl) (hf:X.fn x=true\/X.env.scope.names.lookup x=some .local:=by first | exact .inl rfl | exact .inr rfl):PG X (.Name x pos) (aF i):=DU hN hi hx hf
end L2
namespace HD
open PySem PySem.W L2
abbrev pw:Program:=PySem.Challenge.pw_dialvault_k25_step_weights
noncomputable section
def st (s:String) (t:Nat):Value:=.str (Str.ofString s) t
def en (P:Params) (s:String) (t:Nat) (v:Value):DictEntry:=⟨PyData.keyHash P (Str.ofString s),st s t,v⟩
def tu (xs:List Value):Obj:=⟨.type "tuple", none,.seq ⟨xs⟩ 0,⟨[]⟩⟩
def di (n:Nat) (es:List DictEntry):Obj:=⟨.type "dict", none,.dict ⟨es⟩ n,⟨[]⟩⟩
def tp (i:Nat):Stmt:=pw.main.body.getD i (.Pass ⟨0,0,0,0⟩)
def mp (i j:Nat):Stmt:=inClass (tp i) j
def co (a b:String) (t:Nat) (l n:Int) (x1 x2 x3 x4 x5:Nat) (u:Nat):Obj:=⟨.type "code", none,.fields ⟨[st a t,st b (t+1),st "/claim/cut.py" (t+2),.int l 0,.int n 0,.int 0 0,.int 0 0,.int 3 0,.ref x1,.bool true,.int 181 0,.ref x2,.none,.ref x3,.ref x4,.ref x5,.int u 0,.int l 0,st "/claim/cut.py" (u+1)]⟩,⟨[]⟩⟩
def ft (a b:String) (s:Stmt):Obj:=⟨.none,none,.func ⟨Str.ofString a,Str.ofString b,g9 s,.stmts (ff s),au s,0,[],.none,.none,.none,.none,none,.none,.none,0⟩,⟨[]⟩⟩
def fo (a b:String) (s:Stmt) (df pm:Value) (cd:Nat):Obj:=⟨.type "function", none,.func ⟨Str.ofString a,Str.ofString b,g9 s,.stmts (ff s),au s,3,[],df,.none,.none,pm,none,.ref cd,.none,0⟩,⟨[]⟩⟩
def Gh:List Obj->List Obj
 | []=>[]
 | [a]=>[a]
 | a::_::r=>a::Gh r
def bt:Nat->List Obj->BT
 | 0,_=>.nil
 | _+1,[]=>.nil
 | n+1,a::r=>.node a (bt n (Gh r)) (bt n (Gh (r.drop 1)))
def S (L:Params->List Obj) (n k:Nat) (w:World) (os:OsState):SharedT:=⟨bt 14 (L w.params),n,{},⟨[]⟩,⟨0,0,0,0⟩,k,os⟩
def F (L:Params->List Obj) (k:Nat) (w:World) (os:OsState):Shared:=⟨⟨⟨L w.params⟩,{}⟩,⟨[]⟩,⟨0,0,0,0⟩,k,os⟩
def cc (a:String) (t:Nat) (l:Int) (x y u:Nat):Obj:=⟨.type "code", none,.fields ⟨[st a t,st a (t+1),st "/claim/cut.py" (t+2),.int l 0,.int 0 0,.int 0 0,.int 0 0,.int 0 0,.ref x,.bool false,.int 181 0,.ref y,.none,.none,.none,.none,.int u 0,.int l 0,st "/claim/cut.py" (u+1)]⟩,⟨[]⟩⟩
def fr (a b:Nat) (s:String) (t:Nat):Obj:=⟨.type "frame", none,.plain,⟨[some (.ref a),some (.ref 3),some (.ref b),none,some (st s t),none,some (.ref 0)]⟩⟩
def su (a:Nat):Obj:=⟨.type "super", none,.fields ⟨[.ref a,.ref a,.ref a]⟩,⟨[]⟩⟩
def ii (a:Nat):Obj:=⟨.type "builtin_function_or_method", none,.fields ⟨[.builtin "object.__init_subclass__", .ref a]⟩,⟨[]⟩⟩
def wz:List Nat->List Value
 | a::b::c::r=>.int a 0::.int b 0::.ref c::wz r
 | _=>[]
def fi (xs:List Nat):Obj:=⟨.none,none,.fields ⟨wz xs⟩,⟨[]⟩⟩
def cl (n:Str) (bs ms:List Value) (k:Nat) (ss:List Value) (sl:List (Option Value)):Obj:=⟨.type "type", none,.cls ⟨n,bs,ms,k,n,true,[],ss,false,none,false⟩,⟨sl⟩⟩
def pt (L:List Obj) (us:List (Nat×Obj)) (ns:List Obj):List Obj:=us.foldl (fun l u=>l.set u.1 u.2) L++ns
abbrev b0:=boot_o_0
abbrev b1:=boot_o_1
abbrev b2:=boot_o_2
abbrev b3:=boot_o_3
abbrev b4:=boot_o_4
abbrev b5:=boot_o_5
abbrev b6:=boot_o_6
abbrev b7:=boot_o_7
abbrev b8:=boot_o_8
abbrev b9:=boot_o_9
abbrev Q5:=boot_o_10
def gl P:=[en P "__doc__" 166 .none,en P "__package__" 167 .none,en P "__loader__" 168 (.builtin "__main__.__loader__#opaque"),en P "__spec__" 169 .none,en P "__annotations__" 170 (.ref 6),en P "__builtins__" 171 (.ref 4),en P "__file__" 173 (st "/claim/cut.py" 172),en P "__cached__" 174 .none,en P "_wall" 193 (.ref 21),en P "VaultError" 220 (.ref 38),en P "NoDial" 252 (.ref 65),en P "NoLever" 284 (.ref 91),en P "NoPrice" 316 (.ref 117),en P "NoSetting" 339 (.ref 136),en P "TooMany" 362 (.ref 155),en P "is_whole" 371 (.ref 164),en P "is_row" 377 (.ref 169),en P "common" 389 (.ref 176),en P "multiple_of" 398 (.ref 183),en P "unit_row" 404 (.ref 188),en P "rest_sum" 410 (.ref 193),en P "MOST_DIALS" 414 (.int 6 413),en P "LEAST_SIZE" 416 (.int 2 415),en P "MOST_SIZE" 418 (.int 360 417),en P "MOST_LEVERS" 420 (.int 8 419),en P "LEAST_PRICE" 422 (.int 1 421),en P "MOST_PRICE" 424 (.int 1000 423),en P "Vault" 482 (.ref 237),en P "is_within" 491 (.ref 248),en P "need_sizes" 500 (.ref 255),en P "need_levers" 510 (.ref 262),en P "prices_for" 519 (.ref 269),en P "rests" 525 (.ref 274),en P "nought" 532 (.ref 281),en P "is_setting" 538 (.ref 286),en P "need_setting" 546 (.ref 293),en P "weigh" 554 (.ref 298),en P "mixed" 562 (.ref 303),en P "mixed_made" 574 (.ref 310),en P "unpulled" 582 (.ref 317),en P "pulled_once" 591 (.ref 324),en P "step_size" 601 (.ref 331),en P "taken_in" 616 (.ref 338),en P "lowered" 628 (.ref 345),en P "in_spans" 638 (.ref 352),en P "Rungs" 724 (.ref 419),en P "_law_cell" 734 (.ref 430),en P "_law_stream" 745 (.ref 437),en P "_law_digits" 756 (.ref 444),en P "_law_sizes" 762 (.ref 449),en P "_law_great" 769 (.ref 456),en P "_law_lever" 781 (.ref 463),en P "_law_levers" 792 (.ref 470),en P "_law_round" 803 (.ref 477),en P "_law_added" 809 (.ref 482),en P "_law_weighed" 823 (.ref 489),en P "_law_setting" 829 (.ref 494),en P "_law_form_good" 841 (.ref 501),en P "_law_refused" 851 (.ref 508),en P "_law_all_still" 861 (.ref 515),en P "_law_weighs_setting" 875 (.ref 522),en P "law" 881 (.ref 527)]
def o0:=cc "<module>" 182 1 11 12 185
def o1:=fr 13 3 "__main__" 164
def LA (P:Params):List Obj:=[b0 P,b1 P,b2 P,b3 P,b4 P,b5 P,b6 P,b7 P,b8 P,b9 P,Q5 P,b7 P,b8 P,o0,o1]
def o2 P:=di 11 (en P "__name__" 165 (st "dialvault.errors" 194)::(gl P).take 10)
def o3:=fi [1,0,20,5,0,27]
def o4:=tu [st "k" 190]
def o5:=ft "_wall" "_wall" (tp 0)
def o6:=co "_wall" "_wall" 187 1 1 15 16 17 18 19 191
def o7:=fo "_wall" "_wall" (tp 0) .none (st "__main__" 164) 20
def o8:=tu [.type "ValueError"]
def o9:Obj:=⟨.type "builtin_function_or_method", none,(.fields ⟨[.builtin "type.__prepare__", .type "type"]⟩),⟨[]⟩⟩
def RJ P:=di 5 [en P "__module__" 203 (st "dialvault.errors" 194),en P "__qualname__" 205 (st "VaultError" 204),en P "__firstlineno__" 207 (.int 5 206),en P "word" 214 (.ref 35),en P "__static_attributes__" 215 (.ref 36)]
def Rh:=fi [7,4,34]
def QV:=cc "VaultError" 198 5 25 26 201
def Rk:=fr 27 24 "dialvault.errors" 194
def RY:=tu [st "self" 211]
def Q6:=ft "word" "VaultError.word" (mp 2 0)
def Sr:=co "word" "VaultError.word" 208 7 1 29 30 31 32 33 212
def Rl:=fo "word" "VaultError.word" (mp 2 0) .none (st "dialvault.errors" 194) 34
def SG P:=di 3 [en P "__module__" 203 (st "dialvault.errors" 194),en P "__firstlineno__" 207 (.int 5 206),en P "word" 214 (.ref 35),en P "__static_attributes__" 215 (.ref 36),en P "__weakref__" 217 (.ref 39),en P "__doc__" 218 .none]
def RN:=cl "VaultError" [.type "ValueError"] [.ref 38,.type "ValueError", .type "Exception", .type "BaseException", .type "object"] 37 [] [some (.ref 22),none,some (st "VaultError" 196),some (st "VaultError" 204),some (.builtin "ValueError.__new__"),some (.bool true)]
def Rm:Obj:=⟨.type "getset_descriptor", none,(.fields ⟨[st "__weakref__" 216,.ref 38,.builtin "ExceptionGroup.__weakref__", .none]⟩),⟨[]⟩⟩
def RG:=su 38
def Sn:=ii 38
def L0 P:=pt (LA P) [(3,o2 P),(12,o3)] [b7 P,b8 P,o4,b7 P,o5,o6,o7,o8,o9,RJ P,b7 P,Rh,QV,Rk,b7 P,b8 P,RY,b7 P,Q6,Sr,Rl,b7 P,SG P,RN,Rm,RG,Sn]
def SH P:=di 12 (en P "__name__" 165 (st "dialvault.errors" 194)::(gl P).take 11)
def SN:=fi [1,0,20,5,0,27,9,0,47]
def Sy:=cl "VaultError" [.type "ValueError"] [.ref 38,.type "ValueError", .type "Exception", .type "BaseException", .type "object"] 37 [.ref 65] [some (.ref 22),none,some (st "VaultError" 196),some (st "VaultError" 204),some (.builtin "ValueError.__new__"),some (.bool true)]
def JW:=tu [.ref 38]
def QX P:=di 6 [en P "__module__" 228 (st "dialvault.errors" 194),en P "__qualname__" 230 (st "NoDial" 229),en P "__firstlineno__" 232 (.int 9 231),en P "__init__" 240 (.ref 55),en P "word" 247 (.ref 62),en P "__static_attributes__" 249 (.ref 63)]
def R8:=fi [11,4,54,14,4,61]
def Q3:=cc "NoDial" 223 9 45 46 226
def RL:=fr 47 44 "dialvault.errors" 194
def SI:=tu [st "self" 236,st "dial" 237]
def QR:=ft "__init__" "NoDial.__init__" (mp 3 0)
def Q2:=co "__init__" "NoDial.__init__" 233 11 2 49 50 51 52 53 238
def SA:=fo "__init__" "NoDial.__init__" (mp 3 0) .none (st "dialvault.errors" 194) 54
def R3:=tu [st "self" 244]
def R6:=ft "word" "NoDial.word" (mp 3 1)
def Sv:=co "word" "NoDial.word" 241 14 1 56 57 58 59 60 245
def R0:=fo "word" "NoDial.word" (mp 3 1) .none (st "dialvault.errors" 194) 61
def Sa:=tu [st "dial" 248]
def Sb P:=di 2 [en P "__module__" 228 (st "dialvault.errors" 194),en P "__firstlineno__" 232 (.int 9 231),en P "__init__" 240 (.ref 55),en P "word" 247 (.ref 62),en P "__static_attributes__" 249 (.ref 63),en P "__doc__" 250 .none]
def Q1:=cl "NoDial" [.ref 38] [.ref 65,.ref 38,.type "ValueError", .type "Exception", .type "BaseException", .type "object"] 64 [] [some (.ref 42),none,some (st "NoDial" 221),some (st "NoDial" 229),some (.builtin "ValueError.__new__"),some (.bool true)]
def Q_:=su 65
def QQ:=ii 65
def L1 P:=pt (L0 P) [(3,SH P),(12,SN),(38,Sy)] [JW,o9,QX P,b7 P,R8,Q3,RL,b7 P,b8 P,SI,b7 P,QR,Q2,SA,b7 P,b8 P,R3,b7 P,R6,Sv,R0,Sa,Sb P,Q1,Q_,QQ]
def QS P:=di 13 (en P "__name__" 165 (st "dialvault.errors" 194)::(gl P).take 12)
def R_:=fi [1,0,20,5,0,27,9,0,47,16,0,73]
def R4:=cl "VaultError" [.type "ValueError"] [.ref 38,.type "ValueError", .type "Exception", .type "BaseException", .type "object"] 37 [.ref 65,.ref 91] [some (.ref 22),none,some (st "VaultError" 196),some (st "VaultError" 204),some (.builtin "ValueError.__new__"),some (.bool true)]
def Rw P:=di 6 [en P "__module__" 260 (st "dialvault.errors" 194),en P "__qualname__" 262 (st "NoLever" 261),en P "__firstlineno__" 264 (.int 16 263),en P "__init__" 272 (.ref 81),en P "word" 279 (.ref 88),en P "__static_attributes__" 281 (.ref 89)]
def RT:=fi [18,4,80,21,4,87]
def RW:=cc "NoLever" 255 16 71 72 258
def Q4:=fr 73 70 "dialvault.errors" 194
def QU:=tu [st "self" 268,st "lever" 269]
def Rq:=ft "__init__" "NoLever.__init__" (mp 4 0)
def RD:=co "__init__" "NoLever.__init__" 265 18 2 75 76 77 78 79 270
def Rc:=fo "__init__" "NoLever.__init__" (mp 4 0) .none (st "dialvault.errors" 194) 80
def Ri:=tu [st "self" 276]
def Rb:=ft "word" "NoLever.word" (mp 4 1)
def Rz:=co "word" "NoLever.word" 273 21 1 82 83 84 85 86 277
def Sk:=fo "word" "NoLever.word" (mp 4 1) .none (st "dialvault.errors" 194) 87
def Sw:=tu [st "lever" 280]
def So P:=di 2 [en P "__module__" 260 (st "dialvault.errors" 194),en P "__firstlineno__" 264 (.int 16 263),en P "__init__" 272 (.ref 81),en P "word" 279 (.ref 88),en P "__static_attributes__" 281 (.ref 89),en P "__doc__" 282 .none]
def RE:=cl "NoLever" [.ref 38] [.ref 91,.ref 38,.type "ValueError", .type "Exception", .type "BaseException", .type "object"] 90 [] [some (.ref 68),none,some (st "NoLever" 253),some (st "NoLever" 261),some (.builtin "ValueError.__new__"),some (.bool true)]
def RV:=su 91
def RA:=ii 91
def L2 P:=pt (L1 P) [(3,QS P),(12,R_),(38,R4)] [JW,o9,Rw P,b7 P,RT,RW,Q4,b7 P,b8 P,QU,b7 P,Rq,RD,Rc,b7 P,b8 P,Ri,b7 P,Rb,Rz,Sk,Sw,So P,RE,RV,RA]
def QZ P:=di 14 (en P "__name__" 165 (st "dialvault.errors" 194)::(gl P).take 13)
def SJ:=fi [1,0,20,5,0,27,9,0,47,16,0,73,23,0,99]
def Su:=cl "VaultError" [.type "ValueError"] [.ref 38,.type "ValueError", .type "Exception", .type "BaseException", .type "object"] 37 [.ref 65,.ref 91,.ref 117] [some (.ref 22),none,some (st "VaultError" 196),some (st "VaultError" 204),some (.builtin "ValueError.__new__"),some (.bool true)]
def Sf P:=di 6 [en P "__module__" 292 (st "dialvault.errors" 194),en P "__qualname__" 294 (st "NoPrice" 293),en P "__firstlineno__" 296 (.int 23 295),en P "__init__" 304 (.ref 107),en P "word" 311 (.ref 114),en P "__static_attributes__" 313 (.ref 115)]
def Rx:=fi [25,4,106,28,4,113]
def Si:=cc "NoPrice" 287 23 97 98 290
def RC:=fr 99 96 "dialvault.errors" 194
def RO:=tu [st "self" 300,st "lever" 301]
def SM:=ft "__init__" "NoPrice.__init__" (mp 5 0)
def RI:=co "__init__" "NoPrice.__init__" 297 25 2 101 102 103 104 105 302
def Sd:=fo "__init__" "NoPrice.__init__" (mp 5 0) .none (st "dialvault.errors" 194) 106
def SK:=tu [st "self" 308]
def Se:=ft "word" "NoPrice.word" (mp 5 1)
def Q7:=co "word" "NoPrice.word" 305 28 1 108 109 110 111 112 309
def R7:=fo "word" "NoPrice.word" (mp 5 1) .none (st "dialvault.errors" 194) 113
def RR:=tu [st "lever" 312]
def Rv P:=di 2 [en P "__module__" 292 (st "dialvault.errors" 194),en P "__firstlineno__" 296 (.int 23 295),en P "__init__" 304 (.ref 107),en P "word" 311 (.ref 114),en P "__static_attributes__" 313 (.ref 115),en P "__doc__" 314 .none]
def Sl:=cl "NoPrice" [.ref 38] [.ref 117,.ref 38,.type "ValueError", .type "Exception", .type "BaseException", .type "object"] 116 [] [some (.ref 94),none,some (st "NoPrice" 285),some (st "NoPrice" 293),some (.builtin "ValueError.__new__"),some (.bool true)]
def Rj:=su 117
def Rt:=ii 117
def L3 P:=pt (L2 P) [(3,QZ P),(12,SJ),(38,Su)] [JW,o9,Sf P,b7 P,Rx,Si,RC,b7 P,b8 P,RO,b7 P,SM,RI,Sd,b7 P,b8 P,SK,b7 P,Se,Q7,R7,RR,Rv P,Sl,Rj,Rt]
def QO P:=di 15 (en P "__name__" 165 (st "dialvault.errors" 194)::(gl P).take 14)
def R1:=fi [1,0,20,5,0,27,9,0,47,16,0,73,23,0,99,30,0,125]
def Rn:=cl "VaultError" [.type "ValueError"] [.ref 38,.type "ValueError", .type "Exception", .type "BaseException", .type "object"] 37 [.ref 65,.ref 91,.ref 117,.ref 136] [some (.ref 22),none,some (st "VaultError" 196),some (st "VaultError" 204),some (.builtin "ValueError.__new__"),some (.bool true)]
def SD P:=di 5 [en P "__module__" 324 (st "dialvault.errors" 194),en P "__qualname__" 326 (st "NoSetting" 325),en P "__firstlineno__" 328 (.int 30 327),en P "word" 335 (.ref 133),en P "__static_attributes__" 336 (.ref 134)]
def RM:=fi [32,4,132]
def Sg:=cc "NoSetting" 319 30 123 124 322
def Sq:=fr 125 122 "dialvault.errors" 194
def Sm:=tu [st "self" 332]
def RZ:=ft "word" "NoSetting.word" (mp 6 0)
def RQ:=co "word" "NoSetting.word" 329 32 1 127 128 129 130 131 333
def Q9:=fo "word" "NoSetting.word" (mp 6 0) .none (st "dialvault.errors" 194) 132
def RP P:=di 2 [en P "__module__" 324 (st "dialvault.errors" 194),en P "__firstlineno__" 328 (.int 30 327),en P "word" 335 (.ref 133),en P "__static_attributes__" 336 (.ref 134),en P "__doc__" 337 .none]
def RU:=cl "NoSetting" [.ref 38] [.ref 136,.ref 38,.type "ValueError", .type "Exception", .type "BaseException", .type "object"] 135 [] [some (.ref 120),none,some (st "NoSetting" 317),some (st "NoSetting" 325),some (.builtin "ValueError.__new__"),some (.bool true)]
def Sj:=su 136
def Q8:=ii 136
def L4 P:=pt (L3 P) [(3,QO P),(12,R1),(38,Rn)] [JW,o9,SD P,b7 P,RM,Sg,Sq,b7 P,b8 P,Sm,b7 P,RZ,RQ,Q9,b7 P,RP P,RU,Sj,Q8]
def RH P:=di 21 (en P "__name__" 165 (st "dialvault.wholes" 363)::(gl P).take 20)
def NB:=fi [1,0,20,5,0,27,9,0,47,16,0,73,23,0,99,30,0,125,34,0,144,39,0,163,41,0,168,45,0,175,56,0,182,61,0,187]
def Qk:=cl "VaultError" [.type "ValueError"] [.ref 38,.type "ValueError", .type "Exception", .type "BaseException", .type "object"] 37 [.ref 65,.ref 91,.ref 117,.ref 136,.ref 155] [some (.ref 22),none,some (st "VaultError" 196),some (st "VaultError" 204),some (.builtin "ValueError.__new__"),some (.bool true)]
def M4 P:=di 5 [en P "__module__" 347 (st "dialvault.errors" 194),en P "__qualname__" 349 (st "TooMany" 348),en P "__firstlineno__" 351 (.int 34 350),en P "word" 358 (.ref 152),en P "__static_attributes__" 359 (.ref 153)]
def MZ:=fi [36,4,151]
def KY:=cc "TooMany" 342 34 142 143 345
def Nj:=fr 144 141 "dialvault.errors" 194
def ME:=tu [st "self" 355]
def Kv:=ft "word" "TooMany.word" (mp 7 0)
def Oj:=co "word" "TooMany.word" 352 36 1 146 147 148 149 150 356
def Pm:=fo "word" "TooMany.word" (mp 7 0) .none (st "dialvault.errors" 194) 151
def LS P:=di 2 [en P "__module__" 347 (st "dialvault.errors" 194),en P "__firstlineno__" 351 (.int 34 350),en P "word" 358 (.ref 152),en P "__static_attributes__" 359 (.ref 153),en P "__doc__" 360 .none]
def PM:=cl "TooMany" [.ref 38] [.ref 155,.ref 38,.type "ValueError", .type "Exception", .type "BaseException", .type "object"] 154 [] [some (.ref 139),none,some (st "TooMany" 340),some (st "TooMany" 348),some (.builtin "ValueError.__new__"),some (.bool true)]
def PL:=su 155
def Oy:=ii 155
def Nr:=tu [st "thing" 368]
def Lu:=ft "is_whole" "is_whole" (tp 9)
def Py:=co "is_whole" "is_whole" 365 39 1 158 159 160 161 162 369
def MF:=fo "is_whole" "is_whole" (tp 9) .none (st "dialvault.wholes" 363) 163
def MD:=ft "is_row" "is_row" (tp 10)
def NF:Obj:=⟨.type "code", none,(.fields ⟨[st "is_row" 372,st "is_row" 373,st "/claim/cut.py" 374,.int 41 0,.int 2 0,.int 0 0,.int 0 0,.int 3 0,.ref 165,.bool true,.int 181 0,.ref 166,.none,.none,.none,.ref 167,.int 375 0,.int 41 0,st "/claim/cut.py" 376]⟩),⟨[]⟩⟩
def Md:=fo "is_row" "is_row" (tp 10) .none (st "dialvault.wholes" 363) 168
def OF:=tu [st "one" 381,st "other" 382,st "row" 383,st "behind" 384,st "times" 385,st "rest" 386]
def Ql:=ft "common" "common" (tp 11)
def NS:=co "common" "common" 378 45 2 170 171 172 173 174 387
def P9:=fo "common" "common" (tp 11) .none (st "dialvault.wholes" 363) 175
def Qp:=tu [st "numbers" 393,st "multiple" 394,st "number" 395]
def OJ:=ft "multiple_of" "multiple_of" (tp 12)
def ON:=co "multiple_of" "multiple_of" 390 56 1 177 178 179 180 181 396
def Qx:=fo "multiple_of" "multiple_of" (tp 12) .none (st "dialvault.wholes" 363) 182
def M8:=ft "unit_row" "unit_row" (tp 13)
def OH:Obj:=⟨.type "code", none,(.fields ⟨[st "unit_row" 399,st "unit_row" 400,st "/claim/cut.py" 401,.int 61 0,.int 2 0,.int 0 0,.int 0 0,.int 3 0,.ref 184,.bool true,.int 181 0,.ref 185,.none,.none,.none,.ref 186,.int 402 0,.int 61 0,st "/claim/cut.py" 403]⟩),⟨[]⟩⟩
def L_:=fo "unit_row" "unit_row" (tp 13) .none (st "dialvault.wholes" 363) 187
def L5 P:=pt (L4 P) [(3,RH P),(12,NB),(38,Qk)] [JW,o9,M4 P,b7 P,MZ,KY,Nj,b7 P,b8 P,ME,b7 P,Kv,Oj,Pm,b7 P,LS P,PM,PL,Oy,b7 P,b8 P,Nr,b7 P,Lu,Py,MF,b7 P,b8 P,MD,NF,Md,b7 P,b8 P,OF,b7 P,Ql,NS,P9,b7 P,b8 P,Qp,b7 P,OJ,ON,Qx,b7 P,b8 P,M8,OH,L_]
def OI P:=di 28 (en P "__name__" 165 (st "dialvault.vault" 411)::(gl P).take 27)
def OE:=fi [1,0,20,5,0,27,9,0,47,16,0,73,23,0,99,30,0,125,34,0,144,39,0,163,41,0,168,45,0,175,56,0,182,61,0,187,63,0,192]
def MV:=ft "rest_sum" "rest_sum" (tp 14)
def Lz:Obj:=⟨.type "code", none,(.fields ⟨[st "rest_sum" 405,st "rest_sum" 406,st "/claim/cut.py" 407,.int 63 0,.int 3 0,.int 0 0,.int 0 0,.int 3 0,.ref 189,.bool true,.int 181 0,.ref 190,.none,.none,.none,.ref 191,.int 408 0,.int 63 0,st "/claim/cut.py" 409]⟩),⟨[]⟩⟩
def MR:=fo "rest_sum" "rest_sum" (tp 14) .none (st "dialvault.wholes" 363) 192
def L6 P:=pt (L5 P) [(3,OI P),(12,OE)] [b7 P,b8 P,MV,Lz,MR]
def Nm P:=di 30 (en P "__name__" 165 (st "dialvault.vault" 411)::(gl P).take 29)
def LQ:=fi [1,0,20,5,0,27,9,0,47,16,0,73,23,0,99,30,0,125,34,0,144,39,0,163,41,0,168,45,0,175,56,0,182,61,0,187,63,0,192,72,0,199,93,0,247]
def Lh P:=di 9 [en P "__module__" 432 (st "dialvault.vault" 411),en P "__qualname__" 434 (st "Vault" 433),en P "__firstlineno__" 436 (.int 72 435),en P "__init__" 442 (.ref 206),en P "sizes" 449 (.ref 213),en P "levers" 456 (.ref 220),en P "prices" 463 (.ref 227),en P "around" 470 (.ref 234),en P "__static_attributes__" 475 (.ref 235)]
def Oz:=fi [74,4,205,82,4,212,85,4,219,88,4,226,91,4,233]
def NC:=cc "Vault" 427 72 197 198 430
def NT:=fr 199 196 "dialvault.vault" 411
def M3:=tu [.none]
def Pp:=ft "__init__" "Vault.__init__" (mp 22 0)
def Lp:Obj:=⟨.type "code", none,(.fields ⟨[st "__init__" 437,st "Vault.__init__" 438,st "/claim/cut.py" 439,.int 74 0,.int 4 0,.int 0 0,.int 0 0,.int 3 0,.ref 202,.bool true,.int 181 0,.ref 203,.none,.none,.none,.ref 204,.int 440 0,.int 74 0,st "/claim/cut.py" 441]⟩),⟨[]⟩⟩
def NG:=fo "__init__" "Vault.__init__" (mp 22 0) (.ref 201) (st "dialvault.vault" 411) 205
def P2:=tu [st "self" 446]
def Pk:=ft "sizes" "Vault.sizes" (mp 22 1)
def MP:=co "sizes" "Vault.sizes" 443 82 1 207 208 209 210 211 447
def NK:=fo "sizes" "Vault.sizes" (mp 22 1) .none (st "dialvault.vault" 411) 212
def NI:=tu [st "self" 453]
def P_:=ft "levers" "Vault.levers" (mp 22 2)
def LW:=co "levers" "Vault.levers" 450 85 1 214 215 216 217 218 454
def Nt:=fo "levers" "Vault.levers" (mp 22 2) .none (st "dialvault.vault" 411) 219
def OA:=tu [st "self" 460]
def N5:=ft "prices" "Vault.prices" (mp 22 3)
def O7:=co "prices" "Vault.prices" 457 88 1 221 222 223 224 225 461
def N7:=fo "prices" "Vault.prices" (mp 22 3) .none (st "dialvault.vault" 411) 226
def Nb:=tu [st "self" 467]
def Li:=ft "around" "Vault.around" (mp 22 4)
def Po:=co "around" "Vault.around" 464 91 1 228 229 230 231 232 468
def Mz:=fo "around" "Vault.around" (mp 22 4) .none (st "dialvault.vault" 411) 233
def NY:=tu [st "dial_sizes" 471,st "least_round" 472,st "lever_prices" 473,st "lever_settings" 474]
def Kr P:=di 4 [en P "__module__" 432 (st "dialvault.vault" 411),en P "__firstlineno__" 436 (.int 72 435),en P "__init__" 442 (.ref 206),en P "sizes" 449 (.ref 213),en P "levers" 456 (.ref 220),en P "prices" 463 (.ref 227),en P "around" 470 (.ref 234),en P "__static_attributes__" 475 (.ref 235),en P "__dict__" 477 (.ref 238),en P "__weakref__" 479 (.ref 239),en P "__doc__" 480 .none]
def Lo:=cl "Vault" [.type "object"] [.ref 237,.type "object"] 236 [] [none,none,some (st "Vault" 425),some (st "Vault" 433),some (.builtin "object.__new__"),some (.bool true)]
def Nx:Obj:=⟨.type "getset_descriptor", none,(.fields ⟨[st "__dict__" 476,.ref 237,.builtin "function.__dict__", .builtin "function.__dict__#set"]⟩),⟨[]⟩⟩
def N3:Obj:=⟨.type "getset_descriptor", none,(.fields ⟨[st "__weakref__" 478,.ref 237,.builtin "ExceptionGroup.__weakref__", .none]⟩),⟨[]⟩⟩
def P5:=su 237
def Pc:=ii 237
def Ll:=tu [st "thing" 486,st "least" 487,st "most" 488]
def MI:=ft "is_within" "is_within" (tp 23)
def K1:=co "is_within" "is_within" 483 93 3 242 243 244 245 246 489
def Mw:=fo "is_within" "is_within" (tp 23) .none (st "dialvault.vault" 411) 247
def L7 P:=pt (L6 P) [(3,Nm P),(12,LQ)] [b7 P,o9,Lh P,b7 P,Oz,NC,NT,M3,b7 P,b8 P,Pp,Lp,NG,b7 P,b8 P,P2,b7 P,Pk,MP,NK,b7 P,b8 P,NI,b7 P,P_,LW,Nt,b7 P,b8 P,OA,b7 P,N5,O7,N7,b7 P,b8 P,Nb,b7 P,Li,Po,Mz,NY,Kr P,Lo,Nx,N3,P5,Pc,b7 P,b8 P,Ll,b7 P,MI,K1,Mw]
def K6 P:=di 42 (en P "__name__" 165 (st "dialvault.rungs" 555)::(gl P).take 41)
def Lg:=fi [1,0,20,5,0,27,9,0,47,16,0,73,23,0,99,30,0,125,34,0,144,39,0,163,41,0,168,45,0,175,56,0,182,61,0,187,63,0,192,72,0,199,93,0,247,95,0,254,103,0,261,109,0,268,118,0,273,120,0,280,122,0,285,127,0,292,131,0,297,138,0,302,140,0,309,143,0,316,145,0,323]
def Qh:=tu [st "sizes" 495,st "dial" 496,st "size" 497]
def Ov:=ft "need_sizes" "need_sizes" (tp 24)
def Na:=co "need_sizes" "need_sizes" 492 95 1 249 250 251 252 253 498
def MM:=fo "need_sizes" "need_sizes" (tp 24) .none (st "dialvault.vault" 411) 254
def NR:=tu [st "levers" 504,st "dials" 505,st "place" 506,st "lever" 507]
def PK:=ft "need_levers" "need_levers" (tp 25)
def OP:=co "need_levers" "need_levers" 501 103 2 256 257 258 259 260 508
def O3:=fo "need_levers" "need_levers" (tp 25) .none (st "dialvault.vault" 411) 261
def La:=tu [st "levers" 514,st "prices" 515,st "place" 516]
def Nk:=ft "prices_for" "prices_for" (tp 26)
def N_:=co "prices_for" "prices_for" 511 109 2 263 264 265 266 267 517
def Nf:=fo "prices_for" "prices_for" (tp 26) .none (st "dialvault.vault" 411) 268
def KN:=ft "rests" "rests" (tp 27)
def LK:Obj:=⟨.type "code", none,(.fields ⟨[st "rests" 520,st "rests" 521,st "/claim/cut.py" 522,.int 118 0,.int 2 0,.int 0 0,.int 0 0,.int 3 0,.ref 270,.bool true,.int 181 0,.ref 271,.none,.none,.none,.ref 272,.int 523 0,.int 118 0,st "/claim/cut.py" 524]⟩),⟨[]⟩⟩
def Mo:=fo "rests" "rests" (tp 27) .none (st "dialvault.vault" 411) 273
def NP:=tu [st "vault" 529]
def NZ:=ft "nought" "nought" (tp 28)
def Qd:=co "nought" "nought" 526 120 1 275 276 277 278 279 530
def Pl:=fo "nought" "nought" (tp 28) .none (st "dialvault.vault" 411) 280
def Ld:=ft "is_setting" "is_setting" (tp 29)
def Mf:Obj:=⟨.type "code", none,(.fields ⟨[st "is_setting" 533,st "is_setting" 534,st "/claim/cut.py" 535,.int 122 0,.int 2 0,.int 0 0,.int 0 0,.int 3 0,.ref 282,.bool true,.int 181 0,.ref 283,.none,.none,.none,.ref 284,.int 536 0,.int 122 0,st "/claim/cut.py" 537]⟩),⟨[]⟩⟩
def N9:=fo "is_setting" "is_setting" (tp 29) .none (st "dialvault.vault" 411) 285
def Qf:=tu [st "vault" 542,st "thing" 543]
def Nh:=ft "need_setting" "need_setting" (tp 30)
def NJ:=co "need_setting" "need_setting" 539 127 2 287 288 289 290 291 544
def Oo:=fo "need_setting" "need_setting" (tp 30) .none (st "dialvault.vault" 411) 292
def Lj:=ft "weigh" "weigh" (tp 32)
def M_:Obj:=⟨.type "code", none,(.fields ⟨[st "weigh" 549,st "weigh" 550,st "/claim/cut.py" 551,.int 131 0,.int 3 0,.int 0 0,.int 0 0,.int 3 0,.ref 294,.bool true,.int 181 0,.ref 295,.none,.none,.none,.ref 296,.int 552 0,.int 131 0,st "/claim/cut.py" 553]⟩),⟨[]⟩⟩
def Mg:=fo "weigh" "weigh" (tp 32) .none (st "dialvault.papers" 547) 297
def PC:=ft "mixed" "mixed" (tp 34)
def N2:Obj:=⟨.type "code", none,(.fields ⟨[st "mixed" 557,st "mixed" 558,st "/claim/cut.py" 559,.int 138 0,.int 4 0,.int 0 0,.int 0 0,.int 3 0,.ref 299,.bool true,.int 181 0,.ref 300,.none,.none,.none,.ref 301,.int 560 0,.int 138 0,st "/claim/cut.py" 561]⟩),⟨[]⟩⟩
def Qc:=fo "mixed" "mixed" (tp 34) .none (st "dialvault.rungs" 555) 302
def Mx:=tu [st "sizes" 566,st "made" 567,st "times" 568,st "other" 569,st "others" 570,st "doing" 571]
def Ms:=ft "mixed_made" "mixed_made" (tp 35)
def Nv:=co "mixed_made" "mixed_made" 563 140 5 304 305 306 307 308 572
def MX:=fo "mixed_made" "mixed_made" (tp 35) .none (st "dialvault.rungs" 555) 309
def MA:=tu [st "vault" 578,st "setting" 579]
def M5:=ft "unpulled" "unpulled" (tp 36)
def M1:=co "unpulled" "unpulled" 575 143 2 311 312 313 314 315 580
def Kx:=fo "unpulled" "unpulled" (tp 36) .none (st "dialvault.rungs" 555) 316
def PN:=tu [st "vault" 586,st "lever" 587,st "levers" 588]
def MQ:=ft "pulled_once" "pulled_once" (tp 37)
def OV:=co "pulled_once" "pulled_once" 583 145 2 318 319 320 321 322 589
def OQ:=fo "pulled_once" "pulled_once" (tp 37) .none (st "dialvault.rungs" 555) 323
def L8 P:=pt (L7 P) [(3,K6 P),(12,Lg)] [b7 P,b8 P,Qh,b7 P,Ov,Na,MM,b7 P,b8 P,NR,b7 P,PK,OP,O3,b7 P,b8 P,La,b7 P,Nk,N_,Nf,b7 P,b8 P,KN,LK,Mo,b7 P,b8 P,NP,b7 P,NZ,Qd,Pl,b7 P,b8 P,Ld,Mf,N9,b7 P,b8 P,Qf,b7 P,Nh,NJ,Oo,b7 P,b8 P,Lj,M_,Mg,b7 P,b8 P,PC,N2,Qc,b7 P,b8 P,Mx,b7 P,Ms,Nv,MX,b7 P,b8 P,MA,b7 P,M5,M1,Kx,b7 P,b8 P,PN,b7 P,MQ,OV,OQ]
def LD P:=di 46 (en P "__name__" 165 (st "dialvault.rungs" 555)::(gl P).take 45)
def N1:=fi [1,0,20,5,0,27,9,0,47,16,0,73,23,0,99,30,0,125,34,0,144,39,0,163,41,0,168,45,0,175,56,0,182,61,0,187,63,0,192,72,0,199,93,0,247,95,0,254,103,0,261,109,0,268,118,0,273,120,0,280,122,0,285,127,0,292,131,0,297,138,0,302,140,0,309,143,0,316,145,0,323,148,0,330,151,0,337,160,0,344,165,0,351]
def K8:=tu [st "sizes" 595,st "made_rows" 596,st "dial" 597,st "notch" 598]
def Nd:=ft "step_size" "step_size" (tp 38)
def Ox:=co "step_size" "step_size" 592 148 3 325 326 327 328 329 599
def Ly:=fo "step_size" "step_size" (tp 38) .none (st "dialvault.rungs" 555) 330
def Ni:=tu [st "sizes" 605,st "made_rows" 606,st "left" 607,st "wider" 608,st "dial" 609,st "made" 610,st "step" 611,st "notch" 612,st "found" 613]
def O_:=ft "taken_in" "taken_in" (tp 39)
def Pj:=co "taken_in" "taken_in" 602 151 3 332 333 334 335 336 614
def Qs:=fo "taken_in" "taken_in" (tp 39) .none (st "dialvault.rungs" 555) 337
def Om:=tu [st "sizes" 620,st "made_rows" 621,st "made" 622,st "first" 623,st "dial" 624,st "times" 625]
def PZ:=ft "lowered" "lowered" (tp 40)
def Qq:=co "lowered" "lowered" 617 160 4 339 340 341 342 343 626
def MG:=fo "lowered" "lowered" (tp 40) .none (st "dialvault.rungs" 555) 344
def LC:=tu [st "pulls" 632,st "idle_rows" 633,st "lever" 634,st "row" 635]
def Pr:=ft "in_spans" "in_spans" (tp 41)
def PH:=co "in_spans" "in_spans" 629 165 2 346 347 348 349 350 636
def OC:=fo "in_spans" "in_spans" (tp 41) .none (st "dialvault.rungs" 555) 351
def L9 P:=pt (L8 P) [(3,LD P),(12,N1)] [b7 P,b8 P,K8,b7 P,Nd,Ox,Ly,b7 P,b8 P,Ni,b7 P,O_,Pj,Qs,b7 P,b8 P,Om,b7 P,PZ,Qq,MG,b7 P,b8 P,LC,b7 P,Pr,PH,OC]
def Ky P:=di 47 (en P "__name__" 165 (st "dialvault.rungs" 555)::(gl P).take 46)
def N0:=fi [1,0,20,5,0,27,9,0,47,16,0,73,23,0,99,30,0,125,34,0,144,39,0,163,41,0,168,45,0,175,56,0,182,61,0,187,63,0,192,72,0,199,93,0,247,95,0,254,103,0,261,109,0,268,118,0,273,120,0,280,122,0,285,127,0,292,131,0,297,138,0,302,140,0,309,143,0,316,145,0,323,148,0,330,151,0,337,160,0,344,165,0,351,170,0,358]
def Pa P:=di 13 [en P "__module__" 646 (st "dialvault.rungs" 555),en P "__qualname__" 648 (st "Rungs" 647),en P "__firstlineno__" 650 (.int 170 649),en P "__init__" 656 (.ref 364),en P "steps" 662 (.ref 369),en P "rows" 669 (.ref 376),en P "spans" 676 (.ref 383),en P "idle" 683 (.ref 390),en P "brought_down" 691 (.ref 397),en P "least" 699 (.ref 404),en P "pulls_to" 707 (.ref 411),en P "weights_at" 713 (.ref 416),en P "__static_attributes__" 717 (.ref 417)]
def Ob:=fi [172,4,363,184,4,368,188,4,375,191,4,382,194,4,389,197,4,396,201,4,403,204,4,410,207,4,415]
def KU:=cc "Rungs" 641 170 356 357 644
def Nl:=fr 358 355 "dialvault.rungs" 555
def PR:=ft "__init__" "Rungs.__init__" (mp 42 0)
def Mu:Obj:=⟨.type "code", none,(.fields ⟨[st "__init__" 651,st "Rungs.__init__" 652,st "/claim/cut.py" 653,.int 172 0,.int 2 0,.int 0 0,.int 0 0,.int 3 0,.ref 360,.bool true,.int 181 0,.ref 361,.none,.none,.none,.ref 362,.int 654 0,.int 172 0,st "/claim/cut.py" 655]⟩),⟨[]⟩⟩
def Le:=fo "__init__" "Rungs.__init__" (mp 42 0) .none (st "dialvault.rungs" 555) 363
def ML:=ft "steps" "Rungs.steps" (mp 42 1)
def Pt:Obj:=⟨.type "code", none,(.fields ⟨[st "steps" 657,st "Rungs.steps" 658,st "/claim/cut.py" 659,.int 184 0,.int 1 0,.int 0 0,.int 0 0,.int 3 0,.ref 365,.bool true,.int 181 0,.ref 366,.none,.none,.none,.ref 367,.int 660 0,.int 184 0,st "/claim/cut.py" 661]⟩),⟨[]⟩⟩
def OO:=fo "steps" "Rungs.steps" (mp 42 1) .none (st "dialvault.rungs" 555) 368
def Mj:=tu [st "self" 666]
def O6:=ft "rows" "Rungs.rows" (mp 42 2)
def Pz:=co "rows" "Rungs.rows" 663 188 1 370 371 372 373 374 667
def NX:=fo "rows" "Rungs.rows" (mp 42 2) .none (st "dialvault.rungs" 555) 375
def Qy:=tu [st "self" 673]
def OR:=ft "spans" "Rungs.spans" (mp 42 3)
def Oq:=co "spans" "Rungs.spans" 670 191 1 377 378 379 380 381 674
def O4:=fo "spans" "Rungs.spans" (mp 42 3) .none (st "dialvault.rungs" 555) 382
def K4:=tu [st "self" 680]
def Pf:=ft "idle" "Rungs.idle" (mp 42 4)
def LO:=co "idle" "Rungs.idle" 677 194 1 384 385 386 387 388 681
def MS:=fo "idle" "Rungs.idle" (mp 42 4) .none (st "dialvault.rungs" 555) 389
def Pe:=tu [st "self" 687,st "setting" 688]
def Qi:=ft "brought_down" "Rungs.brought_down" (mp 42 5)
def Qo:=co "brought_down" "Rungs.brought_down" 684 197 2 391 392 393 394 395 689
def N8:=fo "brought_down" "Rungs.brought_down" (mp 42 5) .none (st "dialvault.rungs" 555) 396
def Nq:=tu [st "self" 695,st "setting" 696]
def KP:=ft "least" "Rungs.least" (mp 42 6)
def MN:=co "least" "Rungs.least" 692 201 2 398 399 400 401 402 697
def Lk:=fo "least" "Rungs.least" (mp 42 6) .none (st "dialvault.rungs" 555) 403
def Pu:=tu [st "self" 703,st "setting" 704]
def O0:=ft "pulls_to" "Rungs.pulls_to" (mp 42 7)
def MB:=co "pulls_to" "Rungs.pulls_to" 700 204 2 405 406 407 408 409 705
def LI:=fo "pulls_to" "Rungs.pulls_to" (mp 42 7) .none (st "dialvault.rungs" 555) 410
def O1:=ft "weights_at" "Rungs.weights_at" (mp 42 8)
def LG:Obj:=⟨.type "code", none,(.fields ⟨[st "weights_at" 708,st "Rungs.weights_at" 709,st "/claim/cut.py" 710,.int 207 0,.int 2 0,.int 0 0,.int 0 0,.int 3 0,.ref 412,.bool true,.int 181 0,.ref 413,.none,.none,.none,.ref 414,.int 711 0,.int 207 0,st "/claim/cut.py" 712]⟩),⟨[]⟩⟩
def M0:=fo "weights_at" "Rungs.weights_at" (mp 42 8) .none (st "dialvault.rungs" 555) 415
def K_:=tu [st "idle_rows" 714,st "made_rows" 715,st "vault" 716]
def LR P:=di 4 [en P "__module__" 646 (st "dialvault.rungs" 555),en P "__firstlineno__" 650 (.int 170 649),en P "__init__" 656 (.ref 364),en P "steps" 662 (.ref 369),en P "rows" 669 (.ref 376),en P "spans" 676 (.ref 383),en P "idle" 683 (.ref 390),en P "brought_down" 691 (.ref 397),en P "least" 699 (.ref 404),en P "pulls_to" 707 (.ref 411),en P "weights_at" 713 (.ref 416),en P "__static_attributes__" 717 (.ref 417),en P "__dict__" 719 (.ref 420),en P "__weakref__" 721 (.ref 421),en P "__doc__" 722 .none]
def LU:=cl "Rungs" [.type "object"] [.ref 419,.type "object"] 418 [] [none,none,some (st "Rungs" 639),some (st "Rungs" 647),some (.builtin "object.__new__"),some (.bool true)]
def LY:Obj:=⟨.type "getset_descriptor", none,(.fields ⟨[st "__dict__" 718,.ref 419,.builtin "function.__dict__", .builtin "function.__dict__#set"]⟩),⟨[]⟩⟩
def Pb:Obj:=⟨.type "getset_descriptor", none,(.fields ⟨[st "__weakref__" 720,.ref 419,.builtin "ExceptionGroup.__weakref__", .none]⟩),⟨[]⟩⟩
def LZ:=su 419
def KA:=ii 419
def KR P:=pt (L9 P) [(3,Ky P),(12,N0)] [b7 P,o9,Pa P,b7 P,Ob,KU,Nl,b7 P,b8 P,PR,Mu,Le,b7 P,b8 P,ML,Pt,OO,b7 P,b8 P,Mj,b7 P,O6,Pz,NX,b7 P,b8 P,Qy,b7 P,OR,Oq,O4,b7 P,b8 P,K4,b7 P,Pf,LO,MS,b7 P,b8 P,Pe,b7 P,Qi,Qo,N8,b7 P,b8 P,Nq,b7 P,KP,MN,Lk,b7 P,b8 P,Pu,b7 P,O0,MB,LI,b7 P,b8 P,O1,LG,M0,K_,LR P,LU,LY,Pb,LZ,KA]
def Qg P:=di 59 (en P "__name__" 165 (st "law_dialvault_k25_step_weights" 725)::(gl P).take 58)
def Mn:=fi [1,0,20,5,0,27,9,0,47,16,0,73,23,0,99,30,0,125,34,0,144,39,0,163,41,0,168,45,0,175,56,0,182,61,0,187,63,0,192,72,0,199,93,0,247,95,0,254,103,0,261,109,0,268,118,0,273,120,0,280,122,0,285,127,0,292,131,0,297,138,0,302,140,0,309,143,0,316,145,0,323,148,0,330,151,0,337,160,0,344,165,0,351,170,0,358,220,0,429,224,0,436,231,0,443,238,0,448,249,0,455,251,0,462,262,0,469,271,0,476,279,0,481,281,0,488,287,0,493,291,0,500]
def M6:=tu [st "_law_script" 730,st "_law_k" 731]
def Qn:=ft "_law_cell" "_law_cell" (tp 44)
def Qt:=co "_law_cell" "_law_cell" 727 220 2 424 425 426 427 428 732
def Ow:=fo "_law_cell" "_law_cell" (tp 44) .none (st "law_dialvault_k25_step_weights" 725) 429
def Lb:=tu [st "_law_cell_here" 738,st "_law_many" 739,st "_law_found" 740,st "_law_number" 741,st "_law_k" 742]
def Np:=ft "_law_stream" "_law_stream" (tp 45)
def Qu:=co "_law_stream" "_law_stream" 735 224 2 431 432 433 434 435 743
def Lf:=fo "_law_stream" "_law_stream" (tp 45) .none (st "law_dialvault_k25_step_weights" 725) 436
def Pd:=tu [st "_law_cell_here" 749,st "_law_bases" 750,st "_law_found" 751,st "_law_left" 752,st "_law_base" 753]
def Mq:=ft "_law_digits" "_law_digits" (tp 46)
def Kw:=co "_law_digits" "_law_digits" 746 231 2 438 439 440 441 442 754
def Nc:=fo "_law_digits" "_law_digits" (tp 46) .none (st "law_dialvault_k25_step_weights" 725) 443
def Ph:=ft "_law_sizes" "_law_sizes" (tp 47)
def K0:Obj:=⟨.type "code", none,(.fields ⟨[st "_law_sizes" 757,st "_law_sizes" 758,st "/claim/cut.py" 759,.int 238 0,.int 1 0,.int 0 0,.int 0 0,.int 3 0,.ref 445,.bool true,.int 181 0,.ref 446,.none,.none,.none,.ref 447,.int 760 0,.int 238 0,st "/claim/cut.py" 761]⟩),⟨[]⟩⟩
def K7:=fo "_law_sizes" "_law_sizes" (tp 47) .none (st "law_dialvault_k25_step_weights" 725) 448
def LM:=tu [st "_law_number" 766]
def M7:=ft "_law_great" "_law_great" (tp 48)
def Oh:=co "_law_great" "_law_great" 763 249 1 450 451 452 453 454 767
def NH:=fo "_law_great" "_law_great" (tp 48) .none (st "law_dialvault_k25_step_weights" 725) 455
def P7:=tu [st "_law_cell_here" 773,st "_law_sizes_here" 774,st "_law_row" 775,st "_law_number" 776,st "_law_size" 777,st "_law_share" 778]
def OT:=ft "_law_lever" "_law_lever" (tp 49)
def Ng:=co "_law_lever" "_law_lever" 770 251 2 457 458 459 460 461 779
def KZ:=fo "_law_lever" "_law_lever" (tp 49) .none (st "law_dialvault_k25_step_weights" 725) 462
def KH:=tu [st "_law_script" 785,st "_law_sizes_here" 786,st "_law_levers_here" 787,st "_law_k" 788,st "_law_cell_here" 789]
def MT:=ft "_law_levers" "_law_levers" (tp 50)
def Mh:=co "_law_levers" "_law_levers" 782 262 2 464 465 466 467 468 790
def KW:=fo "_law_levers" "_law_levers" (tp 50) .none (st "law_dialvault_k25_step_weights" 725) 469
def KC:=tu [st "_law_sizes_here" 796,st "_law_found" 797,st "_law_size" 798,st "_law_one" 799,st "_law_other" 800]
def Nw:=ft "_law_round" "_law_round" (tp 51)
def O5:=co "_law_round" "_law_round" 793 271 1 471 472 473 474 475 801
def KJ:=fo "_law_round" "_law_round" (tp 51) .none (st "law_dialvault_k25_step_weights" 725) 476
def P8:=ft "_law_added" "_law_added" (tp 52)
def K3:Obj:=⟨.type "code", none,(.fields ⟨[st "_law_added" 804,st "_law_added" 805,st "/claim/cut.py" 806,.int 279 0,.int 4 0,.int 0 0,.int 0 0,.int 3 0,.ref 478,.bool true,.int 181 0,.ref 479,.none,.none,.none,.ref 480,.int 807 0,.int 279 0,st "/claim/cut.py" 808]⟩),⟨[]⟩⟩
def OL:=fo "_law_added" "_law_added" (tp 52) .none (st "law_dialvault_k25_step_weights" 725) 481
def M9:=tu [st "_law_sizes_here" 813,st "_law_weights" 814,st "_law_setting_here" 815,st "_law_around" 816,st "_law_total" 817,st "_law_weight" 818,st "_law_notch" 819,st "_law_size" 820]
def Oi:=ft "_law_weighed" "_law_weighed" (tp 53)
def NV:=co "_law_weighed" "_law_weighed" 810 281 3 483 484 485 486 487 821
def MO:=fo "_law_weighed" "_law_weighed" (tp 53) .none (st "law_dialvault_k25_step_weights" 725) 488
def NO:=ft "_law_setting" "_law_setting" (tp 54)
def NL:Obj:=⟨.type "code", none,(.fields ⟨[st "_law_setting" 824,st "_law_setting" 825,st "/claim/cut.py" 826,.int 287 0,.int 2 0,.int 0 0,.int 0 0,.int 3 0,.ref 490,.bool true,.int 181 0,.ref 491,.none,.none,.none,.ref 492,.int 827 0,.int 287 0,st "/claim/cut.py" 828]⟩),⟨[]⟩⟩
def NA:=fo "_law_setting" "_law_setting" (tp 54) .none (st "law_dialvault_k25_step_weights" 725) 493
def MJ:=tu [st "_law_sizes_here" 833,st "_law_steps" 834,st "_law_weights" 835,st "_law_dial" 836,st "_law_at" 837,st "_law_weight" 838]
def Mi:=ft "_law_form_good" "_law_form_good" (tp 55)
def OG:=co "_law_form_good" "_law_form_good" 830 291 4 495 496 497 498 499 839
def NN:=fo "_law_form_good" "_law_form_good" (tp 55) .none (st "law_dialvault_k25_step_weights" 725) 500
def Lr P:=pt (KR P) [(3,Qg P),(12,Mn)] [b7 P,b8 P,M6,b7 P,Qn,Qt,Ow,b7 P,b8 P,Lb,b7 P,Np,Qu,Lf,b7 P,b8 P,Pd,b7 P,Mq,Kw,Nc,b7 P,b8 P,Ph,K0,K7,b7 P,b8 P,LM,b7 P,M7,Oh,NH,b7 P,b8 P,P7,b7 P,OT,Ng,KZ,b7 P,b8 P,KH,b7 P,MT,Mh,KW,b7 P,b8 P,KC,b7 P,Nw,O5,KJ,b7 P,b8 P,P8,K3,OL,b7 P,b8 P,M9,b7 P,Oi,NV,MO,b7 P,b8 P,NO,NL,NA,b7 P,b8 P,MJ,b7 P,Mi,OG,NN]
def PD P:=di 63 (en P "__name__" 165 (st "law_dialvault_k25_step_weights" 725)::gl P)
def LV:=fi [1,0,20,5,0,27,9,0,47,16,0,73,23,0,99,30,0,125,34,0,144,39,0,163,41,0,168,45,0,175,56,0,182,61,0,187,63,0,192,72,0,199,93,0,247,95,0,254,103,0,261,109,0,268,118,0,273,120,0,280,122,0,285,127,0,292,131,0,297,138,0,302,140,0,309,143,0,316,145,0,323,148,0,330,151,0,337,160,0,344,165,0,351,170,0,358,220,0,429,224,0,436,231,0,443,238,0,448,249,0,455,251,0,462,262,0,469,271,0,476,279,0,481,281,0,488,287,0,493,291,0,500,302,0,507,311,0,514,316,0,521,325,0,526]
def Ln:=tu [st "_law_rungs" 845,st "_law_bad" 846,st "_law_found" 847,st "e" 848]
def PX:=ft "_law_refused" "_law_refused" (tp 56)
def OX:=co "_law_refused" "_law_refused" 842 302 2 502 503 504 505 506 849
def Of:=fo "_law_refused" "_law_refused" (tp 56) .none (st "law_dialvault_k25_step_weights" 725) 507
def Oe:=tu [st "_law_sizes_here" 855,st "_law_levers_here" 856,st "_law_weights" 857,st "_law_row" 858]
def Od:=ft "_law_all_still" "_law_all_still" (tp 57)
def ND:=co "_law_all_still" "_law_all_still" 852 311 3 509 510 511 512 513 859
def Qa:=fo "_law_all_still" "_law_all_still" (tp 57) .none (st "law_dialvault_k25_step_weights" 725) 514
def Lq:=tu [st "_law_rungs" 865,st "_law_sizes_here" 866,st "_law_all_weights" 867,st "_law_setting_here" 868,st "_law_least" 869,st "_law_dial" 870,st "_law_number" 871,st "_law_weights" 872]
def Lm:=ft "_law_weighs_setting" "_law_weighs_setting" (tp 58)
def LB:=co "_law_weighs_setting" "_law_weighs_setting" 862 316 4 516 517 518 519 520 873
def N6:=fo "_law_weighs_setting" "_law_weighs_setting" (tp 58) .none (st "law_dialvault_k25_step_weights" 725) 521
def LJ:=ft "law" "law" (tp 59)
def MU:Obj:=⟨.type "code", none,(.fields ⟨[st "law" 876,st "law" 877,st "/claim/cut.py" 878,.int 325 0,.int 1 0,.int 0 0,.int 0 0,.int 3 0,.ref 523,.bool true,.int 181 0,.ref 524,.none,.none,.none,.ref 525,.int 879 0,.int 325 0,st "/claim/cut.py" 880]⟩),⟨[]⟩⟩
def LX:=fo "law" "law" (tp 59) .none (st "law_dialvault_k25_step_weights" 725) 526
def Mm P:=pt (Lr P) [(3,PD P),(12,LV)] [b7 P,b8 P,Ln,b7 P,PX,OX,Of,b7 P,b8 P,Oe,b7 P,Od,ND,Qa,b7 P,b8 P,Lq,b7 P,Lm,LB,N6,b7 P,b8 P,LJ,MU,LX]
def LF (P:Params):=Mm P
def bE:List Stmt:=behindTheImports pw
def env:Env:={ scope:=pw.main.scope,locals:=mainNs,globals:=mainNs,cells:=[],code:=.ref 13,frame:=some 14 }
def cE:Code:=.body bE env
abbrev B:List Frame:=[topFrame ⟨0,0,0,0⟩]
abbrev ann:Option Value:=(some (.ref 6))
def F2:List Stmt:=(bE.drop 0).take 3
def FL:List Stmt:=(bE.drop 3).take 1
def GN:List Stmt:=(bE.drop 4).take 1
def Gb:List Stmt:=(bE.drop 5).take 1
def HU:List Stmt:=(bE.drop 6).take 1
def GO:List Stmt:=(bE.drop 7).take 7
def Hh:List Stmt:=(bE.drop 14).take 8
def GF:List Stmt:=(bE.drop 22).take 2
def Ha:List Stmt:=(bE.drop 24).take 14
def GQ:List Stmt:=(bE.drop 38).take 4
def B8:List Stmt:=(bE.drop 42).take 1
def AU:List Stmt:=(bE.drop 43).take 13
def B9:List Stmt:=(bE.drop 56).take 4
end
theorem zQ:∀ w:World,(fun os=>topGo treeTable pw w 11 ann 12 ⟨boot_heap w.params,⟨[]⟩,boot_drawn,boot_toks,os⟩ (topStub pw))=fun os=>some (F LA 187 w os,⟨denote treeTable cE,cE,⟨0,0,0,0⟩,B⟩):=fun w=>by
 rw [PySem.W.Fast.te15667345088766844465,PySem.W.Fast.te14364793385576792824,PySem.W.Fast.te11892475500146522536]
 kernel_rfl
theorem Mp:∀ w:World,(fun os=>segRun treeTable pw w 11 ann 1 1 (F LA 187 w os) (blockOf bE env cE ⟨0,0,0,0⟩ B))=fun os=>some (Flow.next,(S LA 15 187 w os).abs,cE,⟨0,0,0,0⟩):=fun w=>by
 rw [PySem.W.Fast.te14374325043358763698,PySem.W.Fast.te14364793385576792824]
 kernel_rfl
theorem Rr:∀ w:World,(fun os=>segRunT treeTable pw w 11 ann 1 255 (S LA 15 187 w os) (piecesOf F2 env cE ⟨0,0,0,0⟩ B))=fun os=>some (Flow.next,S L0 42 221 w os,cE,⟨5,0,8,16⟩):=fun w=>by
 rw [PySem.W.Fast.te10110043849684766642,PySem.W.Fast.te14364793385576792824]
 kernel_rfl
theorem RX:∀ w:World,(fun os=>segRunT treeTable pw w 11 ann 1 277 (S L0 42 221 w os) (piecesOf FL env cE ⟨5,0,8,16⟩ B))=fun os=>some (Flow.next,S L1 68 253 w os,cE,⟨9,0,15,16⟩):=fun w=>by
 rw [PySem.W.Fast.te10110043849684766642,PySem.W.Fast.te14364793385576792824]
 kernel_rfl
theorem IA:∀ w:World,(fun os=>segRunT treeTable pw w 11 ann 1 277 (S L1 68 253 w os) (piecesOf GN env cE ⟨9,0,15,16⟩ B))=fun os=>some (Flow.next,S L2 94 285 w os,cE,⟨16,0,22,16⟩):=fun w=>by
 rw [PySem.W.Fast.te10110043849684766642,PySem.W.Fast.te14364793385576792824]
 kernel_rfl
theorem RB:∀ w:World,(fun os=>segRunT treeTable pw w 11 ann 1 277 (S L2 94 285 w os) (piecesOf Gb env cE ⟨16,0,22,16⟩ B))=fun os=>some (Flow.next,S L3 120 317 w os,cE,⟨23,0,29,16⟩):=fun w=>by
 rw [PySem.W.Fast.te10110043849684766642,PySem.W.Fast.te14364793385576792824]
 kernel_rfl
theorem QN:∀ w:World,(fun os=>segRunT treeTable pw w 11 ann 1 244 (S L3 120 317 w os) (piecesOf HU env cE ⟨23,0,29,16⟩ B))=fun os=>some (Flow.next,S L4 139 340 w os,cE,⟨30,0,33,16⟩):=fun w=>by
 rw [PySem.W.Fast.te10110043849684766642,PySem.W.Fast.te14364793385576792824]
 kernel_rfl
theorem R9:∀ w:World,(fun os=>segRunT treeTable pw w 11 ann 1 399 (S L4 139 340 w os) (piecesOf GO env cE ⟨30,0,33,16⟩ B))=fun os=>some (Flow.next,S L5 189 405 w os,cE,⟨61,0,62,73⟩):=fun w=>by
 rw [PySem.W.Fast.te10110043849684766642,PySem.W.Fast.te14364793385576792824]
 kernel_rfl
theorem R5:∀ w:World,(fun os=>segRunT treeTable pw w 11 ann 1 90 (S L5 189 405 w os) (piecesOf Hh env cE ⟨61,0,62,73⟩ B))=fun os=>some (Flow.next,S L6 194 425 w os,cE,⟨71,0,71,10⟩):=fun w=>by
 rw [PySem.W.Fast.te10110043849684766642,PySem.W.Fast.te14364793385576792824]
 kernel_rfl
theorem Ry:∀ w:World,(fun os=>segRunT treeTable pw w 11 ann 1 378 (S L6 194 425 w os) (piecesOf GF env cE ⟨71,0,71,10⟩ B))=fun os=>some (Flow.next,S L7 249 492 w os,cE,⟨93,0,94,53⟩):=fun w=>by
 rw [PySem.W.Fast.te10110043849684766642,PySem.W.Fast.te14364793385576792824]
 kernel_rfl
theorem Sx:∀ w:World,(fun os=>segRunT treeTable pw w 11 ann 1 371 (S L7 249 492 w os) (piecesOf Ha env cE ⟨93,0,94,53⟩ B))=fun os=>some (Flow.next,S L8 325 592 w os,cE,⟨145,0,147,56⟩):=fun w=>by
 rw [PySem.W.Fast.te10110043849684766642,PySem.W.Fast.te14364793385576792824]
 kernel_rfl
theorem RS:∀ w:World,(fun os=>segRunT treeTable pw w 11 ann 1 136 (S L8 325 592 w os) (piecesOf GQ env cE ⟨145,0,147,56⟩ B))=fun os=>some (Flow.next,S L9 353 639 w os,cE,⟨165,0,169,16⟩):=fun w=>by
 rw [PySem.W.Fast.te10110043849684766642,PySem.W.Fast.te14364793385576792824]
 kernel_rfl
theorem P4:∀ w:World,(fun os=>segRunT treeTable pw w 11 ann 1 466 (S L9 353 639 w os) (piecesOf B8 env cE ⟨165,0,169,16⟩ B))=fun os=>some (Flow.next,S KR 424 725 w os,cE,⟨170,0,218,29⟩):=fun w=>by
 rw [PySem.W.Fast.te10110043849684766642,PySem.W.Fast.te14364793385576792824]
 kernel_rfl
theorem Ml:∀ w:World,(fun os=>segRunT treeTable pw w 11 ann 1 383 (S KR 424 725 w os) (piecesOf AU env cE ⟨170,0,218,29⟩ B))=fun os=>some (Flow.next,S Lr 502 842 w os,cE,⟨291,0,301,15⟩):=fun w=>by
 rw [PySem.W.Fast.te10110043849684766642,PySem.W.Fast.te14364793385576792824]
 kernel_rfl
theorem OM:∀ w:World,(fun os=>segRunT treeTable pw w 11 ann 1 127 (S Lr 502 842 w os) (piecesOf B9 env cE ⟨291,0,301,15⟩ B))=fun os=>some (Flow.next,S Mm 528 882 w os,cE,⟨325,0,343,15⟩):=fun w=>by
 rw [PySem.W.Fast.te10110043849684766642,PySem.W.Fast.te14364793385576792824]
 kernel_rfl
theorem FN:∀ w:World,(fun os=>topRun treeTable pw w 11 ann 2 (S Mm 528 882 w os).abs ⟨doneF .next,cE,⟨325,0,343,15⟩,B⟩)=fun os=>some (F LF 882 w os):=fun w=>by
 rw [PySem.W.Fast.te14082659384304107361,PySem.W.Fast.te14364793385576792824]
 kernel_rfl
theorem Sh:bE=(F2++(FL++(GN++(Gb++(HU++(GO++(Hh++(GF++(Ha++(GQ++(B8++(AU++(B9++[]))))))))))))):=by kernel_rfl
theorem AJ (w:World) (os:OsState):topRun treeTable pw w 11 ann (255+(277+(277+(277+(244+(399+(90+(378+(371+(136+(466+(383+(127+2))))))))))))) (S LA 15 187 w os).abs (restOf bE env cE ⟨0,0,0,0⟩ B)=some (F LF 882 w os):=by
 rw [show restOf bE env cE ⟨0,0,0,0⟩ B=restOf (F2++(FL++(GN++(Gb++(HU++(GO++(Hh++(GF++(Ha++(GQ++(B8++(AU++(B9++[]))))))))))))) env cE ⟨0,0,0,0⟩ B from congrArg (fun b=>restOf b env cE ⟨0,0,0,0⟩ B) Sh]
 exact piece_app (segRun_of (congrFun (Rr w) os)) (piece_app (segRun_of (congrFun (RX w) os)) (piece_app (segRun_of (congrFun (IA w) os)) (piece_app (segRun_of (congrFun (RB w) os)) (piece_app (segRun_of (congrFun (QN w) os)) (piece_app (segRun_of (congrFun (R9 w) os)) (piece_app (segRun_of (congrFun (R5 w) os)) (piece_app (segRun_of (congrFun (Ry w) os)) (piece_app (segRun_of (congrFun (Sx w) os)) (piece_app (segRun_of (congrFun (RS w) os)) (piece_app (segRun_of (congrFun (P4 w) os)) (piece_app (segRun_of (congrFun (Ml w) os)) (piece_app (segRun_of (congrFun (OM w) os)) (piece_nil (congrFun (FN w) os))))))))))))))
theorem LP (w:World) (os:OsState):topRun treeTable pw w 11 ann (12+(1+(255+(277+(277+(277+(244+(399+(90+(378+(371+(136+(466+(383+(127+2))))))))))))))) ⟨boot_heap w.params,⟨[]⟩,boot_drawn,boot_toks,os⟩ (topStub pw)=some (F LF 882 w os) :=
 go_top (congrFun (zQ w) os) (piece_block (congrFun (Mp w) os) (AJ w os))
end HD
namespace HD
open PySem PySem.W L2
noncomputable section
def vw:Program:=PySem.W.view pw [0,2,3,4,5,6,7,9,10,11,12,13,14,16,17,18,19,20,21,22,23,24,25,26,27,28,29,30,32,34,35,36,37,38,39,40,41,42,44,45,46,47,48,49,50,51,52,53,54,55,56,57,58,59]
def loose:List Str:=[]
def as:List Addr:=[2,3,15,17,18,20,21,22,29,31,32,34,35,36,37,38,39,42,49,51,52,54,55,56,58,59,61,62,63,64,65,68,75,77,78,80,81,82,84,85,87,88,89,90,91,94,101,103,104,106,107,108,110,111,113,114,115,116,117,120,127,129,130,132,133,134,135,136,139,146,148,149,151,152,153,154,155,158,160,161,163,164,165,168,169,170,172,173,175,176,177,179,180,182,183,184,187,188,189,192,193,201,202,205,206,207,209,210,212,213,214,216,217,219,220,221,223,224,226,227,228,230,231,233,234,235,236,237,238,239,242,244,245,247,248,249,251,252,254,255,256,258,259,261,262,263,265,266,268,269,270,273,274,275,277,278,280,281,282,285,286,287,289,290,292,293,294,297,298,299,302,303,304,306,307,309,310,311,313,314,316,317,318,320,321,323,324,325,327,328,330,331,332,334,335,337,338,339,341,342,344,345,346,348,349,351,352,360,363,364,365,368,369,370,372,373,375,376,377,379,380,382,383,384,386,387,389,390,391,393,394,396,397,398,400,401,403,404,405,407,408,410,411,412,415,416,417,418,419,420,421,424,426,427,429,430,431,433,434,436,437,438,440,441,443,444,445,448,449,450,452,453,455,456,457,459,460,462,463,464,466,467,469,470,471,473,474,476,477,478,481,482,483,485,486,488,489,490,493,494,495,497,498,500,501,502,504,505,507,508,509,511,512,514,515,516,518,519,521,522,523,526,527]
def K (P:Params):Frag:=as.map fun a=>(a,(LF P).getD a o0)
def hook:Hook:=kHook K as (fun _=>by kernel_rfl)
abbrev rr:RowW:=(PySem.Challenge.rw_dialvault_k25_step_weights.row).toRowW
def Xt:Shared->Bool:=fun s=>xlAt vw [] s&&recOk (RowW.records rr) s
def H1 (P:Params):Heap:=⟨⟨LF P⟩,{}⟩
end
theorem IT:∀ w:World,((boot_heap w.params).isNs mainGlobals&&(Array.mk []:Array GenState).size==0,(boot_heap w.params).objs.size,(boot_heap w.params).nsMap mainGlobals "__annotations__")=(true,11,ann):=fun w=>by
 rw [PySem.W.Fast.te8920871248978507458]
 kernel_rfl
theorem GK:∀ w:World,(fun os=>((staticsOk (importedModules pw.main.body) (boot_heap w.params) (H1 w.params)&&namesBound pw (H1 w.params)&&gensDone ⟨H1 w.params,⟨[]⟩,⟨0,0,0,0⟩,882,os⟩&&laidKept (boot_heap w.params) (H1 w.params)),
  openSeen vw loose (importedModules pw.main.body) Xt true ⟨H1 w.params,⟨[]⟩,⟨0,0,0,0⟩,882,os⟩,Hook.obs hook ⟨H1 w.params,⟨[]⟩,⟨0,0,0,0⟩,882,os⟩))=fun _=>(true,openGood vw loose,Hook.val hook w):=fun w=>by
 rw [PySem.W.Fast.te4187177175401517315,PySem.W.Fast.te5923862056798008813]
 kernel_rfl
theorem JL:LeftO pw vw loose Xt (Hook.obs hook) (Hook.val hook) 7460 :=
 LeftO.of_pieces (H₀:=boot_heap) (H₁:=H1) (gs₀:=⟨[]⟩) (gs₁:=⟨[]⟩) (d₀:=boot_drawn) (d₁:=⟨0,0,0,0⟩) (k₀:=boot_toks) (k₁:=882) (m₀:=11) (ann:=ann) (M:=(12+(1+(255+(277+(277+(277+(244+(399+(90+(378+(371+(136+(466+(383+(127+2))))))))))))))))
  (boot_open (by kernel_rfl) (by kernel_rfl) (fun s=>by kernel_rfl)) IT LP (by kernel_rfl) GK
end HD
open PySem PySem.W
theorem HD.said:PySem.Challenge.rw_dialvault_k25_step_weights.wellSaid=true:=by
 decide +kernel
namespace wx
open PySem L2 PyProof.Rows
def bG:Addr:=65
def gb:Addr:=91
def eZ:Addr:=117
def g_:Addr:=136
def aA:Addr:=419
def iR:Addr:=155
def aB:Addr:=237
def kW:List Addr:=[bG]
def kJ:List Addr:=[gb,eZ,g_,iR]
def tU:List Addr:=[bG]
noncomputable def gI:af->M Out :=
 (ak (retS (DS (zI (fun a=>lR a "int") nv nv (aa 0)) (FP (zI (fun a=>lR a "bool") nv nv (aa 0)))))
 ao)
noncomputable def cI:List PV->M PV:=bb 1 (aw 1 gI)
noncomputable def iY:af->M Out :=
 (ak (kA (Dj (jE (du (zI (fun a=>["list", "tuple"].any fun t=>lR a t) nv nv (aa 0)))) (du (aj l7 (ai dN (ae (aa 0) aq)) (aa 1)))) (ak (retS (fun _=>M.ok (.bl false)))
 ao) ao)
 (ak (retS (ai uU (ae (eD (dI (itemsOf (aa 0)) (cU 0) none (ai cI (ae (aa 0) aq)) 1 [])) aq)))
 ao))
noncomputable def gi:List PV->M PV:=bb 2 (aw 2 iY)
noncomputable def iX:af->M Out :=
 (ak (aY 2 (k_ (ae (aa 0) (ae (fun _=>M.ok (.int 1)) (ae (fun _=>M.ok (.int 0)) aq)))))
 (ak (aY 3 (k_ (ae (aa 1) (ae (fun _=>M.ok (.int 0)) (ae (fun _=>M.ok (.int 1)) aq)))))
 (ak (l4 (du (aj l7 (aj aJ (aa 3) (fun _=>M.ok (.int 0))) (fun _=>M.ok (.int 0)))) (ak (aY 4 (aj bo (aj aJ (aa 2) (fun _=>M.ok (.int 0))) (aj aJ (aa 3) (fun _=>M.ok (.int 0)))))
 (ak (aY 5 (k_ (ae (aj lS (aj aJ (aa 2) (fun _=>M.ok (.int 0))) (aj cD (aa 4) (aj aJ (aa 3) (fun _=>M.ok (.int 0))))) (ae (aj lS (aj aJ (aa 2) (fun _=>M.ok (.int 1))) (aj cD (aa 4) (aj aJ (aa 3) (fun _=>M.ok (.int 1))))) (ae (aj lS (aj aJ (aa 2) (fun _=>M.ok (.int 2))) (aj cD (aa 4) (aj aJ (aa 3) (fun _=>M.ok (.int 2))))) aq)))))
 (ak (aY 2 (aa 3))
 (ak (aY 3 (aa 5))
 ao)))))
 (ak (kA (du (aj CO (aj aJ (aa 2) (fun _=>M.ok (.int 0))) (fun _=>M.ok (.int 0)))) (ak (retS (k_ (ae (k8 (aj aJ (aa 2) (fun _=>M.ok (.int 0)))) (ae (k8 (aj aJ (aa 2) (fun _=>M.ok (.int 1)))) (ae (k8 (aj aJ (aa 2) (fun _=>M.ok (.int 2)))) aq)))))
 ao) ao)
 (ak (retS (aa 2))
 ao)))))
noncomputable def fw:List PV->M PV:=bb 2 (aw 6 iX)
noncomputable def dy:af->M Out :=
 (ak (aY 1 (fun _=>M.ok (.int 1)))
 (ak (fO (itemsOf (aa 0)) (cU 2) (ak (aY 1 (aj cD (aj bo (aa 1) (aj aJ (ai fw (ae (aa 1) (ae (aa 2) aq))) (fun _=>M.ok (.int 0)))) (aa 2)))
 ao))
 (ak (retS (aa 1))
 ao)))
noncomputable def e9:List PV->M PV:=bb 1 (aw 3 dy)
noncomputable def gK:af->M Out :=
 (ak (retS (ai dG (ae (eD (dI (jM pK (ae (aa 0) aq)) (cU 0) none (yN (du (aj sM (aa 0) (aa 1))) (fun _=>M.ok (.int 1)) (fun _=>M.ok (.int 0))) 1 [1])) aq)))
 ao)
noncomputable def jn:List PV->M PV:=bb 2 (aw 2 gK)
noncomputable def gC:af->M Out :=
 (ak (retS (aj cR (ai z_ (ae (eD (dI (jM zip2 (ae (aa 0) (ae (aa 1) aq))) (bC 0 1) none (aj cD (aa 0) (aa 1)) 2 [])) aq)) (aa 2)))
 ao)
noncomputable def jc:List PV->M PV:=bb 3 (aw 3 gC)
noncomputable def cF:af->M Out :=
 (ak (retS (DS (ai cI (ae (aa 0) aq)) (jo Dk Dk (aa 1) (aa 0) (aa 2))))
 ao)
noncomputable def bx:List PV->M PV:=bb 3 (aw 3 cF)
noncomputable def dP:af->M Out :=
 (ak (kA (du (aj Fq (ai dN (ae (aa 0) aq)) (fun _=>M.ok (.int 6)))) (ak (nq iR (ae (fun _=>M.ok (.str "a vault has at most six dials")) aq))
 ao) ao)
 (ak (kA (du (aj sM (ai dN (ae (aa 0) aq)) (fun _=>M.ok (.int 0)))) (ak (iu bG "dial" (ae (fun _=>M.ok (.int 0)) aq))
 ao) ao)
 (ak (fO (jM zV (ae (aa 0) aq)) (bC 1 2) (ak (kA (jE (du (ai bx (ae (aa 2) (ae (fun _=>M.ok (.int 2)) (ae (fun _=>M.ok (.int 360)) aq)))))) (ak (iu bG "dial" (ae (aa 1) aq))
 ao) ao)
 ao))
 ao)))
noncomputable def fY:List PV->M PV:=bb 1 (aw 3 dP)
noncomputable def dA:af->M Out :=
 (ak (kA (du (aj Fq (ai dN (ae (aa 0) aq)) (fun _=>M.ok (.int 8)))) (ak (nq iR (ae (fun _=>M.ok (.str "a vault has at most eight levers")) aq))
 ao) ao)
 (ak (fO (jM zV (ae (aa 0) aq)) (bC 2 3) (ak (kA (jE (du (ai gi (ae (aa 3) (ae (aa 1) aq))))) (ak (iu gb "lever" (ae (aa 2) aq))
 ao) ao)
 ao))
 ao))
noncomputable def fc:List PV->M PV:=bb 2 (aw 4 dA)
noncomputable def dW:af->M Out :=
 (ak (kA (du (aj xh (aa 1) (fun _=>M.ok .cS))) (ak (retS (aj cD (k_ (ae (fun _=>M.ok (.int 1)) aq)) (ai dN (ae (aa 0) aq))))
 ao) ao)
 (ak (fO (jM pK (ae (ai (Fv fun i j=>if j>i then j else i) (ae (ai dN (ae (aa 0) aq)) (ae (ai dN (ae (aa 1) aq)) aq))) aq)) (cU 2) (ak (kA (Dj (du (aj IB (aa 2) (ai dN (ae (aa 0) aq)))) (du (aj IB (aa 2) (ai dN (ae (aa 1) aq))))) (ak (iu eZ "lever" (ae (aa 2) aq))
 ao) ao)
 (ak (kA (jE (du (ai bx (ae (aj aJ (aa 1) (aa 2)) (ae (fun _=>M.ok (.int 1)) (ae (fun _=>M.ok (.int 1000)) aq)))))) (ak (iu eZ "lever" (ae (aa 2) aq))
 ao) ao)
 ao)))
 (ak (retS (ai dG (ae (aa 1) aq)))
 ao)))
noncomputable def fS:List PV->M PV:=bb 2 (aw 3 dW)
noncomputable def kN:af->M Out :=
 (ak (retS (ai dG (ae (eD (dI (jM zip2 (ae (aa 0) (ae (aa 1) aq))) (bC 0 1) none (aj cR (aa 0) (aa 1)) 2 [])) aq)))
 ao)
noncomputable def kU:List PV->M PV:=bb 2 (aw 2 kN)
noncomputable def kH:af->M Out :=
 (ak (retS (ai dG (ae (eD (dI (jM zip2 (ae (aa 0) (ae (aa 2) aq))) (bC 0 1) none (aj fT (aj cD (aa 2) (aa 0)) (aj cD (aa 3) (aa 1))) 2 [1,3])) aq)))
 ao)
noncomputable def kS:List PV->M PV:=bb 4 (aw 4 kH)
noncomputable def da:af->M Out :=
 (ak (aY 5 (ai kS (ae (aj aJ (aa 1) (fun _=>M.ok (.int 0))) (ae (aa 2) (ae (aj aJ (aa 3) (fun _=>M.ok (.int 0))) (ae (aa 4) aq))))))
 (ak (retS (k_ (ae (ai kU (ae (aa 5) (ae (aa 0) aq))) (ae (ai kS (ae (aj aJ (aa 1) (fun _=>M.ok (.int 1))) (ae (aa 2) (ae (aj aJ (aa 3) (fun _=>M.ok (.int 1))) (ae (aa 4) aq))))) aq))))
 ao))
noncomputable def dm:List PV->M PV:=bb 5 (aw 6 da)
noncomputable def cX:af->M Out :=
 (ak (aY 3 (aj aJ (aj aJ (aj aJ (aa 1) (aa 2)) (fun _=>M.ok (.int 0))) (aa 2)))
 (ak (retS (yN (du (aj sM (aa 3) (fun _=>M.ok (.int 0)))) (aj aJ (aa 0) (aa 2)) (aa 3)))
 ao))
noncomputable def cV:List PV->M PV:=bb 3 (aw 4 cX)
noncomputable def gO:af->M Out :=
 (ak (qO 3 (ko aq))
 (ak (fO (jM zV (ae (aa 1) aq)) (bC 4 5) (ak (aY 6 (ai cV (ae (aa 0) (ae (aa 1) (ae (aa 4) aq)))))
 (ak (aY 7 (aj aJ (aj aJ (aa 2) (fun _=>M.ok (.int 0))) (aa 4)))
 (ak (aY 8 (ai fw (ae (aa 6) (ae (aa 7) aq))))
 (ak (jl 3 (ai dm (ae (aa 0) (ae (aa 5) (ae (aj aJ (aa 8) (fun _=>M.ok (.int 1))) (ae (aa 2) (ae (aj aJ (aa 8) (fun _=>M.ok (.int 2))) aq)))))))
 (ak (aY 2 (ai dm (ae (aa 0) (ae (aa 2) (ae (aj bo (aa 6) (aj aJ (aa 8) (fun _=>M.ok (.int 0)))) (ae (aa 5) (ae (k8 (aj bo (aa 7) (aj aJ (aa 8) (fun _=>M.ok (.int 0))))) aq)))))))
 ao))))))
 (ak (p5 [3] (retS (k_ (ae (aa 3) (ae (aj aJ (aa 2) (fun _=>M.ok (.int 1))) aq)))))
 ao)))
noncomputable def jr:List PV->M PV:=bb 3 (aw 9 gO)
noncomputable def gc:af->M Out :=
 (ak (fO (jM Ad (ae (aa 3) (ae (ai dN (ae (aa 0) aq)) aq))) (cU 4) (ak (aY 5 (aj bo (aj aJ (aj aJ (aa 2) (fun _=>M.ok (.int 0))) (aa 4)) (ai cV (ae (aa 0) (ae (aa 1) (ae (aa 4) aq))))))
 (ak (aY 2 (ai dm (ae (aa 0) (ae (aa 2) (ae (fun _=>M.ok (.int 1)) (ae (aj aJ (aa 1) (aa 4)) (ae (k8 (aa 5)) aq)))))))
 ao)))
 (ak (retS (aa 2))
 ao))
noncomputable def eO:List PV->M PV:=bb 4 (aw 6 gc)
noncomputable def gv:af->M Out :=
 (ak (fO (jM zE (ae (aj lS (ai dN (ae (aa 1) aq)) (fun _=>M.ok (.int 1))) (ae (k8 (fun _=>M.ok (.int 1))) (ae (k8 (fun _=>M.ok (.int 1))) aq)))) (cU 2) (ak (aY 3 (aj aJ (aa 1) (aa 2)))
 (ak (aY 0 (ai kS (ae (aa 0) (ae (fun _=>M.ok (.int 1)) (ae (aa 3) (ae (k8 (aj bo (aj aJ (aa 0) (aa 2)) (aj aJ (aa 3) (aa 2)))) aq))))))
 ao)))
 (ak (retS (aa 0))
 ao))
noncomputable def jt:List PV->M PV:=bb 2 (aw 4 gv)
noncomputable def dJ:af->M Out :=
 (ak (kA (du (aj CO (aa 1) (ai dN (ae (aa 0) aq)))) (ak (retS (aj aJ (aa 0) (aa 1)))
 ao) ao)
 (ak (retS (fun _=>M.ok (.int 0)))
 ao))
noncomputable def c6:List PV->M PV:=bb 2 (aw 2 dJ)
noncomputable def bX:af->M Out :=
 (ak (qO 2 (ko aq))
 (ak (aY 3 (aj fT (aj cR (aa 0) (fun _=>M.ok (.int 2147483629))) (fun _=>M.ok (.int 17))))
 (ak (fO (jM pK (ae (aa 1) aq)) (cU 4) (ak (aY 3 (aj cR (aj fT (aj fT (aj cD (aa 3) (fun _=>M.ok (.int 48271))) (aj cD (fun _=>M.ok (.int 7919)) (aa 4))) (fun _=>M.ok (.int 1))) (fun _=>M.ok (.int 2147483647))))
 (ak (jl 2 (aj bo (aa 3) (fun _=>M.ok (.int 5))))
 ao)))
 (ak (p5 [2] (retS (aa 2)))
 ao))))
noncomputable def cM:List PV->M PV:=bb 2 (aw 5 bX)
noncomputable def bW:af->M Out :=
 (ak (qO 2 (ko aq))
 (ak (aY 3 (aa 0))
 (ak (fO (itemsOf (aa 1)) (cU 4) (ak (jl 2 (aj cR (aa 3) (aa 4)))
 (ak (aY 3 (aj bo (aa 3) (aa 4)))
 ao)))
 (ak (p5 [2] (retS (aa 2)))
 ao))))
noncomputable def cL:List PV->M PV:=bb 2 (aw 5 bW)
noncomputable def eF:af->M Out :=
 (ak (aY 1 (aj fT (fun _=>M.ok (.int 1)) (aj cR (aj bo (aa 0) (fun _=>M.ok (.int 2))) (fun _=>M.ok (.int 6)))))
 (ak (kA (du (aj sM (aj cR (aa 0) (fun _=>M.ok (.int 2))) (fun _=>M.ok (.int 1)))) (ak (retS (eD (dI (itemsOf (ai cL (ae (aj bo (aa 0) (fun _=>M.ok (.int 12))) (ae (aj cD (rW (ae (fun _=>M.ok (.int 359)) aq)) (aa 1)) aq)))) (cU 0) none (aj fT (fun _=>M.ok (.int 2)) (aa 0)) 1 [])))
 ao) ao)
 (ak (qO 2 (ko aq))
 (ak (fO (itemsOf (ai cM (ae (aj bo (aa 0) (fun _=>M.ok (.int 12))) (ae (aa 1) aq)))) (cU 3) (ak (kA (du (aj sM (aj cR (aj bo (aa 0) (fun _=>M.ok (.int 12))) (fun _=>M.ok (.int 2))) (fun _=>M.ok (.int 0)))) (ak (jl 2 (aj aJ (fun _=>M.ok (.lst (([2,3,4,6,8,9,12,16,24,27,32,36,64,72,81,128,243,256,360]:List Int).map PV.int))) (aj cR (aa 3) (fun _=>M.ok (.int 19)))))
 ao) (ak (jl 2 (aj cD (fun _=>M.ok (.int 12)) (aj fT (fun _=>M.ok (.int 1)) (aj cR (aa 3) (fun _=>M.ok (.int 30))))))
 ao))
 ao))
 (ak (p5 [2] (retS (aa 2)))
 ao)))))
noncomputable def fZ:List PV->M PV:=bb 1 (aw 4 eF)
noncomputable def eE:af->M Out :=
 (ak (retS (aj lS (aj cR (aj cD (aa 0) (fun _=>M.ok (.int 618033988749894848204586834365))) (aj lS (aj cD (fun _=>M.ok (.int 2)) (aj u6 (fun _=>M.ok (.int 10)) (fun _=>M.ok (.int 30)))) (fun _=>M.ok (.int 1)))) (aj lS (aj u6 (fun _=>M.ok (.int 10)) (fun _=>M.ok (.int 30))) (fun _=>M.ok (.int 1)))))
 ao)
noncomputable def fV:List PV->M PV:=bb 1 (aw 1 eE)
noncomputable def d_:af->M Out :=
 (ak (qO 2 (ko aq))
 (ak (fO (jM zip2 (ae (ai cM (ae (aa 0) (ae (ai dN (ae (aa 1) aq)) aq))) (ae (aa 1) aq))) (bC 3 4) (ak (kA (du (aj sM (aj cR (aa 3) (fun _=>M.ok (.int 4))) (fun _=>M.ok (.int 0)))) (ak (jl 2 (ai fV (ae (aj bo (aa 3) (fun _=>M.ok (.int 4))) aq)))
 ao) (ak (kA (du (aj sM (aj cR (aa 3) (fun _=>M.ok (.int 4))) (fun _=>M.ok (.int 1)))) (ak (jl 2 (fun _=>M.ok (.int 0)))
 ao) (ak (aY 5 (aj aJ (fun _=>M.ok (.lst (([1,1,2,3,4,6,12]:List Int).map PV.int))) (aj cR (aj bo (aa 3) (fun _=>M.ok (.int 4))) (fun _=>M.ok (.int 7)))))
 (ak (jl 2 (aj cR (aj cD (aj cR (aj bo (aa 3) (fun _=>M.ok (.int 28))) (aa 4)) (aa 5)) (aa 4)))
 ao)))
 ao))
 ao))
 (ak (p5 [2] (retS (aa 2)))
 ao)))
noncomputable def fP:List PV->M PV:=bb 2 (aw 6 d_)
noncomputable def dC:af->M Out :=
 (ak (qO 2 (ko aq))
 (ak (fO (jM pK (ae (aj cR (ai c6 (ae (aa 0) (ae (fun _=>M.ok (.int 1)) aq))) (fun _=>M.ok (.int 9))) aq)) (cU 3) (ak (aY 4 (ai c6 (ae (aa 0) (ae (aj fT (fun _=>M.ok (.int 2)) (aa 3)) aq))))
 (ak (kA (du (aj sM (aj cR (aj bo (ai c6 (ae (aa 0) (ae (fun _=>M.ok (.int 1)) aq))) (fun _=>M.ok (.int 9))) (fun _=>M.ok (.int 2))) (fun _=>M.ok (.int 1)))) (ak (jl 2 (ai cL (ae (aa 4) (ae (aa 1) aq))))
 ao) (ak (jl 2 (ai fP (ae (aj fT (aa 4) (aj cD (fun _=>M.ok (.int 7919)) (aa 3))) (ae (aa 1) aq))))
 ao))
 ao)))
 (ak (p5 [2] (retS (aa 2)))
 ao)))
noncomputable def fj:List PV->M PV:=bb 2 (aw 5 dC)
noncomputable def dU:af->M Out :=
 (ak (aY 1 (fun _=>M.ok (.int 1)))
 (ak (fO (itemsOf (aa 0)) (cU 2) (ak (AQ 3 4 (ae (aa 1) (ae (aa 2) aq)))
 (ak (l4 (du (aj l7 (aa 4) (fun _=>M.ok (.int 0)))) (ak (AQ 3 4 (ae (aa 4) (ae (aj cR (aa 3) (aa 4)) aq)))
 ao))
 (ak (aY 1 (aj cD (aj bo (aa 1) (aa 3)) (aa 2)))
 ao))))
 (ak (retS (aa 1))
 ao)))
noncomputable def fX:List PV->M PV:=bb 1 (aw 5 dU)
noncomputable def eI:af->M Out :=
 (ak (retS (ai dG (ae (eD (dI (jM xi (ae (aa 1) (ae (aa 2) (ae (aa 0) aq)))) (n9 0 1 2) none (aj cR (aj fT (aa 0) (aj cD (aa 3) (aa 1))) (aa 2)) 3 [3])) aq)))
 ao)
noncomputable def f9:List PV->M PV:=bb 4 (aw 4 eI)
noncomputable def cq:af->M Out :=
 (ak (aY 3 (ai fX (ae (aa 0) aq)))
 (ak (aY 4 (fun _=>M.ok (.int 0)))
 (ak (fO (jM xi (ae (aa 1) (ae (aa 2) (ae (aa 0) aq)))) (n9 5 6 7) (ak (aY 4 (aj fT (aa 4) (aj cD (aj cD (aa 5) (aa 6)) (aj bo (aa 3) (aa 7)))))
 ao))
 (ak (retS (aj cR (aa 4) (aa 3)))
 ao))))
noncomputable def bM:List PV->M PV:=bb 3 (aw 8 cq)
noncomputable def c8:af->M Out :=
 (ak (kA (du (aj sM (aj cR (aa 0) (fun _=>M.ok (.int 2))) (fun _=>M.ok (.int 1)))) (ak (retS (ai dG (ae (ai cL (ae (aj bo (aa 0) (fun _=>M.ok (.int 2))) (ae (aa 1) aq))) aq)))
 ao) ao)
 (ak (retS (ai dG (ae (eD (dI (jM zip2 (ae (ai cM (ae (aj bo (aa 0) (fun _=>M.ok (.int 2))) (ae (ai dN (ae (aa 1) aq)) aq))) (ae (aa 1) aq))) (bC 0 1) none (aj cR (aa 0) (aa 1)) 2 [])) aq)))
 ao))
noncomputable def dS:List PV->M PV:=bb 2 (aw 2 c8)
noncomputable def cz:af->M Out :=
 (ak (kA (Dj (jE (du (zI (fun a=>lR a "tuple") nv nv (aa 2)))) (du (aj l7 (ai dN (ae (aa 2) aq)) (ai dN (ae (aa 0) aq))))) (ak (retS (fun _=>M.ok (.bl false)))
 ao) ao)
 (ak (fO (jM zV (ae (aa 2) aq)) (bC 4 5) (ak (kA (Dj (jE (du (zI (fun a=>lR a "int") nv nv (aa 5)))) (du (zI (fun a=>lR a "bool") nv nv (aa 5)))) (ak (retS (fun _=>M.ok (.bl false)))
 ao) ao)
 (ak (kA (Dj (Ax (du (aj Fq (aa 4) (aa 3))) (du (aj l7 (aa 5) (fun _=>M.ok (.int 0))))) (Ax (du (aj sM (aa 4) (aa 3))) (du (aj l7 (aa 5) (aj cR (aj bo (aj aJ (aa 0) (aa 4)) (aj aJ (aa 1) (aa 4))) (aj aJ (aa 0) (aa 4))))))) (ak (retS (fun _=>M.ok (.bl false)))
 ao) ao)
 (ak (kA (Ax (du (aj CO (aa 4) (aa 3))) (jE (du (jo Dk CO (fun _=>M.ok (.int 0)) (aa 5) (aj bo (aj aJ (aa 0) (aa 4)) (aj aJ (aa 1) (aa 4))))))) (ak (retS (fun _=>M.ok (.bl false)))
 ao) ao)
 ao))))
 (ak (retS (fun _=>M.ok (.bl true)))
 ao)))
noncomputable def de:List PV->M PV:=bb 4 (aw 6 cz)
noncomputable def cu:af->M Out :=
 (ak (fO (itemsOf (aa 1)) (cU 3) (ak (kA (du (aj l7 (ai bM (ae (aa 0) (ae (aa 2) (ae (aa 3) aq)))) (fun _=>M.ok (.int 0)))) (ak (retS (fun _=>M.ok (.bl false)))
 ao) ao)
 ao))
 (ak (retS (fun _=>M.ok (.bl true)))
 ao))
noncomputable def dc:List PV->M PV:=bb 3 (aw 4 cu)
noncomputable def jb:af->M Out :=
 (ak (lx (ai fY (ae (aa 1) aq)))
 (ak (lx (ai fc (ae (aa 2) (ae (ai dN (ae (aa 1) aq)) aq))))
 (ak (lX 0 aB "dial_sizes" (ai dG (ae (aa 1) aq)))
 (ak (lX 0 aB "lever_settings" (ai dG (ae (eD (dI (itemsOf (aa 2)) (cU 0) none (ai kU (ae (aa 0) (ae (aa 1) aq))) 1 [1])) aq)))
 (ak (lX 0 aB "lever_prices" (ai fS (ae (aa 2) (ae (aa 3) aq))))
 (ak (lX 0 aB "least_round" (ai e9 (ae (aa 1) aq)))
 ao))))))
noncomputable def hV:Addr->List PV->M (List (Str×PV)):=tX 4 (zo 4 jb aB)
noncomputable def aV:af->M Out :=
 (ak (retS (fm (fun c=>c==aB) "dial_sizes" (aa 0)))
 ao)
noncomputable def aT:List PV->M PV:=bb 1 (aw 1 aV)
noncomputable def bN:af->M Out :=
 (ak (retS (fm (fun c=>c==aB) "lever_settings" (aa 0)))
 ao)
noncomputable def bK:List PV->M PV:=bb 1 (aw 1 bN)
noncomputable def gD:af->M Out :=
 (ak (retS (fm (fun c=>c==aB) "lever_prices" (aa 0)))
 ao)
noncomputable def qe:List PV->M PV:=bb 1 (aw 1 gD)
noncomputable def cv:af->M Out :=
 (ak (retS (fm (fun c=>c==aB) "least_round" (aa 0)))
 ao)
noncomputable def cA:List PV->M PV:=bb 1 (aw 1 cv)
noncomputable def cO:af->M Out :=
 (ak (aY 1 (bH aB "sizes" aT (fm (fun c=>c==aA) "vault" (aa 0)) aq))
 (ak (retS (ai dG (ae (eD (dI (jM pK (ae (ai dN (ae (aa 1) aq)) aq)) (cU 0) none (ai cV (ae (aa 2) (ae (fm (fun c=>c==aA) "made_rows" (aa 1)) (ae (aa 0) aq)))) 1 [0,1])) aq)))
 ao))
noncomputable def dD:List PV->M PV:=bb 1 (aw 2 cO)
noncomputable def ki:af->M Out :=
 (ak (retS (aj cD (k_ (ae (fun _=>M.ok (.int 0)) aq)) (ai dN (ae (bH aB "sizes" aT (aa 0) aq) aq))))
 ao)
noncomputable def j6:List PV->M PV:=bb 1 (aw 1 ki)
noncomputable def dZ:af->M Out :=
 (ak (aY 2 (bH aB "sizes" aT (aa 0) aq))
 (ak (kA (Dj (jE (du (zI (fun a=>lR a "tuple") nv nv (aa 1)))) (jE (du (ai gi (ae (aa 1) (ae (ai dN (ae (aa 2) aq)) aq)))))) (ak (retS (fun _=>M.ok (.bl false)))
 ao) ao)
 (ak (retS (ai uU (ae (eD (dI (jM zip2 (ae (aa 1) (ae (aa 2) aq))) (bC 0 1) none (jo Dk CO (fun _=>M.ok (.int 0)) (aa 0) (aa 1)) 2 [])) aq)))
 ao)))
noncomputable def fN:List PV->M PV:=bb 2 (aw 3 dZ)
noncomputable def cy:af->M Out :=
 (ak (kA (jE (du (ai fN (ae (aa 0) (ae (aa 1) aq))))) (ak (nq g_ (ae (fun _=>M.ok (.str "this is no setting of the vault")) aq))
 ao) ao)
 ao)
noncomputable def cp:List PV->M PV:=bb 2 (aw 2 cy)
noncomputable def mx:af->M Out :=
 (ak (lx (ai cp (ae (aa 0) (ae (aa 1) aq))))
 (ak (lx (ai cp (ae (aa 0) (ae (aa 2) aq))))
 (ak (aY 3 (bH aB "around" cA (aa 0) aq))
 (ak (aY 4 (eD (dI (jM zip2 (ae (aa 1) (ae (bH aB "sizes" aT (aa 0) aq) aq))) (bC 0 1) none (aj cD (aa 0) (aj bo (aa 2) (aa 1))) 2 [3])))
 (ak (retS (ai jc (ae (aa 4) (ae (aa 2) (ae (aa 3) aq)))))
 ao)))))
noncomputable def oS:List PV->M PV:=bb 3 (aw 5 mx)
noncomputable def eV:af->M Out :=
 (ak (retS (k_ (ae (aa 1) (ae (aj cD (k_ (ae (fun _=>M.ok (.int 0)) aq)) (ai dN (ae (bH aB "levers" bK (aa 0) aq) aq))) aq))))
 ao)
noncomputable def eW:List PV->M PV:=bb 2 (aw 2 eV)
noncomputable def dB:af->M Out :=
 (ak (aY 2 (bH aB "levers" bK (aa 0) aq))
 (ak (retS (k_ (ae (aj aJ (aa 2) (aa 1)) (ae (ai jn (ae (ai dN (ae (aa 2) aq)) (ae (aa 1) aq))) aq))))
 ao))
noncomputable def fe:List PV->M PV:=bb 2 (aw 3 dB)
noncomputable def jq:af->M Out :=
 (ak (aY 2 (bH aB "sizes" aT (aa 1) aq))
 (ak (aY 3 (eD (dI (itemsOf (aa 2)) (cU 0) none (ai eW (ae (aa 1) (ae (ai j6 (ae (aa 1) aq)) aq))) 1 [1])))
 (ak (qO 4 (ko aq))
 (ak (fO (jM pK (ae (ai dN (ae (bH aB "levers" bK (aa 1) aq) aq)) aq)) (cU 5) (ak (aY 6 (ai jr (ae (aa 2) (ae (aa 3) (ae (ai fe (ae (aa 1) (ae (aa 5) aq))) aq)))))
 (ak (aY 3 (aj aJ (aa 6) (fun _=>M.ok (.int 0))))
 (ak (jl 4 (vR 4 (ai jt (ae (aj aJ (aa 6) (fun _=>M.ok (.int 1))) (ae (aa 4) aq)))))
 ao))))
 (ak (lX 0 aA "vault" (aa 1))
 (ak (lX 0 aA "made_rows" (eD (dI (jM zV (ae (aa 3) aq)) (bC 0 1) none (ai eO (ae (aa 2) (ae (aa 3) (ae (aa 1) (ae (aj fT (aa 0) (fun _=>M.ok (.int 1))) aq))))) 2 [2,3])))
 (ak (p5 [4] (lX 0 aA "idle_rows" (aa 4)))
 ao)))))))
noncomputable def ib:Addr->List PV->M (List (Str×PV)):=tX 2 (zo 7 jq aA)
noncomputable def bw:af->M Out :=
 (ak (lx (ai cp (ae (fm (fun c=>c==aA) "vault" (aa 0)) (ae (aa 1) aq))))
 (ak (retS (ai eO (ae (bH aB "sizes" aT (fm (fun c=>c==aA) "vault" (aa 0)) aq) (ae (fm (fun c=>c==aA) "made_rows" (aa 0)) (ae (ai eW (ae (fm (fun c=>c==aA) "vault" (aa 0)) (ae (aa 1) aq))) (ae (fun _=>M.ok (.int 0)) aq))))))
 ao))
noncomputable def bR:List PV->M PV:=bb 2 (aw 2 bw)
noncomputable def cN:af->M Out :=
 (ak (retS (aj aJ (bH aA "brought_down" bR (aa 0) (ae (aa 1) aq)) (fun _=>M.ok (.int 0))))
 ao)
noncomputable def dw:List PV->M PV:=bb 2 (aw 2 cN)
noncomputable def aX:af->M Out :=
 (ak (aY 2 (bH aB "sizes" aT (fm (fun c=>c==aA) "vault" (aa 0)) aq))
 (ak (kA (jE (du (ai bx (ae (aa 1) (ae (fun _=>M.ok (.int 0)) (ae (aj lS (ai dN (ae (aa 2) aq)) (fun _=>M.ok (.int 1))) aq)))))) (ak (iu bG "dial" (ae (aa 1) aq))
 ao) ao)
 (ak (aY 3 (eD (dI (jM zip2 (ae (aa 2) (ae (bH aA "steps" dD (aa 0) aq) aq))) (bC 0 1) none (aj bo (aa 0) (aa 1)) 2 [])))
 (ak (qO 4 (HC (rW (ae (fun _=>M.ok (.int 0)) aq)) (ai dN (ae (aa 2) aq))))
 (ak (Jq 4 (aa 1) (aj cR (aj aJ (aa 3) (aa 1)) (aj aJ (aa 2) (aa 1))))
 (ak (fO (jM zE (ae (aj lS (aa 1) (fun _=>M.ok (.int 1))) (ae (k8 (fun _=>M.ok (.int 1))) (ae (k8 (fun _=>M.ok (.int 1))) aq)))) (cU 5) (ak (aY 6 (vR 4 (ai oS (ae (fm (fun c=>c==aA) "vault" (aa 0)) (ae (ai dG (ae (aa 4) aq)) (ae (aj aJ (aj aJ (fm (fun c=>c==aA) "made_rows" (aa 0)) (aa 5)) (fun _=>M.ok (.int 0))) aq))))))
 (ak (aY 7 (aj bo (bH aB "around" cA (fm (fun c=>c==aA) "vault" (aa 0)) aq) (aj aJ (aa 3) (aa 5))))
 (ak (Jq 4 (aa 5) (aj cR (k8 (aj bo (aa 6) (aa 7))) (aj aJ (aa 3) (aa 5))))
 ao))))
 (ak (p5 [4] (retS (ai dG (ae (aa 4) aq))))
 ao)))))))
noncomputable def aO:List PV->M PV:=bb 2 (aw 8 aX)
noncomputable def c9:af->M Out :=
 (ak (aY 2 (fun _=>M.ok .cS))
 (ak (DK (lx (bH aA "weights_at" aO (aa 0) (ae (aa 1) aq))) [(Iy kW kJ,some 3,(ak (aY 2 (rW (ae (MK tU "dial" (aa 3)) aq)))
 ao))])
 (ak (kA (Dj (du (aj xh (aa 2) (fun _=>M.ok .cS))) (du (aj l7 (aa 2) (rW (ae (aa 1) aq))))) (ak (retS (fun _=>M.ok (.bl false)))
 ao) ao)
 (ak (retS (aj sM (zI (fun a=>lR a "bool") nv nv (aj aJ (aa 2) (fun _=>M.ok (.int 0)))) (zI (fun a=>lR a "bool") nv nv (aa 1))))
 ao))))
noncomputable def cm:List PV->M PV:=bb 2 (aw 4 c9)
noncomputable def bg:af->M Out :=
 (ak (aY 4 (bH aA "least" dw (aa 0) (ae (aa 3) aq)))
 (ak (fO (jM zV (ae (aa 4) aq)) (bC 5 6) (ak (kA (du (aj Fq (aa 6) (fun _=>M.ok (.int 0)))) (ak (retS (aj l7 (ai bM (ae (aa 1) (ae (aj aJ (aa 2) (aa 5)) (ae (aa 3) aq)))) (fun _=>M.ok (.int 0))))
 ao) ao)
 ao))
 (ak (fO (itemsOf (aa 2)) (cU 7) (ak (kA (du (aj l7 (ai bM (ae (aa 1) (ae (aa 7) (ae (aa 3) aq)))) (fun _=>M.ok (.int 0)))) (ak (retS (fun _=>M.ok (.bl false)))
 ao) ao)
 ao))
 (ak (retS (fun _=>M.ok (.bl true)))
 ao))))
noncomputable def bh:List PV->M PV:=bb 4 (aw 8 bg)
noncomputable def AI:af->M Out :=
 (ak (aY 1 (ai fZ (ae (ai c6 (ae (aa 0) (ae (fun _=>M.ok (.int 0)) aq))) aq)))
 (ak (aY 2 (ai fj (ae (aa 0) (ae (aa 1) aq))))
 (ak (aY 3 (ai (jP aA ib []) (ae (ai (jP aB hV [.cS]) (ae (aa 1) (ae (aa 2) aq))) aq)))
 (ak (aY 4 (bH aA "steps" dD (aa 3) aq))
 (ak (aY 5 (eD (dI (jM pK (ae (ai dN (ae (aa 1) aq)) aq)) (cU 0) none (bH aA "weights_at" aO (aa 1) (ae (aa 0) aq)) 1 [3])))
 (ak (fO (jM zV (ae (aa 5) aq)) (bC 6 7) (ak (kA (Dj (jE (du (ai de (ae (aa 1) (ae (aa 4) (ae (aa 7) (ae (aa 6) aq))))))) (jE (du (ai dc (ae (aa 1) (ae (aa 2) (ae (aa 7) aq))))))) (ak (retS (fun _=>M.ok (.bl false)))
 ao) ao)
 ao))
 (ak (fO (jM zV (ae (aj fT (wK (aa 0) (ug (fun _=>M.ok (.int 10))) (ug (fun _=>M.ok (.int 40)))) (rW (ae (fun _=>M.ok (.int 0)) aq))) aq)) (bC 8 9) (ak (aY 10 (ai dS (ae (aj fT (aj bo (aa 9) (fun _=>M.ok (.int 3))) (aj cD (fun _=>M.ok (.int 48271)) (aa 8))) (ae (aa 1) aq))))
 (ak (kA (du (aj sM (aj cR (aa 9) (fun _=>M.ok (.int 3))) (fun _=>M.ok (.int 0)))) (ak (aY 10 (ai f9 (ae (aa 1) (ae (aa 10) (ae (bH aA "least" dw (aa 3) (ae (aa 10) aq)) (ae (k8 (fun _=>M.ok (.int 1))) aq))))))
 ao) ao)
 (ak (kA (jE (du (ai bh (ae (aa 3) (ae (aa 1) (ae (aa 5) (ae (aa 10) aq))))))) (ak (retS (fun _=>M.ok (.bl false)))
 ao) ao)
 (ak (aY 11 (aj aJ (rW (ae (ai dN (ae (aa 1) aq)) (ae (k8 (fun _=>M.ok (.int 1))) (ae (fun _=>M.ok .cS) (ae (fun _=>M.ok (.bl true)) (ae (fun _=>M.ok (.str "0")) (ae (k_ (ae (fun _=>M.ok (.int 0)) aq)) (ae (aj fT (aj u6 (fun _=>M.ok (.int 10)) (fun _=>M.ok (.int 20))) (aj cR (aa 9) (fun _=>M.ok (.int 7)))) aq)))))))) (aj cR (aa 9) (fun _=>M.ok (.int 7)))))
 (ak (kA (jE (du (ai cm (ae (aa 3) (ae (aa 11) aq))))) (ak (retS (fun _=>M.ok (.bl false)))
 ao) ao)
 ao))))))
 (ak (retS (fun _=>M.ok (.bl true)))
 ao))))))))
noncomputable def sJ:List PV->M PV:=bb 1 (aw 12 AI)
end wx
namespace wx
open PySem L2 PyProof.Rows
local macro_rules | `(tactic| walk_at "s")=>`(tactic| exact ⟨rfl,rfl,rfl,by decide +kernel,rfl,by decide +kernel,by decide +kernel⟩)
local macro_rules | `(tactic| walk_at "l")=>`(tactic| first | exact .inl rfl | exact .inr rfl)
local macro_rules | `(tactic| walk_at "pp")=>`(tactic| all_goals repeat' (first | ((with_reducible show lZ _ _ (tS _ (ak _ _)));refine Bl ?_ ?_) | ((with_reducible show lZ _ _ (tS _ ao));exact DR) | ((with_reducible show PE _ _ (tE _ (aa _)));exact vr _) | ((with_reducible show PA _ _ (tL _ (ae _ _)));refine yp ?_ ?_ (Fc rfl)) | ((with_reducible show PA _ _ (tL _ aq));exact BN) | ((with_reducible show PE _ _ (tE _ (fun _=>M.ok (.int _))));first | exact A6 | exact md (IM (by rfl) (by assumption)) fun _=>.int _) | ((with_reducible show PE _ _ (tE _ (fun _=>M.ok (.bl _))));exact J2) | ((with_reducible show PE _ _ (tE _ (fun _=>M.ok .cS)));exact F1) | ((with_reducible show PE _ _ (tE _ (fun _=>M.ok (.str _))));exact GV) | ((with_reducible show PE _ _ (tE _ (aj fT _ _)));refine nF Du G3 ?_ ?_) | ((with_reducible show PE _ _ (tE _ (aj lS _ _)));refine nF GI GR ?_ ?_) | ((with_reducible show PE _ _ (tE _ (aj cD _ _)));refine nF Ew GU ?_ ?_) | ((with_reducible show PE _ _ (tE _ (aj bo _ _)));refine nF AS BM ?_ ?_) | ((with_reducible show PE _ _ (tE _ (aj cR _ _)));refine nF Dr Ek ?_ ?_) | ((with_reducible show PE _ _ (tE _ (aj u6 _ _)));refine nF HJ EA ?_ ?_) | ((with_reducible show PE _ _ (tE _ (aj aJ _ _)));refine Hy ?_ ?_ ?_) | ((with_reducible show uI _);exact fun _ _=>rfl) | ((with_reducible show PT _ _ (tT _ (du (aj sM _ _))));refine jT (AE (bV.units (by assumption))) Fn ?_ ?_ (dq _)) | ((with_reducible show PE _ _ (tE _ (aj sM _ _)));refine kq (AE (bV.units (by assumption))) Fn ?_ ?_ (dq _)) | ((with_reducible show PT _ _ (tT _ (du (aj l7 _ _))));refine jT (BP (bV.units (by assumption))) E7 ?_ ?_ (dq _)) | ((with_reducible show PE _ _ (tE _ (aj l7 _ _)));refine kq (BP (bV.units (by assumption))) E7 ?_ ?_ (dq _)) | ((with_reducible show PT _ _ (tT _ (du (aj CO _ _))));refine jT ym t7 ?_ ?_ (dq _)) | ((with_reducible show PE _ _ (tE _ (aj CO _ _)));refine kq ym t7 ?_ ?_ (dq _)) | ((with_reducible show PT _ _ (tT _ (du (aj Dk _ _))));refine jT sT m5 ?_ ?_ (dq _)) | ((with_reducible show PE _ _ (tE _ (aj Dk _ _)));refine kq sT m5 ?_ ?_ (dq _)) | ((with_reducible show PT _ _ (tT _ (du (aj Fq _ _))));refine jT Fj Ct ?_ ?_ (dq _)) | ((with_reducible show PE _ _ (tE _ (aj Fq _ _)));refine kq Fj Ct ?_ ?_ (dq _)) | ((with_reducible show PT _ _ (tT _ (du (aj IB _ _))));refine jT FD BV ?_ ?_ (dq _)) | ((with_reducible show PE _ _ (tE _ (aj IB _ _)));refine kq FD BV ?_ ?_ (dq _)) | ((with_reducible show PT _ _ (tT _ (du (aj xh _ _))));refine jT A4 CJ ?_ ?_ (dq _)) | ((with_reducible show PE _ _ (tE _ (aj xh _ _)));refine kq A4 CJ ?_ ?_ (dq _)) | ((with_reducible show PT _ _ (tT _ (du (aj isNotNP _ _))));refine jT op_notN ov_notN ?_ ?_ (dq _)) | ((with_reducible show PE _ _ (tE _ (aj isNotNP _ _)));refine kq op_notN ov_notN ?_ ?_ (dq _)) | ((with_reducible show PT _ _ (tT _ (jE _)));refine Gq ?_) | ((with_reducible show PT _ _ (tT _ (du (ai _ _))));refine sY ?_) | ((with_reducible show PT _ _ (tT _ (du (zI _ _ _ _))));refine sY ?_) | ((with_reducible show PT _ _ (tT _ (du (bH _ _ _ _ _))));refine sY ?_) | ((with_reducible show PT _ _ (tT _ (du (aa _))));refine sY ?_) | ((with_reducible show PS _ _ (tS _ (retS _)));refine Ip ?_) | ((with_reducible show PS _ _ (tS _ (aY _ _)));refine Hj (by assumption) rfl (by walk_at "l") ?_) | ((with_reducible show PS _ _ (tS _ (kA _ _ _)));refine IL ?_ ?_ ?_) | ((with_reducible show PS _ _ (tS _ (jl _ _)));refine zB rfl (by first | exact .inl rfl | exact .inr (.inl rfl)) ?_) | ((with_reducible show PS _ _ (tS _ (qO _ _)));refine DC (by assumption) rfl (by walk_at "l") ?_) | ((with_reducible show PE _ _ (tO _ (ko _)));refine HF ?_) | ((with_reducible show PS _ _ (tS _ (p5 _ _)));refine FT _ ?_) | ((with_reducible show PS _ _ (tS _ (lx _)));refine EY ?_) | ((with_reducible show PS _ _ (tS _ (nq _ _)));refine CV.raise (by assumption) (by assumption) rfl (by rfl) ?_) | ((with_reducible show PS _ _ (tS _ (iu _ _ _)));refine qU.raise (by assumption) (by assumption) (by omega) (by assumption) rfl (by rfl) ?_) | ((with_reducible show PE _ _ (tE _ (k_ _)));refine G4 ?_) | ((with_reducible show PE _ _ (tE _ (rW _)));refine AR ?_) | ((with_reducible show PE _ _ (tE _ (k8 _)));refine Hq ?_) | ((with_reducible show PE _ _ (tE _ (yN _ _ _)));refine Hm ?_ ?_ ?_) | ((with_reducible show PE _ _ (tE _ (fm _ _ _)));refine Ig ?_ (by assumption) rfl) | ((with_reducible show PE _ _ (tE _ (ai dN _)));refine mn zY Gx (by rfl) (by assumption) PySem.boot_len ?_) | ((with_reducible show PE _ _ (tE _ (ai dG _)));refine nB rn Bt (by rfl) (by assumption) me ?_) | ((with_reducible show PE _ _ (tE _ (ai Fb _)));refine nB call_list_of cv_list (by rfl) (by assumption) yd ?_) | ((with_reducible show PE _ _ (tE _ (ai z_ _)));refine mn (ze rfl) F7 (by rfl) (by assumption) G9 ?_) | ((with_reducible show PE _ _ (tE _ (ai uU _)));refine mn (zH rfl) F5 (by rfl) (by assumption) GH ?_) | ((with_reducible show PE _ _ (tE _ (ai intP1 _)));refine nB call_intB cv_intB (by rfl) (by assumption) wX ?_) | ((with_reducible show PE _ _ (tE _ (ai (jP _ _ _) _)));refine Ij.make (by assumption) (by assumption) (by omega) (by rfl) (by first | assumption | exact xO) ?_) | ((with_reducible show PE _ _ (tE _ (ai _ _)));refine bI.call (by assumption) (by assumption) (by omega) (by rfl) (by first | assumption | exact xO) ?_) | ((with_reducible show PE _ _ (tE _ (bH _ _ _ _ aq)));refine k4.Jf (by assumption) (by assumption) (by omega) (by first | assumption | exact xO) ?_) | ((with_reducible show PE _ _ (tE _ (bH _ _ _ _ _)));refine k4.call (by assumption) (by assumption) (by omega) (by first | assumption | exact xO) ?_ ?_)))
def top (i:Nat):Stmt:=PySem.Challenge.pw_dialvault_k25_step_weights.main.body.getD i (.Pass ⟨0,0,0,0⟩)
structure Txt (K:PySem.W.Frag) (mg:Str->Option Value):Prop where
 Jk:mg "all" = none
 qM:mg "bool" = none
 bQ:mg "enumerate" = none
 C4:mg "int" = none
 br:mg "isinstance" = none
 J5:mg "len" = none
 AM:mg "list" = none
 FE:mg "max" = none
 eo:mg "range" = none
 IP:mg "sum" = none
 pe:mg "tuple" = none
 jX:mg "zip" = none
 qY:∃ u,mg "LEAST_PRICE" = some u/\RelV (.int 1) u
 tM:∃ u,mg "LEAST_SIZE" = some u/\RelV (.int 2) u
 ua:∃ u,mg "MOST_DIALS" = some u/\RelV (.int 6) u
 qT:∃ u,mg "MOST_LEVERS" = some u/\RelV (.int 8) u
 tV:∃ u,mg "MOST_PRICE" = some u/\RelV (.int 1000) u
 wb:∃ u,mg "MOST_SIZE" = some u/\RelV (.int 360) u
 pd:nK K aA
 mh:nK K aB
 vE:CV K mg g_ "NoSetting"
 y_:CV K mg iR "TooMany"
 qx:OD K mg "NoDial" bG kW kJ
 xR:∀ C∈tU,gG K C/\bp K C "dial"
 h_:bp K aA "idle_rows"
 gX:bp K aA "made_rows"
 lz:bp K aA "vault"
 gQ:bp K aB "dial_sizes"
 fM:bp K aB "least_round"
 fk:bp K aB "lever_prices"
 dQ:bp K aB "lever_settings"
 ui:∀ C,(C==aB)=true->nK K C/\bp K C "dial_sizes"
 ve:∀ C,(C==aA)=true->nK K C/\bp K C "idle_rows"
 rj:∀ C,(C==aB)=true->nK K C/\bp K C "least_round"
 qF:∀ C,(C==aB)=true->nK K C/\bp K C "lever_prices"
 mY:∀ C,(C==aB)=true->nK K C/\bp K C "lever_settings"
 vT:∀ C,(C==aA)=true->nK K C/\bp K C "made_rows"
 DZ:∀ C,(C==aA)=true->nK K C/\bp K C "vault"
variable {P:Program} {w:World} {K:PySem.W.Frag} {mg:Str->Option Value} {base:Heap} {f:Addr} {fd:FuncData} {dv:Value}
theorem om:ay ["thing"] ["thing"] (au (top 9)):=.of
theorem vZ (F:aE K "is_whole" "is_whole" (top 9) dv f fd) (T:Txt K mg)  : aN P w K mg base (bT P w) 1 f fd ["thing"] (eJ 1 cI) :=
 F.gA om fun _ _ _ _ _ _ hr O=>by
 unfold gI;have:=om.nd;have T2:=T;cases T2
 walk_at "pp"
 refine (AY ?_ (CY ?_))
 walk_at "pp"
 refine (kB (T := "int") (by rfl) T.br (fg (v:=.ty "int") (by rfl) T.C4 wX rfl) (by decide) kn kn ?_)
 walk_at "pp"
 refine (Gu ?_)
 walk_at "pp"
 refine (kB (T := "bool") (by rfl) T.br (fg (v:=.ty "bool") (by rfl) T.qM oY rfl) (by decide) kn kn ?_)
 walk_at "pp"
theorem sG:ay ["thing", "length"] ["thing", "length"] (au (top 10)):=.of
theorem vy:((["number"]:List Str)++([]:List Str)).Nodup:=by decide +kernel
theorem z9 (F:aE K "is_row" "is_row" (top 10) dv f fd) (T:Txt K mg) (o_is_whole:bI P w K mg base 1 "is_whole" 1 (aw 1 gI)):aN P w K mg base (bT P w) 2 f fd ["thing", "length"] (eJ 2 gi) :=
 F.gA sG fun _ _ _ _ _ _ hr O=>by
 unfold iY;have:=sG.nd;have T2:=T;cases T2
 walk_at "pp"
 refine (n5 ?_ (ky ?_)).pt
 walk_at "pp"
 refine (Et (Ts:=["list", "tuple"]) (by rfl) T.br (Ar (ig (fg (v:=.ty "list") (by rfl) T.AM yd rfl) (ig (fg (v:=.ty "tuple") (by rfl) T.pe me rfl) qr))) (fun σ H R h=>⟨by show 2<=sizeLine;decide,h⟩) (by decide) kn ?_)
 walk_at "pp"
 refine (eP (cw (g:=(aF 0)) (ts:=["number"]) (fs:=[]) (js:=[]) (cl:=[]) rfl rfl rfl rfl rfl rfl .nil .nil (iH ?_) e8 (fun _ _ _ _ _=>(aK (i:=0) vy)) (fun _=>bB) dF (fun _ _ _ _ _=>?_)))
 walk_at "pp"
theorem sx:ay ["one", "other", "row", "behind", "times", "rest"] ["one", "other"] (au (top 11)):=.of
theorem zZ (F:aE K "common" "common" (top 11) dv f fd) (T:Txt K mg)  : aN P w K mg base (bT P w) 1 f fd ["one", "other"] (eJ 2 fw) :=
 F.gA sx fun _ _ _ _ _ _ hr O=>by
 unfold iX;have:=sx.nd;have T2:=T;cases T2
 walk_at "pp"
 refine (v5 O ?_ ?_)
 walk_at "pp"
theorem gw:ay ["numbers", "multiple", "number"] ["numbers"] (au (top 12)):=.of
theorem pq (F:aE K "multiple_of" "multiple_of" (top 12) dv f fd) (T:Txt K mg) (o_common:bI P w K mg base 1 "common" 2 (aw 6 iX)):aN P w K mg base (bT P w) 2 f fd ["numbers"] (eJ 1 e9) :=
 F.gA gw fun _ _ _ _ _ _ hr O=>by
 unfold dy;have:=gw.nd;have T2:=T;cases T2
 walk_at "pp"
 refine (bf (g:=(aF 2)) O rfl (iH ?_) e8 (aK (i:=2) gw.nd) bB ?_)
 walk_at "pp"
theorem nX:ay ["length", "place"] ["length", "place"] (au (top 13)):=.of
theorem q_:((["other"]:List Str)++(["place"]:List Str)).Nodup:=by decide +kernel
theorem u9 (F:aE K "unit_row" "unit_row" (top 13) dv f fd) (T:Txt K mg)  : aN P w K mg base (bT P w) 1 f fd ["length", "place"] (eJ 2 jn) :=
 F.gA nX fun _ _ _ _ _ _ hr O=>by
 unfold gK;have:=nX.nd;have T2:=T;cases T2
 walk_at "pp"
 refine (eP (cw (g:=(aF 0)) (ts:=["other"]) (fs:=["place"]) (js:=[1]) rfl rfl rfl rfl rfl rfl (.cons rfl .nil) (.cons rfl rfl (by walk_at "l") rfl rfl .nil) (eY (by rfl) T.eo ?_) gq (fun _ _ _ _ _=>(aK (i:=0) q_)) (fun _=>bB) dF (fun _ _ _ _ _=>?_)))
 walk_at "pp"
theorem nV:ay ["numbers", "others", "by"] ["numbers", "others", "by"] (au (top 14)):=.of
theorem lp:((["number", "other"]:List Str)++([]:List Str)).Nodup:=by decide +kernel
theorem vt (F:aE K "rest_sum" "rest_sum" (top 14) dv f fd) (T:Txt K mg)  : aN P w K mg base (bT P w) 1 f fd ["numbers", "others", "by"] (eJ 3 jc) :=
 F.gA nV fun _ _ _ _ _ _ hr O=>by
 unfold gC;have:=nV.nd;have T2:=T;cases T2
 walk_at "pp"
 refine (eP (cw (g:=(iw K 2 (aU (aF 0) (aU (aF 1) iE)))) (ts:=["number", "other"]) (fs:=[]) (js:=[]) (cl:=[]) rfl rfl rfl rfl rfl rfl .nil .nil (jV (by rfl) T.jX ?_) ic (fun _ _ _ _ _=>(cP (n:=2) rfl (aD (aK (i:=0) lp) (aD (aK (i:=1) lp) bO)))) (fun _=>ck) cW (fun _ _ _ _ _=>?_)))
 walk_at "pp"
theorem mf:ay ["thing", "least", "most"] ["thing", "least", "most"] (au (top 23)):=.of
theorem t8 (F:aE K "is_within" "is_within" (top 23) dv f fd) (T:Txt K mg) (o_is_whole:bI P w K mg base 1 "is_whole" 1 (aw 1 gI)):aN P w K mg base (bT P w) 2 f fd ["thing", "least", "most"] (eJ 3 bx) :=
 F.gA mf fun _ _ _ _ _ _ hr O=>by
 unfold cF;have:=mf.nd;have T2:=T;cases T2
 walk_at "pp"
 refine (AY ?_ (CY ?_))
 walk_at "pp"
 refine (vb sT m5 sT m5 ?_ ?_ ?_)
 walk_at "pp"
theorem e_:ay ["sizes", "dial", "size"] ["sizes"] (au (top 24)):=.of
theorem rP (F:aE K "need_sizes" "need_sizes" (top 24) dv f fd) (T:Txt K mg) (x_NoDial:qU P w K mg base bG "NoDial" "dial") (o_is_within:bI P w K mg base 2 "is_within" 3 (aw 3 cF)):aN P w K mg base (bT P w) 3 f fd ["sizes"] (eJ 1 fY) :=
 F.gA e_ fun _ _ _ _ _ _ hr O=>by
 unfold dP;have:=e_.nd;have T2:=T;cases T2
 walk_at "pp"
 refine (bf (g:=(iw K 2 (aU (aF 1) (aU (aF 2) iE)))) O rfl (j3 (by rfl) T.bQ ?_) gY (cP (n:=2) rfl (aD (aK (i:=1) e_.nd) (aD (aK (i:=2) e_.nd) bO))) ck ?_)
 walk_at "pp"
theorem eG:ay ["levers", "dials", "place", "lever"] ["levers", "dials"] (au (top 25)):=.of
theorem qw (F:aE K "need_levers" "need_levers" (top 25) dv f fd) (T:Txt K mg) (o_is_row:bI P w K mg base 2 "is_row" 2 (aw 2 iY)) (x_NoLever:qU P w K mg base gb "NoLever" "lever"):aN P w K mg base (bT P w) 3 f fd ["levers", "dials"] (eJ 2 fc) :=
 F.gA eG fun _ _ _ _ _ _ hr O=>by
 unfold dA;have:=eG.nd;have T2:=T;cases T2
 walk_at "pp"
 refine (bf (g:=(iw K 2 (aU (aF 2) (aU (aF 3) iE)))) O rfl (j3 (by rfl) T.bQ ?_) gY (cP (n:=2) rfl (aD (aK (i:=2) eG.nd) (aD (aK (i:=3) eG.nd) bO))) ck ?_)
 walk_at "pp"
theorem iC:ay ["levers", "prices", "place"] ["levers", "prices"] (au (top 26)):=.of
theorem rL (F:aE K "prices_for" "prices_for" (top 26) dv f fd) (T:Txt K mg) (x_NoPrice:qU P w K mg base eZ "NoPrice" "lever") (o_is_within:bI P w K mg base 2 "is_within" 3 (aw 3 cF)):aN P w K mg base (bT P w) 3 f fd ["levers", "prices"] (eJ 2 fS) :=
 F.gA iC fun _ _ _ _ _ _ hr O=>by
 unfold dW;have:=iC.nd;have T2:=T;cases T2
 walk_at "pp"
 refine (bf (g:=(aF 2)) O rfl (eY (by rfl) T.eo ?_) gq (aK (i:=2) iC.nd) bB ?_)
 walk_at "pp"
 refine (mn (zM rfl) EH (by rfl) T.FE GC ?_)
 walk_at "pp"
 refine (n5 ?_ (ky ?_)).pt
 walk_at "pp"
theorem vp:ay ["numbers", "sizes"] ["numbers", "sizes"] (au (top 27)):=.of
theorem pG:((["number", "size"]:List Str)++([]:List Str)).Nodup:=by decide +kernel
theorem B6 (F:aE K "rests" "rests" (top 27) dv f fd) (T:Txt K mg)  : aN P w K mg base (bT P w) 1 f fd ["numbers", "sizes"] (eJ 2 kU) :=
 F.gA vp fun _ _ _ _ _ _ hr O=>by
 unfold kN;have:=vp.nd;have T2:=T;cases T2
 walk_at "pp"
 refine (eP (cw (g:=(iw K 2 (aU (aF 0) (aU (aF 1) iE)))) (ts:=["number", "size"]) (fs:=[]) (js:=[]) (cl:=[]) rfl rfl rfl rfl rfl rfl .nil .nil (jV (by rfl) T.jX ?_) ic (fun _ _ _ _ _=>(cP (n:=2) rfl (aD (aK (i:=0) pG) (aD (aK (i:=1) pG) bO)))) (fun _=>ck) cW (fun _ _ _ _ _=>?_)))
 walk_at "pp"
theorem vc:ay ["row", "times", "other", "others"] ["row", "times", "other", "others"] (au (top 34)):=.of
theorem ph:((["one", "two"]:List Str)++(["times", "others"]:List Str)).Nodup:=by decide +kernel
theorem A3 (F:aE K "mixed" "mixed" (top 34) dv f fd) (T:Txt K mg)  : aN P w K mg base (bT P w) 1 f fd ["row", "times", "other", "others"] (eJ 4 kS) :=
 F.gA vc fun _ _ _ _ _ _ hr O=>by
 unfold kH;have:=vc.nd;have T2:=T;cases T2
 walk_at "pp"
 refine (eP (cw (g:=(iw K 2 (aU (aF 0) (aU (aF 1) iE)))) (ts:=["one", "two"]) (fs:=["times", "others"]) (js:=[1,3]) rfl rfl rfl rfl rfl rfl (.cons rfl (.cons rfl .nil)) (.cons rfl rfl (by walk_at "l") rfl rfl (.cons rfl rfl (by walk_at "l") rfl rfl .nil)) (jV (by rfl) T.jX ?_) ic (fun _ _ _ _ _=>(cP (n:=2) rfl (aD (aK (i:=0) ph) (aD (aK (i:=1) ph) bO)))) (fun _=>ck) cW (fun _ _ _ _ _=>?_)))
 walk_at "pp"
theorem lH:ay ["sizes", "made", "times", "other", "others", "doing"] ["sizes", "made", "times", "other", "others"] (au (top 35)):=.of
theorem rh (F:aE K "mixed_made" "mixed_made" (top 35) dv f fd) (T:Txt K mg) (o_mixed:bI P w K mg base 1 "mixed" 4 (aw 4 kH)) (o_rests:bI P w K mg base 1 "rests" 2 (aw 2 kN)):aN P w K mg base (bT P w) 2 f fd ["sizes", "made", "times", "other", "others"] (eJ 5 dm) :=
 F.gA lH fun _ _ _ _ _ _ hr O=>by
 unfold da;have:=lH.nd;have T2:=T;cases T2
 walk_at "pp"
theorem l8:ay ["sizes", "made_rows", "dial", "notch"] ["sizes", "made_rows", "dial"] (au (top 38)):=.of
theorem uG (F:aE K "step_size" "step_size" (top 38) dv f fd) (T:Txt K mg)  : aN P w K mg base (bT P w) 1 f fd ["sizes", "made_rows", "dial"] (eJ 3 cV) :=
 F.gA l8 fun _ _ _ _ _ _ hr O=>by
 unfold cX;have:=l8.nd;have T2:=T;cases T2
 walk_at "pp"
theorem h9:ay ["sizes", "made_rows", "left", "wider", "dial", "made", "step", "notch", "found"] ["sizes", "made_rows", "left"] (au (top 39)):=.of
theorem uN (F:aE K "taken_in" "taken_in" (top 39) dv f fd) (T:Txt K mg) (o_step_size:bI P w K mg base 1 "step_size" 3 (aw 4 cX)) (o_common:bI P w K mg base 1 "common" 2 (aw 6 iX)) (o_mixed_made:bI P w K mg base 2 "mixed_made" 5 (aw 6 da)):aN P w K mg base (bT P w) 3 f fd ["sizes", "made_rows", "left"] (eJ 3 jr) :=
 F.gA h9 fun _ _ _ _ _ _ hr O=>by
 unfold gO;have:=h9.nd;have T2:=T;cases T2
 walk_at "pp"
 refine (bf (g:=(iw K 2 (aU (aF 4) (aU (aF 5) iE)))) O rfl (j3 (by rfl) T.bQ ?_) gY (cP (n:=2) rfl (aD (aK (i:=4) h9.nd) (aD (aK (i:=5) h9.nd) bO))) ck ?_)
 walk_at "pp"
theorem lV:ay ["sizes", "made_rows", "made", "first", "dial", "times"] ["sizes", "made_rows", "made", "first"] (au (top 40)):=.of
theorem xM (F:aE K "lowered" "lowered" (top 40) dv f fd) (T:Txt K mg) (o_step_size:bI P w K mg base 1 "step_size" 3 (aw 4 cX)) (o_mixed_made:bI P w K mg base 2 "mixed_made" 5 (aw 6 da)):aN P w K mg base (bT P w) 3 f fd ["sizes", "made_rows", "made", "first"] (eJ 4 eO) :=
 F.gA lV fun _ _ _ _ _ _ hr O=>by
 unfold gc;have:=lV.nd;have T2:=T;cases T2
 walk_at "pp"
 refine (bf (g:=(aF 4)) O rfl (zO (by rfl) T.eo ?_) BS (aK (i:=4) lV.nd) bB ?_)
 walk_at "pp"
theorem ka:ay ["pulls", "idle_rows", "lever", "row"] ["pulls", "idle_rows"] (au (top 41)):=.of
theorem vD (F:aE K "in_spans" "in_spans" (top 41) dv f fd) (T:Txt K mg) (o_mixed:bI P w K mg base 1 "mixed" 4 (aw 4 kH)):aN P w K mg base (bT P w) 2 f fd ["pulls", "idle_rows"] (eJ 2 jt) :=
 F.gA ka fun _ _ _ _ _ _ hr O=>by
 unfold gv;have:=ka.nd;have T2:=T;cases T2
 walk_at "pp"
 refine (bf (g:=(aF 2)) O rfl (rZ (by rfl) T.eo ?_) vK (aK (i:=2) ka.nd) bB ?_)
 walk_at "pp"
theorem mC:ay ["_law_script", "_law_k"] ["_law_script", "_law_k"] (au (top 44)):=.of
theorem uF (F:aE K "_law_cell" "_law_cell" (top 44) dv f fd) (T:Txt K mg)  : aN P w K mg base (bT P w) 1 f fd ["_law_script", "_law_k"] (eJ 2 c6) :=
 F.gA mC fun _ _ _ _ _ _ hr O=>by
 unfold dJ;have:=mC.nd;have T2:=T;cases T2
 walk_at "pp"
theorem gB:ay ["_law_cell_here", "_law_many", "_law_found", "_law_number", "_law_k"] ["_law_cell_here", "_law_many"] (au (top 45)):=.of
theorem qD (F:aE K "_law_stream" "_law_stream" (top 45) dv f fd) (T:Txt K mg)  : aN P w K mg base (bT P w) 1 f fd ["_law_cell_here", "_law_many"] (eJ 2 cM) :=
 F.gA gB fun _ _ _ _ _ _ hr O=>by
 unfold bX;have:=gB.nd;have T2:=T;cases T2
 walk_at "pp"
 refine (bf (g:=(aF 4)) O rfl (eY (by rfl) T.eo ?_) gq (aK (i:=4) gB.nd) bB ?_)
 walk_at "pp"
theorem gk:ay ["_law_cell_here", "_law_bases", "_law_found", "_law_left", "_law_base"] ["_law_cell_here", "_law_bases"] (au (top 46)):=.of
theorem qC (F:aE K "_law_digits" "_law_digits" (top 46) dv f fd) (T:Txt K mg)  : aN P w K mg base (bT P w) 1 f fd ["_law_cell_here", "_law_bases"] (eJ 2 cL) :=
 F.gA gk fun _ _ _ _ _ _ hr O=>by
 unfold bW;have:=gk.nd;have T2:=T;cases T2
 walk_at "pp"
 refine (bf (g:=(aF 4)) O rfl (iH ?_) e8 (aK (i:=4) gk.nd) bB ?_)
 walk_at "pp"
theorem ij:ay ["_law_cell_here", "_law_many", "_law_sizes_here", "_law_number"] ["_law_cell_here"] (au (top 47)):=.of
theorem oG:((["_law_digit"]:List Str)++([]:List Str)).Nodup:=by decide +kernel
theorem rT (F:aE K "_law_sizes" "_law_sizes" (top 47) dv f fd) (T:Txt K mg) (o__law_digits:bI P w K mg base 1 "_law_digits" 2 (aw 5 bW)) (o__law_stream:bI P w K mg base 1 "_law_stream" 2 (aw 5 bX)):aN P w K mg base (bT P w) 2 f fd ["_law_cell_here"] (eJ 1 fZ) :=
 F.gA ij fun _ _ _ _ _ _ hr O=>by
 unfold eF;have:=ij.nd;have T2:=T;cases T2
 walk_at "pp"
 refine (eP (cw (g:=(aF 0)) (ts:=["_law_digit"]) (fs:=[]) (js:=[]) (cl:=[]) rfl rfl rfl rfl rfl rfl .nil .nil (iH ?_) e8 (fun _ _ _ _ _=>(aK (i:=0) oG)) (fun _=>bB) dF (fun _ _ _ _ _=>?_)))
 walk_at "pp"
 refine (bf (g:=(aF 3)) O rfl (iH ?_) e8 (aK (i:=3) ij.nd) bB ?_)
 walk_at "pp"
 exact (yz [2,3,4,6,8,9,12,16,24,27,32,36,64,72,81,128,243,256,360])
 walk_at "pp"
theorem lJ:ay ["_law_number"] ["_law_number"] (au (top 48)):=.of
theorem rC (F:aE K "_law_great" "_law_great" (top 48) dv f fd) (T:Txt K mg)  : aN P w K mg base (bT P w) 1 f fd ["_law_number"] (eJ 1 fV) :=
 F.gA lJ fun _ _ _ _ _ _ hr O=>by
 unfold eE;have:=lJ.nd;have T2:=T;cases T2
 walk_at "pp"
theorem fb:ay ["_law_cell_here", "_law_sizes_here", "_law_row", "_law_number", "_law_size", "_law_share"] ["_law_cell_here", "_law_sizes_here"] (au (top 49)):=.of
theorem rE (F:aE K "_law_lever" "_law_lever" (top 49) dv f fd) (T:Txt K mg) (o__law_stream:bI P w K mg base 1 "_law_stream" 2 (aw 5 bX)) (o__law_great:bI P w K mg base 1 "_law_great" 1 (aw 1 eE)):aN P w K mg base (bT P w) 2 f fd ["_law_cell_here", "_law_sizes_here"] (eJ 2 fP) :=
 F.gA fb fun _ _ _ _ _ _ hr O=>by
 unfold d_;have:=fb.nd;have T2:=T;cases T2
 walk_at "pp"
 refine (bf (g:=(iw K 2 (aU (aF 3) (aU (aF 4) iE)))) O rfl (jV (by rfl) T.jX ?_) ic (cP (n:=2) rfl (aD (aK (i:=3) fb.nd) (aD (aK (i:=4) fb.nd) bO))) ck ?_)
 walk_at "pp"
 exact (yz [1,1,2,3,4,6,12])
 walk_at "pp"
theorem gR:ay ["_law_script", "_law_sizes_here", "_law_levers_here", "_law_k", "_law_cell_here"] ["_law_script", "_law_sizes_here"] (au (top 50)):=.of
theorem pE (F:aE K "_law_levers" "_law_levers" (top 50) dv f fd) (T:Txt K mg) (o__law_cell:bI P w K mg base 1 "_law_cell" 2 (aw 2 dJ)) (o__law_digits:bI P w K mg base 1 "_law_digits" 2 (aw 5 bW)) (o__law_lever:bI P w K mg base 2 "_law_lever" 2 (aw 6 d_)):aN P w K mg base (bT P w) 3 f fd ["_law_script", "_law_sizes_here"] (eJ 2 fj) :=
 F.gA gR fun _ _ _ _ _ _ hr O=>by
 unfold dC;have:=gR.nd;have T2:=T;cases T2
 walk_at "pp"
 refine (bf (g:=(aF 3)) O rfl (eY (by rfl) T.eo ?_) gq (aK (i:=3) gR.nd) bB ?_)
 walk_at "pp"
theorem dz:ay ["_law_sizes_here", "_law_found", "_law_size", "_law_one", "_law_other"] ["_law_sizes_here"] (au (top 51)):=.of
theorem rN (F:aE K "_law_round" "_law_round" (top 51) dv f fd) (T:Txt K mg)  : aN P w K mg base (bT P w) 1 f fd ["_law_sizes_here"] (eJ 1 fX) :=
 F.gA dz fun _ _ _ _ _ _ hr O=>by
 unfold dU;have:=dz.nd;have T2:=T;cases T2
 walk_at "pp"
 refine (bf (g:=(aF 2)) O rfl (iH ?_) e8 (aK (i:=2) dz.nd) bB ?_)
 walk_at "pp"
 refine (BD (i:=3) (j:=4) rfl dz.nd rfl rfl (by decide) rfl rfl ?_ ?_)
 walk_at "pp"
 exact rfl
 walk_at "pp"
 refine (v5 O ?_ ?_)
 walk_at "pp"
 refine (BD (i:=3) (j:=4) rfl dz.nd rfl rfl (by decide) rfl rfl ?_ ?_)
 walk_at "pp"
 exact rfl
 walk_at "pp"
theorem lu:ay ["_law_sizes_here", "_law_one", "_law_other", "_law_times"] ["_law_sizes_here", "_law_one", "_law_other", "_law_times"] (au (top 52)):=.of
theorem fL:((["_law_here", "_law_there", "_law_size"]:List Str)++(["_law_times"]:List Str)).Nodup:=by decide +kernel
theorem qX (F:aE K "_law_added" "_law_added" (top 52) dv f fd) (T:Txt K mg)  : aN P w K mg base (bT P w) 1 f fd ["_law_sizes_here", "_law_one", "_law_other", "_law_times"] (eJ 4 f9) :=
 F.gA lu fun _ _ _ _ _ _ hr O=>by
 unfold eI;have:=lu.nd;have T2:=T;cases T2
 walk_at "pp"
 refine (eP (cw (g:=(iw K 3 (aU (aF 0) (aU (aF 1) (aU (aF 2) iE))))) (ts:=["_law_here", "_law_there", "_law_size"]) (fs:=["_law_times"]) (js:=[3]) rfl rfl rfl rfl rfl rfl (.cons rfl .nil) (.cons rfl rfl (by walk_at "l") rfl rfl .nil) (xY (by rfl) T.jX ?_) vX (fun _ _ _ _ _=>(cP (n:=3) rfl (aD (aK (i:=0) fL) (aD (aK (i:=1) fL) (aD (aK (i:=2) fL) bO))))) (fun _=>yJ) w8 (fun _ _ _ _ _=>?_)))
 walk_at "pp"
theorem cK:ay ["_law_sizes_here", "_law_weights", "_law_setting_here", "_law_around", "_law_total", "_law_weight", "_law_notch", "_law_size"] ["_law_sizes_here", "_law_weights", "_law_setting_here"] (au (top 53)):=.of
theorem ou (F:aE K "_law_weighed" "_law_weighed" (top 53) dv f fd) (T:Txt K mg) (o__law_round:bI P w K mg base 1 "_law_round" 1 (aw 5 dU)):aN P w K mg base (bT P w) 2 f fd ["_law_sizes_here", "_law_weights", "_law_setting_here"] (eJ 3 bM) :=
 F.gA cK fun _ _ _ _ _ _ hr O=>by
 unfold cq;have:=cK.nd;have T2:=T;cases T2
 walk_at "pp"
 refine (bf (g:=(iw K 3 (aU (aF 5) (aU (aF 6) (aU (aF 7) iE))))) O rfl (xY (by rfl) T.jX ?_) vX (cP (n:=3) rfl (aD (aK (i:=5) cK.nd) (aD (aK (i:=6) cK.nd) (aD (aK (i:=7) cK.nd) bO)))) yJ ?_)
 walk_at "pp"
theorem jD:ay ["_law_cell_here", "_law_sizes_here"] ["_law_cell_here", "_law_sizes_here"] (au (top 54)):=.of
theorem gW:((["_law_number", "_law_size"]:List Str)++([]:List Str)).Nodup:=by decide +kernel
theorem oH (F:aE K "_law_setting" "_law_setting" (top 54) dv f fd) (T:Txt K mg) (o__law_digits:bI P w K mg base 1 "_law_digits" 2 (aw 5 bW)) (o__law_stream:bI P w K mg base 1 "_law_stream" 2 (aw 5 bX)):aN P w K mg base (bT P w) 2 f fd ["_law_cell_here", "_law_sizes_here"] (eJ 2 dS) :=
 F.gA jD fun _ _ _ _ _ _ hr O=>by
 unfold c8;have:=jD.nd;have T2:=T;cases T2
 walk_at "pp"
 refine (eP (cw (g:=(iw K 2 (aU (aF 0) (aU (aF 1) iE)))) (ts:=["_law_number", "_law_size"]) (fs:=[]) (js:=[]) (cl:=[]) rfl rfl rfl rfl rfl rfl .nil .nil (jV (by rfl) T.jX ?_) ic (fun _ _ _ _ _=>(cP (n:=2) rfl (aD (aK (i:=0) gW) (aD (aK (i:=1) gW) bO)))) (fun _=>ck) cW (fun _ _ _ _ _=>?_)))
 walk_at "pp"
theorem cT:ay ["_law_sizes_here", "_law_steps", "_law_weights", "_law_dial", "_law_at", "_law_weight"] ["_law_sizes_here", "_law_steps", "_law_weights", "_law_dial"] (au (top 55)):=.of
theorem mB (F:aE K "_law_form_good" "_law_form_good" (top 55) dv f fd) (T:Txt K mg)  : aN P w K mg base (bT P w) 1 f fd ["_law_sizes_here", "_law_steps", "_law_weights", "_law_dial"] (eJ 4 de) :=
 F.gA cT fun _ _ _ _ _ _ hr O=>by
 unfold cz;have:=cT.nd;have T2:=T;cases T2
 walk_at "pp"
 refine (n5 ?_ (ky ?_)).pt
 walk_at "pp"
 refine (kB (T := "tuple") (by rfl) T.br (fg (v:=.ty "tuple") (by rfl) T.pe me rfl) (by decide) kn kn ?_)
 walk_at "pp"
 refine (bf (g:=(iw K 2 (aU (aF 4) (aU (aF 5) iE)))) O rfl (j3 (by rfl) T.bQ ?_) gY (cP (n:=2) rfl (aD (aK (i:=4) cT.nd) (aD (aK (i:=5) cT.nd) bO))) ck ?_)
 walk_at "pp"
 refine (n5 ?_ (ky ?_)).pt
 walk_at "pp"
 refine (kB (T := "int") (by rfl) T.br (fg (v:=.ty "int") (by rfl) T.C4 wX rfl) (by decide) kn kn ?_)
 walk_at "pp"
 refine (kB (T := "bool") (by rfl) T.br (fg (v:=.ty "bool") (by rfl) T.qM oY rfl) (by decide) kn kn ?_)
 walk_at "pp"
 refine (n5 ?_ (ky ?_)).pt
 walk_at "pp"
 refine (wF ?_ (tq ?_)).pt
 walk_at "pp"
 refine (wF ?_ (tq ?_)).pt
 walk_at "pp"
 refine (wF ?_ (tq ?_)).pt
 walk_at "pp"
 refine (CN sT m5 ym t7 ?_ ?_ ?_)
 walk_at "pp"
theorem dY:ay ["_law_sizes_here", "_law_levers_here", "_law_weights", "_law_row"] ["_law_sizes_here", "_law_levers_here", "_law_weights"] (au (top 57)):=.of
theorem mv (F:aE K "_law_all_still" "_law_all_still" (top 57) dv f fd) (T:Txt K mg) (o__law_weighed:bI P w K mg base 2 "_law_weighed" 3 (aw 8 cq)):aN P w K mg base (bT P w) 3 f fd ["_law_sizes_here", "_law_levers_here", "_law_weights"] (eJ 3 dc) :=
 F.gA dY fun _ _ _ _ _ _ hr O=>by
 unfold cu;have:=dY.nd;have T2:=T;cases T2
 walk_at "pp"
 refine (bf (g:=(aF 3)) O rfl (iH ?_) e8 (aK (i:=3) dY.nd) bB ?_)
 walk_at "pp"
theorem lr:ay ["self", "sizes", "levers", "prices"] ["self", "sizes", "levers", "prices"] (au (inClass (top 22) 0)):=.of
theorem oy:((["lever"]:List Str)++(["sizes"]:List Str)).Nodup:=by decide +kernel
theorem rF (F:aE K "__init__" "Vault.__init__" (inClass (top 22) 0) dv f fd) (T:Txt K mg) (o_need_sizes:bI P w K mg base 3 "need_sizes" 1 (aw 3 dP)) (o_need_levers:bI P w K mg base 3 "need_levers" 2 (aw 4 dA)) (o_rests:bI P w K mg base 1 "rests" 2 (aw 2 kN)) (o_prices_for:bI P w K mg base 3 "prices_for" 2 (aw 3 dW)) (o_multiple_of:bI P w K mg base 2 "multiple_of" 1 (aw 3 dy)):aN P w K mg base (bT P w) 4 f fd ["self", "sizes", "levers", "prices"] (Fi 4 aB hV) :=
 F.QL lr (by decide) fun _ _ _ _ _ _ hr O=>by
 unfold jb;have:=lr.nd;have T2:=T;cases T2
 walk_at "pp"
 refine (lL (i:=0) rfl (by first | exact .inl rfl | exact .inr (.inl rfl)) T.mh T.gQ ?_)
 walk_at "pp"
 refine (lL (i:=0) rfl (by first | exact .inl rfl | exact .inr (.inl rfl)) T.mh T.dQ ?_)
 walk_at "pp"
 refine (eP (cw (g:=(aF 0)) (ts:=["lever"]) (fs:=["sizes"]) (js:=[1]) rfl rfl rfl rfl rfl rfl (.cons rfl .nil) (.cons rfl rfl (by walk_at "l") rfl rfl .nil) (iH ?_) e8 (fun _ _ _ _ _=>(aK (i:=0) oy)) (fun _=>bB) dF (fun _ _ _ _ _=>?_)))
 walk_at "pp"
 refine (lL (i:=0) rfl (by first | exact .inl rfl | exact .inr (.inl rfl)) T.mh T.fk ?_)
 walk_at "pp"
 refine (lL (i:=0) rfl (by first | exact .inl rfl | exact .inr (.inl rfl)) T.mh T.fM ?_)
 walk_at "pp"
theorem j8:ay ["self"] ["self"] (au (inClass (top 22) 1)):=.of
theorem p6 (F:aE K "sizes" "Vault.sizes" (inClass (top 22) 1) dv f fd) (T:Txt K mg)  : aN P w K mg base (bT P w) 1 f fd ["self"] (eJ 1 aT) :=
 F.gA j8 fun _ _ _ _ _ _ hr O=>by
 unfold aV;have:=j8.nd;have T2:=T;cases T2
 walk_at "pp"
theorem jA:ay ["self"] ["self"] (au (inClass (top 22) 2)):=.of
theorem oO (F:aE K "levers" "Vault.levers" (inClass (top 22) 2) dv f fd) (T:Txt K mg)  : aN P w K mg base (bT P w) 1 f fd ["self"] (eJ 1 bK) :=
 F.gA jA fun _ _ _ _ _ _ hr O=>by
 unfold bN;have:=jA.nd;have T2:=T;cases T2
 walk_at "pp"
theorem jv:ay ["self"] ["self"] (au (inClass (top 22) 3)):=.of
theorem oP (F:aE K "prices" "Vault.prices" (inClass (top 22) 3) dv f fd) (T:Txt K mg)  : aN P w K mg base (bT P w) 1 f fd ["self"] (eJ 1 qe) :=
 F.gA jv fun _ _ _ _ _ _ hr O=>by
 unfold gD;have:=jv.nd;have T2:=T;cases T2
 walk_at "pp"
theorem jw:ay ["self"] ["self"] (au (inClass (top 22) 4)):=.of
theorem oz (F:aE K "around" "Vault.around" (inClass (top 22) 4) dv f fd) (T:Txt K mg)  : aN P w K mg base (bT P w) 1 f fd ["self"] (eJ 1 cA) :=
 F.gA jw fun _ _ _ _ _ _ hr O=>by
 unfold cv;have:=jw.nd;have T2:=T;cases T2
 walk_at "pp"
theorem jQ:ay ["self", "sizes"] ["self"] (au (inClass (top 42) 1)):=.of
theorem nG:((["dial"]:List Str)++(["self", "sizes"]:List Str)).Nodup:=by decide +kernel
theorem qb (F:aE K "steps" "Rungs.steps" (inClass (top 42) 1) dv f fd) (T:Txt K mg) (o_Vault_sizes:k4 P w K mg base aB 1 "sizes" 1 (aw 1 aV)) (o_step_size:bI P w K mg base 1 "step_size" 3 (aw 4 cX)):aN P w K mg base (bT P w) 2 f fd ["self"] (eJ 1 dD) :=
 F.gA jQ fun _ _ _ _ _ _ hr O=>by
 unfold cO;have:=jQ.nd;have T2:=T;cases T2
 walk_at "pp"
 refine (eP (cw (g:=(aF 0)) (ts:=["dial"]) (fs:=["self", "sizes"]) (js:=[0,1]) rfl rfl rfl rfl rfl rfl (.cons rfl (.cons rfl .nil)) (.cons rfl rfl (by walk_at "l") rfl rfl (.cons rfl rfl (by walk_at "l") rfl rfl .nil)) (eY (by rfl) T.eo ?_) gq (fun _ _ _ _ _=>(aK (i:=0) nG)) (fun _=>bB) dF (fun _ _ _ _ _=>?_)))
 walk_at "pp"
theorem sv:ay ["vault"] ["vault"] (au (top 28)):=.of
theorem yW (F:aE K "nought" "nought" (top 28) dv f fd) (T:Txt K mg) (o_Vault_sizes:k4 P w K mg base aB 1 "sizes" 1 (aw 1 aV)):aN P w K mg base (bT P w) 2 f fd ["vault"] (eJ 1 j6) :=
 F.gA sv fun _ _ _ _ _ _ hr O=>by
 unfold ki;have:=sv.nd;have T2:=T;cases T2
 walk_at "pp"
theorem lj:ay ["vault", "thing", "sizes"] ["vault", "thing"] (au (top 29)):=.of
theorem jB:((["notch", "size"]:List Str)++([]:List Str)).Nodup:=by decide +kernel
theorem rX (F:aE K "is_setting" "is_setting" (top 29) dv f fd) (T:Txt K mg) (o_Vault_sizes:k4 P w K mg base aB 1 "sizes" 1 (aw 1 aV)) (o_is_row:bI P w K mg base 2 "is_row" 2 (aw 2 iY)):aN P w K mg base (bT P w) 3 f fd ["vault", "thing"] (eJ 2 fN) :=
 F.gA lj fun _ _ _ _ _ _ hr O=>by
 unfold dZ;have:=lj.nd;have T2:=T;cases T2
 walk_at "pp"
 refine (n5 ?_ (ky ?_)).pt
 walk_at "pp"
 refine (kB (T := "tuple") (by rfl) T.br (fg (v:=.ty "tuple") (by rfl) T.pe me rfl) (by decide) kn kn ?_)
 walk_at "pp"
 refine (eP (cw (g:=(iw K 2 (aU (aF 0) (aU (aF 1) iE)))) (ts:=["notch", "size"]) (fs:=[]) (js:=[]) (cl:=[]) rfl rfl rfl rfl rfl rfl .nil .nil (jV (by rfl) T.jX ?_) ic (fun _ _ _ _ _=>(cP (n:=2) rfl (aD (aK (i:=0) jB) (aD (aK (i:=1) jB) bO)))) (fun _=>ck) cW (fun _ _ _ _ _=>?_)))
 walk_at "pp"
 refine (vb sT m5 ym t7 ?_ ?_ ?_)
 walk_at "pp"
theorem jz:ay ["vault", "thing"] ["vault", "thing"] (au (top 30)):=.of
theorem oF (F:aE K "need_setting" "need_setting" (top 30) dv f fd) (T:Txt K mg) (o_is_setting:bI P w K mg base 3 "is_setting" 2 (aw 3 dZ)):aN P w K mg base (bT P w) 4 f fd ["vault", "thing"] (eJ 2 cp) :=
 F.gA jz fun _ _ _ _ _ _ hr O=>by
 unfold cy;have:=jz.nd;have T2:=T;cases T2
 walk_at "pp"
theorem pF:ay ["vault", "weights", "setting", "around", "worths"] ["vault", "weights", "setting"] (au (top 32)):=.of
theorem pv:((["weight", "size"]:List Str)++(["around"]:List Str)).Nodup:=by decide +kernel
theorem Cc (F:aE K "weigh" "weigh" (top 32) dv f fd) (T:Txt K mg) (o_need_setting:bI P w K mg base 4 "need_setting" 2 (aw 2 cy)) (o_Vault_around:k4 P w K mg base aB 1 "around" 1 (aw 1 cv)) (o_Vault_sizes:k4 P w K mg base aB 1 "sizes" 1 (aw 1 aV)) (o_rest_sum:bI P w K mg base 1 "rest_sum" 3 (aw 3 gC)):aN P w K mg base (bT P w) 5 f fd ["vault", "weights", "setting"] (eJ 3 oS) :=
 F.gA pF fun _ _ _ _ _ _ hr O=>by
 unfold mx;have:=pF.nd;have T2:=T;cases T2
 walk_at "pp"
 refine (uh (i:=4) (g:=(iw K 2 (aU (aF 0) (aU (aF 1) iE)))) (ts:=["weight", "size"]) (fs:=["around"]) (js:=[3]) rfl rfl rfl rfl rfl rfl (.cons rfl .nil) (.cons rfl rfl (by walk_at "l") rfl rfl .nil) (jV (by rfl) T.jX ?_) ic (fun _ _ _ _ _=>(cP (n:=2) rfl (aD (aK (i:=0) pv) (aD (aK (i:=1) pv) bO)))) (fun _=>ck) cW (fun _ _ _ _ _=>?_) pF.nd rfl (by walk_at "l"))
 walk_at "pp"
theorem nQ:ay ["vault", "setting"] ["vault", "setting"] (au (top 36)):=.of
theorem vg (F:aE K "unpulled" "unpulled" (top 36) dv f fd) (T:Txt K mg) (o_Vault_levers:k4 P w K mg base aB 1 "levers" 1 (aw 1 bN)):aN P w K mg base (bT P w) 2 f fd ["vault", "setting"] (eJ 2 eW) :=
 F.gA nQ fun _ _ _ _ _ _ hr O=>by
 unfold eV;have:=nQ.nd;have T2:=T;cases T2
 walk_at "pp"
theorem kj:ay ["vault", "lever", "levers"] ["vault", "lever"] (au (top 37)):=.of
theorem pW (F:aE K "pulled_once" "pulled_once" (top 37) dv f fd) (T:Txt K mg) (o_Vault_levers:k4 P w K mg base aB 1 "levers" 1 (aw 1 bN)) (o_unit_row:bI P w K mg base 1 "unit_row" 2 (aw 2 gK)):aN P w K mg base (bT P w) 2 f fd ["vault", "lever"] (eJ 2 fe) :=
 F.gA kj fun _ _ _ _ _ _ hr O=>by
 unfold dB;have:=kj.nd;have T2:=T;cases T2
 walk_at "pp"
theorem iz:ay ["self", "vault", "sizes", "made_rows", "idle_rows", "lever", "taken"] ["self", "vault"] (au (inClass (top 42) 0)):=.of
theorem oM:((["size"]:List Str)++(["vault"]:List Str)).Nodup:=by decide +kernel
theorem jC:((["dial", "made"]:List Str)++(["sizes", "made_rows"]:List Str)).Nodup:=by decide +kernel
theorem rA (F:aE K "__init__" "Rungs.__init__" (inClass (top 42) 0) dv f fd) (T:Txt K mg) (o_Vault_sizes:k4 P w K mg base aB 1 "sizes" 1 (aw 1 aV)) (o_nought:bI P w K mg base 2 "nought" 1 (aw 1 ki)) (o_unpulled:bI P w K mg base 2 "unpulled" 2 (aw 2 eV)) (o_Vault_levers:k4 P w K mg base aB 1 "levers" 1 (aw 1 bN)) (o_pulled_once:bI P w K mg base 2 "pulled_once" 2 (aw 3 dB)) (o_taken_in:bI P w K mg base 3 "taken_in" 3 (aw 9 gO)) (o_in_spans:bI P w K mg base 2 "in_spans" 2 (aw 4 gv)) (o_lowered:bI P w K mg base 3 "lowered" 4 (aw 6 gc)):aN P w K mg base (bT P w) 4 f fd ["self", "vault"] (Fi 2 aA ib) :=
 F.QL iz (by decide) fun _ _ _ _ _ _ hr O=>by
 unfold jq;have:=iz.nd;have T2:=T;cases T2
 walk_at "pp"
 refine (eP (cw (g:=(aF 0)) (ts:=["size"]) (fs:=["vault"]) (js:=[1]) rfl rfl rfl rfl rfl rfl (.cons rfl .nil) (.cons rfl rfl (by walk_at "l") rfl rfl .nil) (iH ?_) e8 (fun _ _ _ _ _=>(aK (i:=0) oM)) (fun _=>bB) dF (fun _ _ _ _ _=>?_)))
 walk_at "pp"
 refine (bf (g:=(aF 5)) O rfl (eY (by rfl) T.eo ?_) gq (aK (i:=5) iz.nd) bB ?_)
 walk_at "pp"
 refine (yD 4 ?_)
 walk_at "pp"
 refine (lL (i:=0) rfl (by first | exact .inl rfl | exact .inr (.inl rfl)) T.pd T.lz ?_)
 walk_at "pp"
 refine (lL (i:=0) rfl (by first | exact .inl rfl | exact .inr (.inl rfl)) T.pd T.gX ?_)
 walk_at "pp"
 refine (eP (cw (g:=(iw K 2 (aU (aF 0) (aU (aF 1) iE)))) (ts:=["dial", "made"]) (fs:=["sizes", "made_rows"]) (js:=[2,3]) rfl rfl rfl rfl rfl rfl (.cons rfl (.cons rfl .nil)) (.cons rfl rfl (by walk_at "l") rfl rfl (.cons rfl rfl (by walk_at "l") rfl rfl .nil)) (j3 (by rfl) T.bQ ?_) gY (fun _ _ _ _ _=>(cP (n:=2) rfl (aD (aK (i:=0) jC) (aD (aK (i:=1) jC) bO)))) (fun _=>ck) cW (fun _ _ _ _ _=>?_)))
 walk_at "pp"
 refine (lL (i:=0) rfl (by first | exact .inl rfl | exact .inr (.inl rfl)) T.pd T.h_ ?_)
 walk_at "pp"
theorem eN:ay ["self", "setting"] ["self", "setting"] (au (inClass (top 42) 5)):=.of
theorem jG (F:aE K "brought_down" "Rungs.brought_down" (inClass (top 42) 5) dv f fd) (T:Txt K mg) (o_need_setting:bI P w K mg base 4 "need_setting" 2 (aw 2 cy)) (o_unpulled:bI P w K mg base 2 "unpulled" 2 (aw 2 eV)) (o_Vault_sizes:k4 P w K mg base aB 1 "sizes" 1 (aw 1 aV)) (o_lowered:bI P w K mg base 3 "lowered" 4 (aw 6 gc)):aN P w K mg base (bT P w) 5 f fd ["self", "setting"] (eJ 2 bR) :=
 F.gA eN fun _ _ _ _ _ _ hr O=>by
 unfold bw;have:=eN.nd;have T2:=T;cases T2
 walk_at "pp"
theorem kf:ay ["self", "setting"] ["self", "setting"] (au (inClass (top 42) 6)):=.of
theorem qJ (F:aE K "least" "Rungs.least" (inClass (top 42) 6) dv f fd) (T:Txt K mg) (o_Rungs_brought_down:k4 P w K mg base aA 5 "brought_down" 2 (aw 2 bw)):aN P w K mg base (bT P w) 6 f fd ["self", "setting"] (eJ 2 dw) :=
 F.gA kf fun _ _ _ _ _ _ hr O=>by
 unfold cN;have:=kf.nd;have T2:=T;cases T2
 walk_at "pp"
theorem b_:ay ["self", "dial", "sizes", "fills", "weights", "ahead", "weighed", "share"] ["self", "dial"] (au (inClass (top 42) 8)):=.of
theorem eM:((["size", "step"]:List Str)++([]:List Str)).Nodup:=by decide +kernel
theorem la (F:aE K "weights_at" "Rungs.weights_at" (inClass (top 42) 8) dv f fd) (T:Txt K mg) (o_Vault_sizes:k4 P w K mg base aB 1 "sizes" 1 (aw 1 aV)) (o_is_within:bI P w K mg base 2 "is_within" 3 (aw 3 cF)) (x_NoDial:qU P w K mg base bG "NoDial" "dial") (o_Rungs_steps:k4 P w K mg base aA 2 "steps" 1 (aw 2 cO)) (o_weigh:bI P w K mg base 5 "weigh" 3 (aw 5 mx)) (o_Vault_around:k4 P w K mg base aB 1 "around" 1 (aw 1 cv)):aN P w K mg base (bT P w) 6 f fd ["self", "dial"] (eJ 2 aO) :=
 F.gA b_ fun _ _ _ _ _ _ hr O=>by
 unfold aX;have:=b_.nd;have T2:=T;cases T2
 walk_at "pp"
 refine (uh (i:=3) (g:=(iw K 2 (aU (aF 0) (aU (aF 1) iE)))) (ts:=["size", "step"]) (fs:=[]) (js:=[]) (cl:=[]) rfl rfl rfl rfl rfl rfl .nil .nil (jV (by rfl) T.jX ?_) ic (fun _ _ _ _ _=>(cP (n:=2) rfl (aD (aK (i:=0) eM) (aD (aK (i:=1) eM) bO)))) (fun _=>ck) cW (fun _ _ _ _ _=>?_) b_.nd rfl (by walk_at "l"))
 walk_at "pp"
 refine (FX ?_ ?_)
 walk_at "pp"
 refine (Fo (i:=4) rfl (by first | exact .inl rfl | exact .inr (.inl rfl)) ?_ ?_)
 walk_at "pp"
 refine (bf (g:=(aF 5)) O rfl (rZ (by rfl) T.eo ?_) vK (aK (i:=5) b_.nd) bB ?_)
 walk_at "pp"
 refine (yD 4 ?_)
 walk_at "pp"
 refine (Fo (i:=4) rfl (by first | exact .inl rfl | exact .inr (.inl rfl)) ?_ ?_)
 walk_at "pp"
theorem fJ:ay ["_law_rungs", "_law_bad", "_law_found", "e"] ["_law_rungs", "_law_bad"] (au (top 56)):=.of
theorem oC (F:aE K "_law_refused" "_law_refused" (top 56) dv f fd) (T:Txt K mg) (o_Rungs_weights_at:k4 P w K mg base aA 6 "weights_at" 2 (aw 8 aX)):aN P w K mg base (bT P w) 7 f fd ["_law_rungs", "_law_bad"] (eJ 2 cm) :=
 F.gA fJ fun _ _ _ _ _ _ hr O=>by
 unfold c9;have:=fJ.nd;have T2:=T;cases T2
 walk_at "pp"
 refine (HQ rfl rfl (fun pn E2 O2=>(Er ?_)) (.FA (i:=3) (by rfl) T.qx.mg (by decide) fJ.nd rfl rfl T.qx.ok (fun ea=>?_) .nil))
 walk_at "pp"
 refine (Je ?_ T.xR rfl)
 walk_at "pp"
 refine (n5 ?_ (ky ?_)).pt
 walk_at "pp"
 refine (kB (T := "bool") (by rfl) T.br (fg (v:=.ty "bool") (by rfl) T.qM oY rfl) (by decide) kn kn ?_)
 walk_at "pp"
 refine (kB (T := "bool") (by rfl) T.br (fg (v:=.ty "bool") (by rfl) T.qM oY rfl) (by decide) kn kn ?_)
 walk_at "pp"
theorem bc:ay ["_law_rungs", "_law_sizes_here", "_law_all_weights", "_law_setting_here", "_law_least", "_law_dial", "_law_number", "_law_weights"] ["_law_rungs", "_law_sizes_here", "_law_all_weights", "_law_setting_here"] (au (top 58)):=.of
theorem jd (F:aE K "_law_weighs_setting" "_law_weighs_setting" (top 58) dv f fd) (T:Txt K mg) (o_Rungs_least:k4 P w K mg base aA 6 "least" 2 (aw 2 cN)) (o__law_weighed:bI P w K mg base 2 "_law_weighed" 3 (aw 8 cq)):aN P w K mg base (bT P w) 7 f fd ["_law_rungs", "_law_sizes_here", "_law_all_weights", "_law_setting_here"] (eJ 4 bh) :=
 F.gA bc fun _ _ _ _ _ _ hr O=>by
 unfold bg;have:=bc.nd;have T2:=T;cases T2
 walk_at "pp"
 refine (bf (g:=(iw K 2 (aU (aF 5) (aU (aF 6) iE)))) O rfl (j3 (by rfl) T.bQ ?_) gY (cP (n:=2) rfl (aD (aK (i:=5) bc.nd) (aD (aK (i:=6) bc.nd) bO))) ck ?_)
 walk_at "pp"
 refine (bf (g:=(aF 7)) O rfl (iH ?_) e8 (aK (i:=7) bc.nd) bB ?_)
 walk_at "pp"
theorem l5:ay ["_law_script", "_law_sizes_here", "_law_levers_here", "_law_rungs", "_law_steps", "_law_all_weights", "_law_dial", "_law_weights", "_law_k", "_law_cell_here", "_law_setting_here", "_law_bad"] ["_law_script"] (au (top 59)):=.of
theorem BL:((["_law_dial"]:List Str)++(["_law_rungs"]:List Str)).Nodup:=by decide +kernel
theorem Hi (F:aE K "law" "law" (top 59) dv f fd) (T:Txt K mg) (o__law_cell:bI P w K mg base 1 "_law_cell" 2 (aw 2 dJ)) (o__law_sizes:bI P w K mg base 2 "_law_sizes" 1 (aw 4 eF)) (o__law_levers:bI P w K mg base 3 "_law_levers" 2 (aw 5 dC)) (o_Vault_init:Ij P w K mg base aB 4 "Vault" 4 [.cS] hV) (o_Rungs_init:Ij P w K mg base aA 4 "Rungs" 2 [] ib) (o_Rungs_steps:k4 P w K mg base aA 2 "steps" 1 (aw 2 cO)) (o_Rungs_weights_at:k4 P w K mg base aA 6 "weights_at" 2 (aw 8 aX)) (o__law_form_good:bI P w K mg base 1 "_law_form_good" 4 (aw 6 cz)) (o__law_all_still:bI P w K mg base 3 "_law_all_still" 3 (aw 4 cu)) (o__law_setting:bI P w K mg base 2 "_law_setting" 2 (aw 2 c8)) (o_Rungs_least:k4 P w K mg base aA 6 "least" 2 (aw 2 cN)) (o__law_added:bI P w K mg base 1 "_law_added" 4 (aw 4 eI)) (o__law_weighs_setting:bI P w K mg base 7 "_law_weighs_setting" 4 (aw 8 bg)) (o__law_refused:bI P w K mg base 7 "_law_refused" 2 (aw 4 c9)):aN P w K mg base (bT P w) 8 f fd ["_law_script"] (eJ 1 sJ) :=
 F.gA l5 fun _ _ _ _ _ _ hr O=>by
 unfold AI;have:=l5.nd;have T2:=T;cases T2
 walk_at "pp"
 refine (uh (i:=5) (g:=(aF 0)) (ts:=["_law_dial"]) (fs:=["_law_rungs"]) (js:=[3]) rfl rfl rfl rfl rfl rfl (.cons rfl .nil) (.cons rfl rfl (by walk_at "l") rfl rfl .nil) (eY (by rfl) T.eo ?_) gq (fun _ _ _ _ _=>(aK (i:=0) BL)) (fun _=>bB) dF (fun _ _ _ _ _=>?_) l5.nd rfl (by walk_at "l"))
 walk_at "pp"
 refine (bf (g:=(iw K 2 (aU (aF 6) (aU (aF 7) iE)))) O rfl (j3 (by rfl) T.bQ ?_) gY (cP (n:=2) rfl (aD (aK (i:=6) l5.nd) (aD (aK (i:=7) l5.nd) bO))) ck ?_)
 walk_at "pp"
 refine (n5 ?_ (ky ?_)).pt
 walk_at "pp"
 refine (bf (g:=(iw K 2 (aU (aF 8) (aU (aF 9) iE)))) O rfl (j3 (by rfl) T.bQ ?_) gY (cP (n:=2) rfl (aD (aK (i:=8) l5.nd) (aD (aK (i:=9) l5.nd) bO))) ck ?_)
 walk_at "pp"
 refine (yX ?_ (yt ?_) (yt ?_))
 walk_at "pp"
end wx
namespace wx
open PySem L2 PyProof.Rows
open PySem.W (nsIn findIn codeIn keepIn isFn mroIn specialIn takesIn hasDictIn typeIn plainGet plainOver makesIn mg_of mg_none_of fnOf excIn clsIn)
noncomputable abbrev κ (w:World):PySem.W.Frag:=HD.K w.params
variable (w:World)
def kr:FuncData:=fF "is_whole" "is_whole" (top 9) (HD.st "dialvault.wholes" 363) 163
theorem pJ:aE (κ w) "is_whole" "is_whole" (top 9) .none 164 kr:=.of (by kernel_rfl) (by kernel_rfl) (by kernel_rfl)
theorem xC:Binds (κ w) kr ["thing"] []:=Binds.all (Ap fun _=>rfl)
def mR:FuncData:=fF "is_row" "is_row" (top 10) (HD.st "dialvault.wholes" 363) 168
theorem vP:aE (κ w) "is_row" "is_row" (top 10) .none 169 mR:=.of (by kernel_rfl) (by kernel_rfl) (by kernel_rfl)
theorem Bv:Binds (κ w) mR ["thing", "length"] []:=Binds.all (oQ fun _ _=>rfl)
def nJ:FuncData:=fF "common" "common" (top 11) (HD.st "dialvault.wholes" 363) 175
theorem vU:aE (κ w) "common" "common" (top 11) .none 176 nJ:=.of (by kernel_rfl) (by kernel_rfl) (by kernel_rfl)
theorem A8:Binds (κ w) nJ ["one", "other"] []:=Binds.all (oQ fun _ _=>rfl)
def gN:FuncData:=fF "multiple_of" "multiple_of" (top 12) (HD.st "dialvault.wholes" 363) 182
theorem lG:aE (κ w) "multiple_of" "multiple_of" (top 12) .none 183 gN:=.of (by kernel_rfl) (by kernel_rfl) (by kernel_rfl)
theorem rO:Binds (κ w) gN ["numbers"] []:=Binds.all (Ap fun _=>rfl)
def j9:FuncData:=fF "unit_row" "unit_row" (top 13) (HD.st "dialvault.wholes" 363) 187
theorem qo:aE (κ w) "unit_row" "unit_row" (top 13) .none 188 j9:=.of (by kernel_rfl) (by kernel_rfl) (by kernel_rfl)
theorem xp:Binds (κ w) j9 ["length", "place"] []:=Binds.all (oQ fun _ _=>rfl)
def jN:FuncData:=fF "rest_sum" "rest_sum" (top 14) (HD.st "dialvault.wholes" 363) 192
theorem pM:aE (κ w) "rest_sum" "rest_sum" (top 14) .none 193 jN:=.of (by kernel_rfl) (by kernel_rfl) (by kernel_rfl)
theorem xm:Binds (κ w) jN ["numbers", "others", "by"] []:=Binds.all (Gg fun _ _ _=>rfl)
def jm:FuncData:=fF "is_within" "is_within" (top 23) (HD.st "dialvault.vault" 411) 247
theorem nY:aE (κ w) "is_within" "is_within" (top 23) .none 248 jm:=.of (by kernel_rfl) (by kernel_rfl) (by kernel_rfl)
theorem vV:Binds (κ w) jm ["thing", "least", "most"] []:=Binds.all (Gg fun _ _ _=>rfl)
def iA:FuncData:=fF "need_sizes" "need_sizes" (top 24) (HD.st "dialvault.vault" 411) 254
theorem mj:aE (κ w) "need_sizes" "need_sizes" (top 24) .none 255 iA:=.of (by kernel_rfl) (by kernel_rfl) (by kernel_rfl)
theorem uu:Binds (κ w) iA ["sizes"] []:=Binds.all (Ap fun _=>rfl)
def gu:FuncData:=fF "need_levers" "need_levers" (top 25) (HD.st "dialvault.vault" 411) 261
theorem lq:aE (κ w) "need_levers" "need_levers" (top 25) .none 262 gu:=.of (by kernel_rfl) (by kernel_rfl) (by kernel_rfl)
theorem rf:Binds (κ w) gu ["levers", "dials"] []:=Binds.all (oQ fun _ _=>rfl)
def iD:FuncData:=fF "prices_for" "prices_for" (top 26) (HD.st "dialvault.vault" 411) 268
theorem mO:aE (κ w) "prices_for" "prices_for" (top 26) .none 269 iD:=.of (by kernel_rfl) (by kernel_rfl) (by kernel_rfl)
theorem tf:Binds (κ w) iD ["levers", "prices"] []:=Binds.all (oQ fun _ _=>rfl)
def qc:FuncData:=fF "rests" "rests" (top 27) (HD.st "dialvault.vault" 411) 273
theorem xQ:aE (κ w) "rests" "rests" (top 27) .none 274 qc:=.of (by kernel_rfl) (by kernel_rfl) (by kernel_rfl)
theorem EI:Binds (κ w) qc ["numbers", "sizes"] []:=Binds.all (oQ fun _ _=>rfl)
def qq:FuncData:=fF "mixed" "mixed" (top 34) (HD.st "dialvault.rungs" 555) 302
theorem yC:aE (κ w) "mixed" "mixed" (top 34) .none 303 qq:=.of (by kernel_rfl) (by kernel_rfl) (by kernel_rfl)
theorem DM:Binds (κ w) qq ["row", "times", "other", "others"] []:=Binds.all (J1 fun _ _ _ _=>rfl)
def iJ:FuncData:=fF "mixed_made" "mixed_made" (top 35) (HD.st "dialvault.rungs" 555) 309
theorem mI:aE (κ w) "mixed_made" "mixed_made" (top 35) .none 310 iJ:=.of (by kernel_rfl) (by kernel_rfl) (by kernel_rfl)
theorem ux:Binds (κ w) iJ ["sizes", "made", "times", "other", "others"] []:=Binds.all (Ra fun _ _ _ _ _=>rfl)
def i6:FuncData:=fF "step_size" "step_size" (top 38) (HD.st "dialvault.rungs" 555) 330
theorem og:aE (κ w) "step_size" "step_size" (top 38) .none 331 i6:=.of (by kernel_rfl) (by kernel_rfl) (by kernel_rfl)
theorem vh:Binds (κ w) i6 ["sizes", "made_rows", "dial"] []:=Binds.all (Gg fun _ _ _=>rfl)
def jW:FuncData:=fF "taken_in" "taken_in" (top 39) (HD.st "dialvault.rungs" 555) 337
theorem pO:aE (κ w) "taken_in" "taken_in" (top 39) .none 338 jW:=.of (by kernel_rfl) (by kernel_rfl) (by kernel_rfl)
theorem xD:Binds (κ w) jW ["sizes", "made_rows", "left"] []:=Binds.all (Gg fun _ _ _=>rfl)
def lY:FuncData:=fF "lowered" "lowered" (top 40) (HD.st "dialvault.rungs" 555) 344
theorem sC:aE (κ w) "lowered" "lowered" (top 40) .none 345 lY:=.of (by kernel_rfl) (by kernel_rfl) (by kernel_rfl)
theorem zT:Binds (κ w) lY ["sizes", "made_rows", "made", "first"] []:=Binds.all (J1 fun _ _ _ _=>rfl)
def jS:FuncData:=fF "in_spans" "in_spans" (top 41) (HD.st "dialvault.rungs" 555) 351
theorem qv:aE (κ w) "in_spans" "in_spans" (top 41) .none 352 jS:=.of (by kernel_rfl) (by kernel_rfl) (by kernel_rfl)
theorem w_:Binds (κ w) jS ["pulls", "idle_rows"] []:=Binds.all (oQ fun _ _=>rfl)
def i8:FuncData:=fF "_law_cell" "_law_cell" (top 44) (HD.st "law_dialvault_k25_step_weights" 725) 429
theorem nU:aE (κ w) "_law_cell" "_law_cell" (top 44) .none 430 i8:=.of (by kernel_rfl) (by kernel_rfl) (by kernel_rfl)
theorem wg:Binds (κ w) i8 ["_law_script", "_law_k"] []:=Binds.all (oQ fun _ _=>rfl)
def gH:FuncData:=fF "_law_stream" "_law_stream" (top 45) (HD.st "law_dialvault_k25_step_weights" 725) 436
theorem lF:aE (κ w) "_law_stream" "_law_stream" (top 45) .none 437 gH:=.of (by kernel_rfl) (by kernel_rfl) (by kernel_rfl)
theorem rV:Binds (κ w) gH ["_law_cell_here", "_law_many"] []:=Binds.all (oQ fun _ _=>rfl)
def gy:FuncData:=fF "_law_digits" "_law_digits" (top 46) (HD.st "law_dialvault_k25_step_weights" 725) 443
theorem lB:aE (κ w) "_law_digits" "_law_digits" (top 46) .none 444 gy:=.of (by kernel_rfl) (by kernel_rfl) (by kernel_rfl)
theorem rQ:Binds (κ w) gy ["_law_cell_here", "_law_bases"] []:=Binds.all (oQ fun _ _=>rfl)
def iG:FuncData:=fF "_law_sizes" "_law_sizes" (top 47) (HD.st "law_dialvault_k25_step_weights" 725) 448
theorem mq:aE (κ w) "_law_sizes" "_law_sizes" (top 47) .none 449 iG:=.of (by kernel_rfl) (by kernel_rfl) (by kernel_rfl)
theorem uJ:Binds (κ w) iG ["_law_cell_here"] []:=Binds.all (Ap fun _=>rfl)
def ik:FuncData:=fF "_law_great" "_law_great" (top 48) (HD.st "law_dialvault_k25_step_weights" 725) 455
theorem mM:aE (κ w) "_law_great" "_law_great" (top 48) .none 456 ik:=.of (by kernel_rfl) (by kernel_rfl) (by kernel_rfl)
theorem tK:Binds (κ w) ik ["_law_number"] []:=Binds.all (Ap fun _=>rfl)
def iq:FuncData:=fF "_law_lever" "_law_lever" (top 49) (HD.st "law_dialvault_k25_step_weights" 725) 462
theorem mL:aE (κ w) "_law_lever" "_law_lever" (top 49) .none 463 iq:=.of (by kernel_rfl) (by kernel_rfl) (by kernel_rfl)
theorem ub:Binds (κ w) iq ["_law_cell_here", "_law_sizes_here"] []:=Binds.all (oQ fun _ _=>rfl)
def gM:FuncData:=fF "_law_levers" "_law_levers" (top 50) (HD.st "law_dialvault_k25_step_weights" 725) 469
theorem ly:aE (κ w) "_law_levers" "_law_levers" (top 50) .none 470 gM:=.of (by kernel_rfl) (by kernel_rfl) (by kernel_rfl)
theorem qV:Binds (κ w) gM ["_law_script", "_law_sizes_here"] []:=Binds.all (oQ fun _ _=>rfl)
def iB:FuncData:=fF "_law_round" "_law_round" (top 51) (HD.st "law_dialvault_k25_step_weights" 725) 476
theorem mD:aE (κ w) "_law_round" "_law_round" (top 51) .none 477 iB:=.of (by kernel_rfl) (by kernel_rfl) (by kernel_rfl)
theorem uD:Binds (κ w) iB ["_law_sizes_here"] []:=Binds.all (Ap fun _=>rfl)
def ir:FuncData:=fF "_law_added" "_law_added" (top 52) (HD.st "law_dialvault_k25_step_weights" 725) 481
theorem mi:aE (κ w) "_law_added" "_law_added" (top 52) .none 482 ir:=.of (by kernel_rfl) (by kernel_rfl) (by kernel_rfl)
theorem t4:Binds (κ w) ir ["_law_sizes_here", "_law_one", "_law_other", "_law_times"] []:=Binds.all (J1 fun _ _ _ _=>rfl)
def fH:FuncData:=fF "_law_weighed" "_law_weighed" (top 53) (HD.st "law_dialvault_k25_step_weights" 725) 488
theorem j7:aE (κ w) "_law_weighed" "_law_weighed" (top 53) .none 489 fH:=.of (by kernel_rfl) (by kernel_rfl) (by kernel_rfl)
theorem qL:Binds (κ w) fH ["_law_sizes_here", "_law_weights", "_law_setting_here"] []:=Binds.all (Gg fun _ _ _=>rfl)
def fE:FuncData:=fF "_law_setting" "_law_setting" (top 54) (HD.st "law_dialvault_k25_step_weights" 725) 493
theorem j4:aE (κ w) "_law_setting" "_law_setting" (top 54) .none 494 fE:=.of (by kernel_rfl) (by kernel_rfl) (by kernel_rfl)
theorem pZ:Binds (κ w) fE ["_law_cell_here", "_law_sizes_here"] []:=Binds.all (oQ fun _ _=>rfl)
def dR:FuncData:=fF "_law_form_good" "_law_form_good" (top 55) (HD.st "law_dialvault_k25_step_weights" 725) 500
theorem iN:aE (κ w) "_law_form_good" "_law_form_good" (top 55) .none 501 dR:=.of (by kernel_rfl) (by kernel_rfl) (by kernel_rfl)
theorem m9:Binds (κ w) dR ["_law_sizes_here", "_law_steps", "_law_weights", "_law_dial"] []:=Binds.all (J1 fun _ _ _ _=>rfl)
def dX:FuncData:=fF "_law_all_still" "_law_all_still" (top 57) (HD.st "law_dialvault_k25_step_weights" 725) 514
theorem iV:aE (κ w) "_law_all_still" "_law_all_still" (top 57) .none 515 dX:=.of (by kernel_rfl) (by kernel_rfl) (by kernel_rfl)
theorem nz:Binds (κ w) dX ["_law_sizes_here", "_law_levers_here", "_law_weights"] []:=Binds.all (Gg fun _ _ _=>rfl)
def iI:FuncData:=fnOf "__init__" "Vault.__init__" (g9 (inClass (top 22) 0)) (ff (inClass (top 22) 0)) (au (inClass (top 22) 0)) (.ref 201) .none .none (HD.st "dialvault.vault" 411) none (.ref 205) .none
theorem ml:aE (κ w) "__init__" "Vault.__init__" (inClass (top 22) 0) (.ref 201) 206 iI:=.of (by kernel_rfl) (by kernel_rfl) (by kernel_rfl)
def gF:FuncData:=fF "sizes" "Vault.sizes" (inClass (top 22) 1) (HD.st "dialvault.vault" 411) 212
theorem lC:aE (κ w) "sizes" "Vault.sizes" (inClass (top 22) 1) .none 213 gF:=.of (by kernel_rfl) (by kernel_rfl) (by kernel_rfl)
theorem rH:Binds (κ w) gF ["self"] []:=Binds.all (Ap fun _=>rfl)
def fB:FuncData:=fF "levers" "Vault.levers" (inClass (top 22) 2) (HD.st "dialvault.vault" 411) 219
theorem jU:aE (κ w) "levers" "Vault.levers" (inClass (top 22) 2) .none 220 fB:=.of (by kernel_rfl) (by kernel_rfl) (by kernel_rfl)
theorem pD:Binds (κ w) fB ["self"] []:=Binds.all (Ap fun _=>rfl)
def fD:FuncData:=fF "prices" "Vault.prices" (inClass (top 22) 3) (HD.st "dialvault.vault" 411) 226
theorem j0:aE (κ w) "prices" "Vault.prices" (inClass (top 22) 3) .none 227 fD:=.of (by kernel_rfl) (by kernel_rfl) (by kernel_rfl)
theorem pz:Binds (κ w) fD ["self"] []:=Binds.all (Ap fun _=>rfl)
def fK:FuncData:=fF "around" "Vault.around" (inClass (top 22) 4) (HD.st "dialvault.vault" 411) 233
theorem ku:aE (κ w) "around" "Vault.around" (inClass (top 22) 4) .none 234 fK:=.of (by kernel_rfl) (by kernel_rfl) (by kernel_rfl)
theorem pC:Binds (κ w) fK ["self"] []:=Binds.all (Ap fun _=>rfl)
def gj:FuncData:=fF "steps" "Rungs.steps" (inClass (top 42) 1) (HD.st "dialvault.rungs" 555) 368
theorem lE:aE (κ w) "steps" "Rungs.steps" (inClass (top 42) 1) .none 369 gj:=.of (by kernel_rfl) (by kernel_rfl) (by kernel_rfl)
theorem rR:Binds (κ w) gj ["self"] []:=Binds.all (Ap fun _=>rfl)
def mZ:FuncData:=fF "nought" "nought" (top 28) (HD.st "dialvault.vault" 411) 280
theorem vJ:aE (κ w) "nought" "nought" (top 28) .none 281 mZ:=.of (by kernel_rfl) (by kernel_rfl) (by kernel_rfl)
theorem AX:Binds (κ w) mZ ["vault"] []:=Binds.all (Ap fun _=>rfl)
def iy:FuncData:=fF "is_setting" "is_setting" (top 29) (HD.st "dialvault.vault" 411) 285
theorem mz:aE (κ w) "is_setting" "is_setting" (top 29) .none 286 iy:=.of (by kernel_rfl) (by kernel_rfl) (by kernel_rfl)
theorem uj:Binds (κ w) iy ["vault", "thing"] []:=Binds.all (oQ fun _ _=>rfl)
def fI:FuncData:=fF "need_setting" "need_setting" (top 30) (HD.st "dialvault.vault" 411) 292
theorem kh:aE (κ w) "need_setting" "need_setting" (top 30) .none 293 fI:=.of (by kernel_rfl) (by kernel_rfl) (by kernel_rfl)
theorem pk:Binds (κ w) fI ["vault", "thing"] []:=Binds.all (oQ fun _ _=>rfl)
def pS:FuncData:=fF "weigh" "weigh" (top 32) (HD.st "dialvault.papers" 547) 297
theorem yi:aE (κ w) "weigh" "weigh" (top 32) .none 298 pS:=.of (by kernel_rfl) (by kernel_rfl) (by kernel_rfl)
theorem DV:Binds (κ w) pS ["vault", "weights", "setting"] []:=Binds.all (Gg fun _ _ _=>rfl)
def kb:FuncData:=fF "unpulled" "unpulled" (top 36) (HD.st "dialvault.rungs" 555) 316
theorem qG:aE (κ w) "unpulled" "unpulled" (top 36) .none 317 kb:=.of (by kernel_rfl) (by kernel_rfl) (by kernel_rfl)
theorem xv:Binds (κ w) kb ["vault", "setting"] []:=Binds.all (oQ fun _ _=>rfl)
def gE:FuncData:=fF "pulled_once" "pulled_once" (top 37) (HD.st "dialvault.rungs" 555) 323
theorem lA:aE (κ w) "pulled_once" "pulled_once" (top 37) .none 324 gE:=.of (by kernel_rfl) (by kernel_rfl) (by kernel_rfl)
theorem rg:Binds (κ w) gE ["vault", "lever"] []:=Binds.all (oQ fun _ _=>rfl)
def ix:FuncData:=fF "__init__" "Rungs.__init__" (inClass (top 42) 0) (HD.st "dialvault.rungs" 555) 363
theorem ur:aE (κ w) "__init__" "Rungs.__init__" (inClass (top 42) 0) .none 364 ix:=.of (by kernel_rfl) (by kernel_rfl) (by kernel_rfl)
theorem sZ:Binds (κ w) ix ["self", "vault"] []:=Binds.all (oQ fun _ _=>rfl)
def cQ:FuncData:=fF "brought_down" "Rungs.brought_down" (inClass (top 42) 5) (HD.st "dialvault.rungs" 555) 396
theorem fv:aE (κ w) "brought_down" "Rungs.brought_down" (inClass (top 42) 5) .none 397 cQ:=.of (by kernel_rfl) (by kernel_rfl) (by kernel_rfl)
theorem kc:Binds (κ w) cQ ["self", "setting"] []:=Binds.all (oQ fun _ _=>rfl)
def gS:FuncData:=fF "least" "Rungs.least" (inClass (top 42) 6) (HD.st "dialvault.rungs" 555) 403
theorem lD:aE (κ w) "least" "Rungs.least" (inClass (top 42) 6) .none 404 gS:=.of (by kernel_rfl) (by kernel_rfl) (by kernel_rfl)
theorem rS:Binds (κ w) gS ["self", "setting"] []:=Binds.all (oQ fun _ _=>rfl)
def dr:FuncData:=fF "weights_at" "Rungs.weights_at" (inClass (top 42) 8) (HD.st "dialvault.rungs" 555) 415
theorem gm:aE (κ w) "weights_at" "Rungs.weights_at" (inClass (top 42) 8) .none 416 dr:=.of (by kernel_rfl) (by kernel_rfl) (by kernel_rfl)
theorem lK:Binds (κ w) dr ["self", "dial"] []:=Binds.all (oQ fun _ _=>rfl)
def fA:FuncData:=fF "_law_refused" "_law_refused" (top 56) (HD.st "law_dialvault_k25_step_weights" 725) 507
theorem jO:aE (κ w) "_law_refused" "_law_refused" (top 56) .none 508 fA:=.of (by kernel_rfl) (by kernel_rfl) (by kernel_rfl)
theorem qp:Binds (κ w) fA ["_law_rungs", "_law_bad"] []:=Binds.all (oQ fun _ _=>rfl)
def cH:FuncData:=fF "_law_weighs_setting" "_law_weighs_setting" (top 58) (HD.st "law_dialvault_k25_step_weights" 725) 521
theorem eK:aE (κ w) "_law_weighs_setting" "_law_weighs_setting" (top 58) .none 522 cH:=.of (by kernel_rfl) (by kernel_rfl) (by kernel_rfl)
theorem jF:Binds (κ w) cH ["_law_rungs", "_law_sizes_here", "_law_all_weights", "_law_setting_here"] []:=Binds.all (J1 fun _ _ _ _=>rfl)
def xJ:FuncData:=fF "law" "law" (top 59) (HD.st "law_dialvault_k25_step_weights" 725) 526
theorem JB:aE (κ w) "law" "law" (top 59) .none 527 xJ:=.of (by kernel_rfl) (by kernel_rfl) (by kernel_rfl)
theorem uB:gG (κ w) g_:=⟨(by kernel_rfl),(by kernel_rfl),(by kernel_rfl),(by kernel_rfl),(by kernel_rfl),(by kernel_rfl),(by kernel_rfl),(by kernel_rfl),(by kernel_rfl)⟩
theorem xx:gG (κ w) iR:=⟨(by kernel_rfl),(by kernel_rfl),(by kernel_rfl),(by kernel_rfl),(by kernel_rfl),(by kernel_rfl),(by kernel_rfl),(by kernel_rfl),(by kernel_rfl)⟩
theorem nO:gG (κ w) bG:=⟨(by kernel_rfl),(by kernel_rfl),(by kernel_rfl),(by kernel_rfl),(by kernel_rfl),(by kernel_rfl),(by kernel_rfl),(by kernel_rfl),(by kernel_rfl)⟩
def hX:FuncData:=fF "__init__" "NoDial.__init__" (inClass (top 3) 0) (HD.st "dialvault.errors" 194) 54
theorem Oa:(κ w).lookup 55=some ⟨.type "function", none,.func hX,⟨[]⟩⟩:=by kernel_rfl
theorem OS:codeIn (κ w) (.ref 54) "NoDial.__init__" = true:=by kernel_rfl
theorem w5:Binds (κ w) hX ["self", "dial"] []:=Binds.all (oQ fun _ _=>rfl)
theorem wA:ay ["self", "dial"] ["self", "dial"] (au (inClass (top 3) 0)):=.of
theorem MY:((clsIn (κ w) 65).any fun cd=>f7 cd.mro)=true:=by kernel_rfl
theorem Qe:findIn (κ w) (.ref 65) "dial" = some none:=by kernel_rfl
theorem xg {P:Program} {w:World} {mg:Str->Option Value} {base:Heap}:aN P w (κ w) mg base (bT P w) 1 55 hX ["self", "dial"] (Ab (κ w) bG "dial") :=
 qg (n0 := "self") (n1 := "dial") (fl := "dial") (Oa w) (OS w) wA (nO w) (MY w) (Qe w) (by first | exact .inl rfl | exact .inr (.inl rfl)) (by first | exact .inl rfl | exact .inr (.inl rfl)) (by decide) (by decide) (by decide) (by decide) (fun _=>rfl)
theorem p7:gG (κ w) gb:=⟨(by kernel_rfl),(by kernel_rfl),(by kernel_rfl),(by kernel_rfl),(by kernel_rfl),(by kernel_rfl),(by kernel_rfl),(by kernel_rfl),(by kernel_rfl)⟩
def fU:FuncData:=fF "__init__" "NoLever.__init__" (inClass (top 4) 0) (HD.st "dialvault.errors" 194) 80
theorem OY:(κ w).lookup 81=some ⟨.type "function", none,.func fU,⟨[]⟩⟩:=by kernel_rfl
theorem OZ:codeIn (κ w) (.ref 80) "NoLever.__init__" = true:=by kernel_rfl
theorem uR:Binds (κ w) fU ["self", "lever"] []:=Binds.all (oQ fun _ _=>rfl)
theorem vk:ay ["self", "lever"] ["self", "lever"] (au (inClass (top 4) 0)):=.of
theorem OK:((clsIn (κ w) 91).any fun cd=>f7 cd.mro)=true:=by kernel_rfl
theorem Ku:findIn (κ w) (.ref 91) "lever" = some none:=by kernel_rfl
theorem vo {P:Program} {w:World} {mg:Str->Option Value} {base:Heap}:aN P w (κ w) mg base (bT P w) 1 81 fU ["self", "lever"] (Ab (κ w) gb "lever") :=
 qg (n0 := "self") (n1 := "lever") (fl := "lever") (OY w) (OZ w) vk (p7 w) (OK w) (Ku w) (by first | exact .inl rfl | exact .inr (.inl rfl)) (by first | exact .inl rfl | exact .inr (.inl rfl)) (by decide) (by decide) (by decide) (by decide) (fun _=>rfl)
theorem qQ:gG (κ w) eZ:=⟨(by kernel_rfl),(by kernel_rfl),(by kernel_rfl),(by kernel_rfl),(by kernel_rfl),(by kernel_rfl),(by kernel_rfl),(by kernel_rfl),(by kernel_rfl)⟩
def f6:FuncData:=fF "__init__" "NoPrice.__init__" (inClass (top 5) 0) (HD.st "dialvault.errors" 194) 106
theorem Mc:(κ w).lookup 107=some ⟨.type "function", none,.func f6,⟨[]⟩⟩:=by kernel_rfl
theorem MH:codeIn (κ w) (.ref 106) "NoPrice.__init__" = true:=by kernel_rfl
theorem vH:Binds (κ w) f6 ["self", "lever"] []:=Binds.all (oQ fun _ _=>rfl)
theorem wj:ay ["self", "lever"] ["self", "lever"] (au (inClass (top 5) 0)):=.of
theorem P1:((clsIn (κ w) 117).any fun cd=>f7 cd.mro)=true:=by kernel_rfl
theorem PJ:findIn (κ w) (.ref 117) "lever" = some none:=by kernel_rfl
theorem vj {P:Program} {w:World} {mg:Str->Option Value} {base:Heap}:aN P w (κ w) mg base (bT P w) 1 107 f6 ["self", "lever"] (Ab (κ w) eZ "lever") :=
 qg (n0 := "self") (n1 := "lever") (fl := "lever") (Mc w) (MH w) wj (qQ w) (P1 w) (PJ w) (by first | exact .inl rfl | exact .inr (.inl rfl)) (by first | exact .inl rfl | exact .inr (.inl rfl)) (by decide) (by decide) (by decide) (by decide) (fun _=>rfl)
theorem fq:nK (κ w) aA:=⟨(by kernel_rfl),(by kernel_rfl),(by kernel_rfl),(by kernel_rfl)⟩
theorem eH:nK (κ w) aB:=⟨(by kernel_rfl),(by kernel_rfl),(by kernel_rfl),(by kernel_rfl)⟩
theorem JH:findIn (κ w) (.ref 419) "idle_rows" = some none:=by kernel_rfl
theorem IK:findIn (κ w) (.ref 419) "made_rows" = some none:=by kernel_rfl
theorem Ju:findIn (κ w) (.ref 419) "vault" = some none:=by kernel_rfl
theorem J_:findIn (κ w) (.ref 237) "dial_sizes" = some none:=by kernel_rfl
theorem IS:findIn (κ w) (.ref 237) "least_round" = some none:=by kernel_rfl
theorem ID:findIn (κ w) (.ref 237) "lever_prices" = some none:=by kernel_rfl
theorem Jr:findIn (κ w) (.ref 237) "lever_settings" = some none:=by kernel_rfl
theorem NM:nsIn (κ w) mainGlobals "LEAST_PRICE" = some (some (.int 1 421)):=by kernel_rfl
theorem Mr:nsIn (κ w) mainGlobals "LEAST_SIZE" = some (some (.int 2 415)):=by kernel_rfl
theorem PB:nsIn (κ w) mainGlobals "MOST_DIALS" = some (some (.int 6 413)):=by kernel_rfl
theorem O8:nsIn (κ w) mainGlobals "MOST_LEVERS" = some (some (.int 8 419)):=by kernel_rfl
theorem My:nsIn (κ w) mainGlobals "MOST_PRICE" = some (some (.int 1000 423)):=by kernel_rfl
theorem Qw:nsIn (κ w) mainGlobals "MOST_SIZE" = some (some (.int 360 417)):=by kernel_rfl
theorem MC:nsIn (κ w) mainGlobals "NoDial" = some (some (.ref 65)):=by kernel_rfl
theorem O9:Kj (fun C=>PySem.W.exmOne (κ w) (.ref C) (.ref bG)) kW kJ=true:=by kernel_rfl
theorem NW:findIn (κ w) (.ref bG) "dial" = some none:=by kernel_rfl
theorem Pg:(κ w).lookup 201=some (HD.tu [.none]):=by kernel_rfl
theorem sU:Binds (κ w) iI ["self", "sizes", "levers", "prices"] [.none]:=(ml w).binds (Pg w) rfl fun _ _ _ _ _ _ us hl=>by obtain ⟨a,b,c,rfl⟩:=Pn (show _=3 from (by simpa using hl));exact ⟨_,rfl,rfl⟩
theorem txt {w:World} {h:Heap} {mg:Str->Option Value} (X:PySem.W.Frag.In (κ w) h) (G:h.Ns mainGlobals mg):Txt (κ w) mg where
 Jk:=mg_none_of X G (by kernel_rfl)
 qM:=mg_none_of X G (by kernel_rfl)
 bQ:=mg_none_of X G (by kernel_rfl)
 C4:=mg_none_of X G (by kernel_rfl)
 br:=mg_none_of X G (by kernel_rfl)
 J5:=mg_none_of X G (by kernel_rfl)
 AM:=mg_none_of X G (by kernel_rfl)
 FE:=mg_none_of X G (by kernel_rfl)
 eo:=mg_none_of X G (by kernel_rfl)
 IP:=mg_none_of X G (by kernel_rfl)
 pe:=mg_none_of X G (by kernel_rfl)
 jX:=mg_none_of X G (by kernel_rfl)
 qY:=⟨_,mg_of X G (NM w),⟨_,rfl⟩⟩
 tM:=⟨_,mg_of X G (Mr w),⟨_,rfl⟩⟩
 ua:=⟨_,mg_of X G (PB w),⟨_,rfl⟩⟩
 qT:=⟨_,mg_of X G (O8 w),⟨_,rfl⟩⟩
 tV:=⟨_,mg_of X G (My w),⟨_,rfl⟩⟩
 wb:=⟨_,mg_of X G (Qw w),⟨_,rfl⟩⟩
 pd:=fq w
 mh:=eH w
 vE:=⟨(by kernel_rfl),uB w,(by kernel_rfl),(by kernel_rfl),mg_of X G (by kernel_rfl)⟩
 y_:=⟨(by kernel_rfl),xx w,(by kernel_rfl),(by kernel_rfl),mg_of X G (by kernel_rfl)⟩
 qx:=.of (mg_of X G (MC w)) (O9 w)
 xR:=(Rf ⟨nO w,(NW w)⟩ LN)
 h_:=(JH w)
 gX:=(IK w)
 lz:=(Ju w)
 gQ:=(J_ w)
 fM:=(IS w)
 fk:=(ID w)
 dQ:=(Jr w)
 ui:=fun C h=>by obtain rfl:=eq_of_beq h;exact ⟨eH w,(J_ w)⟩
 ve:=fun C h=>by obtain rfl:=eq_of_beq h;exact ⟨fq w,(JH w)⟩
 rj:=fun C h=>by obtain rfl:=eq_of_beq h;exact ⟨eH w,(IS w)⟩
 qF:=fun C h=>by obtain rfl:=eq_of_beq h;exact ⟨eH w,(ID w)⟩
 mY:=fun C h=>by obtain rfl:=eq_of_beq h;exact ⟨eH w,(Jr w)⟩
 vT:=fun C h=>by obtain rfl:=eq_of_beq h;exact ⟨fq w,(IK w)⟩
 DZ:=fun C h=>by obtain rfl:=eq_of_beq h;exact ⟨fq w,(Ju w)⟩
theorem FI {P:Program} {w:World} {h:Heap} {mg:Str->Option Value} (X:PySem.W.Frag.In (κ w) h) (G:h.Ns mainGlobals mg) (base:Heap):aN P w (κ w) mg base (bT P w) 8 527 xJ ["_law_script"] (eJ 1 sJ):=by
 have T:=txt X G
 have x_NoDial:qU P w (κ w) mg base bG "NoDial" "dial" := ⟨⟨55,hX,["self", "dial"],(by kernel_rfl),(by kernel_rfl),xg,w5 w⟩,nO w,(by kernel_rfl),(by kernel_rfl),mg_of X G (by kernel_rfl)⟩
 have x_NoLever:qU P w (κ w) mg base gb "NoLever" "lever" := ⟨⟨81,fU,["self", "lever"],(by kernel_rfl),(by kernel_rfl),vo,uR w⟩,p7 w,(by kernel_rfl),(by kernel_rfl),mg_of X G (by kernel_rfl)⟩
 have x_NoPrice:qU P w (κ w) mg base eZ "NoPrice" "lever" := ⟨⟨107,f6,["self", "lever"],(by kernel_rfl),(by kernel_rfl),vj,vH w⟩,qQ w,(by kernel_rfl),(by kernel_rfl),mg_of X G (by kernel_rfl)⟩
 have o_is_whole:bI P w (κ w) mg base 1 "is_whole" 1 (aw 1 gI):=⟨⟨164,kr,["thing"],mg_of X G (by kernel_rfl),(pJ w).kp,rfl,xC w,vZ (pJ w) T ⟩⟩
 have o_is_row:bI P w (κ w) mg base 2 "is_row" 2 (aw 2 iY):=⟨⟨169,mR,["thing", "length"],mg_of X G (by kernel_rfl),(vP w).kp,rfl,Bv w,z9 (vP w) T o_is_whole⟩⟩
 have o_common:bI P w (κ w) mg base 1 "common" 2 (aw 6 iX):=⟨⟨176,nJ,["one", "other"],mg_of X G (by kernel_rfl),(vU w).kp,rfl,A8 w,zZ (vU w) T ⟩⟩
 have o_multiple_of:bI P w (κ w) mg base 2 "multiple_of" 1 (aw 3 dy):=⟨⟨183,gN,["numbers"],mg_of X G (by kernel_rfl),(lG w).kp,rfl,rO w,pq (lG w) T o_common⟩⟩
 have o_unit_row:bI P w (κ w) mg base 1 "unit_row" 2 (aw 2 gK):=⟨⟨188,j9,["length", "place"],mg_of X G (by kernel_rfl),(qo w).kp,rfl,xp w,u9 (qo w) T ⟩⟩
 have o_rest_sum:bI P w (κ w) mg base 1 "rest_sum" 3 (aw 3 gC):=⟨⟨193,jN,["numbers", "others", "by"],mg_of X G (by kernel_rfl),(pM w).kp,rfl,xm w,vt (pM w) T ⟩⟩
 have o_is_within:bI P w (κ w) mg base 2 "is_within" 3 (aw 3 cF):=⟨⟨248,jm,["thing", "least", "most"],mg_of X G (by kernel_rfl),(nY w).kp,rfl,vV w,t8 (nY w) T o_is_whole⟩⟩
 have o_need_sizes:bI P w (κ w) mg base 3 "need_sizes" 1 (aw 3 dP):=⟨⟨255,iA,["sizes"],mg_of X G (by kernel_rfl),(mj w).kp,rfl,uu w,rP (mj w) T x_NoDial o_is_within⟩⟩
 have o_need_levers:bI P w (κ w) mg base 3 "need_levers" 2 (aw 4 dA):=⟨⟨262,gu,["levers", "dials"],mg_of X G (by kernel_rfl),(lq w).kp,rfl,rf w,qw (lq w) T o_is_row x_NoLever⟩⟩
 have o_prices_for:bI P w (κ w) mg base 3 "prices_for" 2 (aw 3 dW):=⟨⟨269,iD,["levers", "prices"],mg_of X G (by kernel_rfl),(mO w).kp,rfl,tf w,rL (mO w) T x_NoPrice o_is_within⟩⟩
 have o_rests:bI P w (κ w) mg base 1 "rests" 2 (aw 2 kN):=⟨⟨274,qc,["numbers", "sizes"],mg_of X G (by kernel_rfl),(xQ w).kp,rfl,EI w,B6 (xQ w) T ⟩⟩
 have o_mixed:bI P w (κ w) mg base 1 "mixed" 4 (aw 4 kH):=⟨⟨303,qq,["row", "times", "other", "others"],mg_of X G (by kernel_rfl),(yC w).kp,rfl,DM w,A3 (yC w) T ⟩⟩
 have o_mixed_made:bI P w (κ w) mg base 2 "mixed_made" 5 (aw 6 da):=⟨⟨310,iJ,["sizes", "made", "times", "other", "others"],mg_of X G (by kernel_rfl),(mI w).kp,rfl,ux w,rh (mI w) T o_mixed o_rests⟩⟩
 have o_step_size:bI P w (κ w) mg base 1 "step_size" 3 (aw 4 cX):=⟨⟨331,i6,["sizes", "made_rows", "dial"],mg_of X G (by kernel_rfl),(og w).kp,rfl,vh w,uG (og w) T ⟩⟩
 have o_taken_in:bI P w (κ w) mg base 3 "taken_in" 3 (aw 9 gO):=⟨⟨338,jW,["sizes", "made_rows", "left"],mg_of X G (by kernel_rfl),(pO w).kp,rfl,xD w,uN (pO w) T o_step_size o_common o_mixed_made⟩⟩
 have o_lowered:bI P w (κ w) mg base 3 "lowered" 4 (aw 6 gc):=⟨⟨345,lY,["sizes", "made_rows", "made", "first"],mg_of X G (by kernel_rfl),(sC w).kp,rfl,zT w,xM (sC w) T o_step_size o_mixed_made⟩⟩
 have o_in_spans:bI P w (κ w) mg base 2 "in_spans" 2 (aw 4 gv):=⟨⟨352,jS,["pulls", "idle_rows"],mg_of X G (by kernel_rfl),(qv w).kp,rfl,w_ w,vD (qv w) T o_mixed⟩⟩
 have o__law_cell:bI P w (κ w) mg base 1 "_law_cell" 2 (aw 2 dJ):=⟨⟨430,i8,["_law_script", "_law_k"],mg_of X G (by kernel_rfl),(nU w).kp,rfl,wg w,uF (nU w) T ⟩⟩
 have o__law_stream:bI P w (κ w) mg base 1 "_law_stream" 2 (aw 5 bX):=⟨⟨437,gH,["_law_cell_here", "_law_many"],mg_of X G (by kernel_rfl),(lF w).kp,rfl,rV w,qD (lF w) T ⟩⟩
 have o__law_digits:bI P w (κ w) mg base 1 "_law_digits" 2 (aw 5 bW):=⟨⟨444,gy,["_law_cell_here", "_law_bases"],mg_of X G (by kernel_rfl),(lB w).kp,rfl,rQ w,qC (lB w) T ⟩⟩
 have o__law_sizes:bI P w (κ w) mg base 2 "_law_sizes" 1 (aw 4 eF):=⟨⟨449,iG,["_law_cell_here"],mg_of X G (by kernel_rfl),(mq w).kp,rfl,uJ w,rT (mq w) T o__law_digits o__law_stream⟩⟩
 have o__law_great:bI P w (κ w) mg base 1 "_law_great" 1 (aw 1 eE):=⟨⟨456,ik,["_law_number"],mg_of X G (by kernel_rfl),(mM w).kp,rfl,tK w,rC (mM w) T ⟩⟩
 have o__law_lever:bI P w (κ w) mg base 2 "_law_lever" 2 (aw 6 d_):=⟨⟨463,iq,["_law_cell_here", "_law_sizes_here"],mg_of X G (by kernel_rfl),(mL w).kp,rfl,ub w,rE (mL w) T o__law_stream o__law_great⟩⟩
 have o__law_levers:bI P w (κ w) mg base 3 "_law_levers" 2 (aw 5 dC):=⟨⟨470,gM,["_law_script", "_law_sizes_here"],mg_of X G (by kernel_rfl),(ly w).kp,rfl,qV w,pE (ly w) T o__law_cell o__law_digits o__law_lever⟩⟩
 have o__law_round:bI P w (κ w) mg base 1 "_law_round" 1 (aw 5 dU):=⟨⟨477,iB,["_law_sizes_here"],mg_of X G (by kernel_rfl),(mD w).kp,rfl,uD w,rN (mD w) T ⟩⟩
 have o__law_added:bI P w (κ w) mg base 1 "_law_added" 4 (aw 4 eI):=⟨⟨482,ir,["_law_sizes_here", "_law_one", "_law_other", "_law_times"],mg_of X G (by kernel_rfl),(mi w).kp,rfl,t4 w,qX (mi w) T ⟩⟩
 have o__law_weighed:bI P w (κ w) mg base 2 "_law_weighed" 3 (aw 8 cq):=⟨⟨489,fH,["_law_sizes_here", "_law_weights", "_law_setting_here"],mg_of X G (by kernel_rfl),(j7 w).kp,rfl,qL w,ou (j7 w) T o__law_round⟩⟩
 have o__law_setting:bI P w (κ w) mg base 2 "_law_setting" 2 (aw 2 c8):=⟨⟨494,fE,["_law_cell_here", "_law_sizes_here"],mg_of X G (by kernel_rfl),(j4 w).kp,rfl,pZ w,oH (j4 w) T o__law_digits o__law_stream⟩⟩
 have o__law_form_good:bI P w (κ w) mg base 1 "_law_form_good" 4 (aw 6 cz):=⟨⟨501,dR,["_law_sizes_here", "_law_steps", "_law_weights", "_law_dial"],mg_of X G (by kernel_rfl),(iN w).kp,rfl,m9 w,mB (iN w) T ⟩⟩
 have o__law_all_still:bI P w (κ w) mg base 3 "_law_all_still" 3 (aw 4 cu):=⟨⟨515,dX,["_law_sizes_here", "_law_levers_here", "_law_weights"],mg_of X G (by kernel_rfl),(iV w).kp,rfl,nz w,mv (iV w) T o__law_weighed⟩⟩
 have o_Vault_init:Ij P w (κ w) mg base aB 4 "Vault" 4 [.cS] hV:=⟨⟨206,iI,["self", "sizes", "levers", "prices"],[.none],[.cS],mg_of X G (by kernel_rfl),⟨(by kernel_rfl),(by kernel_rfl),(by kernel_rfl),(by kernel_rfl)⟩,sU w,(.cons rfl .nil),fun _=>(.cons .cS .nil),rF (ml w) T o_need_sizes o_need_levers o_rests o_prices_for o_multiple_of⟩⟩
 have o_Vault_sizes:k4 P w (κ w) mg base aB 1 "sizes" 1 (aw 1 aV):=⟨⟨213,gF,["self"],eH w,⟨(by kernel_rfl),(by kernel_rfl),(lC w).kp⟩,rH w,p6 (lC w) T ⟩⟩
 have o_Vault_levers:k4 P w (κ w) mg base aB 1 "levers" 1 (aw 1 bN):=⟨⟨220,fB,["self"],eH w,⟨(by kernel_rfl),(by kernel_rfl),(jU w).kp⟩,pD w,oO (jU w) T ⟩⟩
 have o_Vault_prices:k4 P w (κ w) mg base aB 1 "prices" 1 (aw 1 gD):=⟨⟨227,fD,["self"],eH w,⟨(by kernel_rfl),(by kernel_rfl),(j0 w).kp⟩,pz w,oP (j0 w) T ⟩⟩
 have o_Vault_around:k4 P w (κ w) mg base aB 1 "around" 1 (aw 1 cv):=⟨⟨234,fK,["self"],eH w,⟨(by kernel_rfl),(by kernel_rfl),(ku w).kp⟩,pC w,oz (ku w) T ⟩⟩
 have o_Rungs_steps:k4 P w (κ w) mg base aA 2 "steps" 1 (aw 2 cO):=⟨⟨369,gj,["self"],fq w,⟨(by kernel_rfl),(by kernel_rfl),(lE w).kp⟩,rR w,qb (lE w) T o_Vault_sizes o_step_size⟩⟩
 have o_nought:bI P w (κ w) mg base 2 "nought" 1 (aw 1 ki):=⟨⟨281,mZ,["vault"],mg_of X G (by kernel_rfl),(vJ w).kp,rfl,AX w,yW (vJ w) T o_Vault_sizes⟩⟩
 have o_is_setting:bI P w (κ w) mg base 3 "is_setting" 2 (aw 3 dZ):=⟨⟨286,iy,["vault", "thing"],mg_of X G (by kernel_rfl),(mz w).kp,rfl,uj w,rX (mz w) T o_Vault_sizes o_is_row⟩⟩
 have o_need_setting:bI P w (κ w) mg base 4 "need_setting" 2 (aw 2 cy):=⟨⟨293,fI,["vault", "thing"],mg_of X G (by kernel_rfl),(kh w).kp,rfl,pk w,oF (kh w) T o_is_setting⟩⟩
 have o_weigh:bI P w (κ w) mg base 5 "weigh" 3 (aw 5 mx):=⟨⟨298,pS,["vault", "weights", "setting"],mg_of X G (by kernel_rfl),(yi w).kp,rfl,DV w,Cc (yi w) T o_need_setting o_Vault_around o_Vault_sizes o_rest_sum⟩⟩
 have o_unpulled:bI P w (κ w) mg base 2 "unpulled" 2 (aw 2 eV):=⟨⟨317,kb,["vault", "setting"],mg_of X G (by kernel_rfl),(qG w).kp,rfl,xv w,vg (qG w) T o_Vault_levers⟩⟩
 have o_pulled_once:bI P w (κ w) mg base 2 "pulled_once" 2 (aw 3 dB):=⟨⟨324,gE,["vault", "lever"],mg_of X G (by kernel_rfl),(lA w).kp,rfl,rg w,pW (lA w) T o_Vault_levers o_unit_row⟩⟩
 have o_Rungs_init:Ij P w (κ w) mg base aA 4 "Rungs" 2 [] ib:=⟨⟨364,ix,["self", "vault"],[],[],mg_of X G (by kernel_rfl),⟨(by kernel_rfl),(by kernel_rfl),(by kernel_rfl),(by kernel_rfl)⟩,sZ w,.nil,fun _=>.nil,rA (ur w) T o_Vault_sizes o_nought o_unpulled o_Vault_levers o_pulled_once o_taken_in o_in_spans o_lowered⟩⟩
 have o_Rungs_brought_down:k4 P w (κ w) mg base aA 5 "brought_down" 2 (aw 2 bw):=⟨⟨397,cQ,["self", "setting"],fq w,⟨(by kernel_rfl),(by kernel_rfl),(fv w).kp⟩,kc w,jG (fv w) T o_need_setting o_unpulled o_Vault_sizes o_lowered⟩⟩
 have o_Rungs_least:k4 P w (κ w) mg base aA 6 "least" 2 (aw 2 cN):=⟨⟨404,gS,["self", "setting"],fq w,⟨(by kernel_rfl),(by kernel_rfl),(lD w).kp⟩,rS w,qJ (lD w) T o_Rungs_brought_down⟩⟩
 have o_Rungs_weights_at:k4 P w (κ w) mg base aA 6 "weights_at" 2 (aw 8 aX):=⟨⟨416,dr,["self", "dial"],fq w,⟨(by kernel_rfl),(by kernel_rfl),(gm w).kp⟩,lK w,la (gm w) T o_Vault_sizes o_is_within x_NoDial o_Rungs_steps o_weigh o_Vault_around⟩⟩
 have o__law_refused:bI P w (κ w) mg base 7 "_law_refused" 2 (aw 4 c9):=⟨⟨508,fA,["_law_rungs", "_law_bad"],mg_of X G (by kernel_rfl),(jO w).kp,rfl,qp w,oC (jO w) T o_Rungs_weights_at⟩⟩
 have o__law_weighs_setting:bI P w (κ w) mg base 7 "_law_weighs_setting" 4 (aw 8 bg):=⟨⟨522,cH,["_law_rungs", "_law_sizes_here", "_law_all_weights", "_law_setting_here"],mg_of X G (by kernel_rfl),(eK w).kp,rfl,jF w,jd (eK w) T o_Rungs_least o__law_weighed⟩⟩
 exact Hi (JB w) T o__law_cell o__law_sizes o__law_levers o_Vault_init o_Rungs_init o_Rungs_steps o_Rungs_weights_at o__law_form_good o__law_all_still o__law_setting o_Rungs_least o__law_added o__law_weighs_setting o__law_refused
theorem K9:yL (κ w)=true:=by kernel_rfl
theorem Mb:nsIn (κ w) mainGlobals "law" = some (some (.ref 527)):=by kernel_rfl
end wx
open PySem PySem.W
theorem wx.hold (said:PySem.Challenge.rw_dialvault_k25_step_weights.wellSaid=true) (hsem:∀ ns:List Int,ns.length<=63->(∀ i∈ns,Builtin.Int.intBits i<=1048576)->wx.sJ [.jI (ns.map L2.PV.int)]=L2.M.ok (.bl true)):PySem.Challenge.rw_dialvault_k25_step_weights.Holds:=by
 refine holds_law said fun said=>?_
 refine holds_open (q:=HD.vw) (loose:=HD.loose) (Xt:=HD.Xt) (XP:=XL HD.vw []) (Yf:=Hook.obs HD.hook) (Ya:=Hook.val HD.hook) (YP:=Hook.says HD.hook) HD.JL (Hook.of HD.hook) (Hook.keeps HD.hook) (fun s e=>xl_of s (Bool.and_eq_true_iff.mp e).1) XL.keeps (by rfl) (by rfl) (by rfl) (fun s e=>recFacts_of (Bool.and_eq_true_iff.mp e).2) (by rfl) said (by decide +kernel) ⟨rfl,rfl,rfl,rfl,rfl,by decide +kernel⟩ ?hw ?hc
 case hw=>w_witness2
 refine L2.wO (l:=PySem.Challenge.rw_dialvault_k25_step_weights) (n:=63) (k:=8) (x := "_law_script") (K:=HD.K) (sem:=wx.sJ) rfl (by decide) rfl ⟨rfl,by decide,by decide⟩ (fun w h Y=>PySem.W.kIn_of Y) (fun w=>wx.K9 w) (fun w mg fa h X G hmg=>?_) hsem
 have e:=hmg.symm.trans (PySem.W.mg_of X G (wx.Mb w))
 cases e
 exact ⟨wx.xJ,fun s v=>.of_eq rfl,fun base X' G'=>wx.FI X' G' base⟩
namespace Eu
theorem rY (a b:Int) (hb:b≠0):(a-a.fdiv b*b).natAbs<b.natAbs/\0<=(a-a.fdiv b*b)*b/\(0<=a*b->a.natAbs=(a.fdiv b).natAbs*b.natAbs+(a-a.fdiv b*b).natAbs):=by
 have pos:∀ (a b:Int),0<b->(a-a/b*b).natAbs<b.natAbs/\0<=(a-a/b*b)*b/\(0<=a*b->a.natAbs=(a/b).natAbs*b.natAbs+(a-a/b*b).natAbs):=by
  intro a b hb
  have e:a-a/b*b=a%b:=by
   have h:=Int.mul_ediv_add_emod a b
   rw [Int.mul_comm] at h
   omega
  have h0:=Int.emod_nonneg a (by omega:b≠0)
  have h1:=Int.emod_lt_of_pos a hb
  rw [e]
  refine ⟨by omega,Int.mul_nonneg h0 (by omega),fun hab=>?_⟩
  have ha:0<=a:=by
   rcases Int.lt_or_le a 0 with h | h
   ·have:=Int.mul_neg_of_neg_of_pos h hb
    omega
   ·exact h
  have hq:0<=a/b:=Int.ediv_nonneg ha (by omega)
  have h2:=Int.mul_ediv_add_emod a b
  have h3:((a/b).natAbs*b.natAbs:Nat)=(b*(a/b)).natAbs:=by
   rw [Int.natAbs_mul,Nat.mul_comm]
  rw [h3]
  have h4:0<=b*(a/b):=Int.mul_nonneg (by omega) hq
  omega
 rcases Int.lt_or_le 0 b with h | h
 ·rw [Int.fdiv_eq_ediv_of_nonneg a (by omega)]
  exact pos a b h
 ·have h':0 < -b:=by omega
  have e:a.fdiv b=(-a)/(-b):=by
   rw [← Int.fdiv_eq_ediv_of_nonneg (-a) (by omega:0<=-b),Int.neg_fdiv_neg]
  obtain ⟨p1,p2,p3⟩:=pos (-a) (-b) h'
  have e2:-a-(-a)/(-b)*(-b)=-(a-a.fdiv b*b):=by
   rw [← e,Int.mul_neg]
   omega
  rw [e2] at p1 p2 p3
  rw [← e] at p3
  simp only [Int.natAbs_neg,Int.neg_mul_neg] at p1 p2 p3
  exact ⟨p1,p2,p3⟩
structure St (a b:Int) (r s t r' s' t':Int):Prop where
 c0:r=s*a+t*b
 c1:r'=s'*a+t'*b
 dv:∀ d:Int,d∣r->d∣r'->d∣a/\d∣b
 bd:s'.natAbs*r.natAbs+s.natAbs*r'.natAbs<=b.natAbs
 sg:s'=0\/0<=r*r'
 b0:s.natAbs<=b.natAbs+1
 b1:s'.natAbs<=b.natAbs+1
 d0:t.natAbs<=a.natAbs+(b.natAbs+1)*a.natAbs+b.natAbs+1
 d1:t'.natAbs<=a.natAbs+(b.natAbs+1)*a.natAbs+b.natAbs+1
 m0:r.natAbs<=a.natAbs+b.natAbs
 m1:r'.natAbs<=b.natAbs
theorem start (a b:Int):St a b a 1 0 b 0 1 where
 c0:=by omega
 c1:=by omega
 dv:=fun d h1 h2=>⟨h1,h2⟩
 bd:=by simp
 sg:=.inl rfl
 b0:=by omega
 b1:=by omega
 d0:=by simp
 d1:=by omega
 m0:=by omega
 m1:=by omega
theorem turn {a b r s t r' s' t':Int} (h:St a b r s t r' s' t') (h0:r'≠0) :
  St a b r' s' t' (r-r.fdiv r'*r') (s-r.fdiv r'*s') (t-r.fdiv r'*t')/\(r-r.fdiv r'*r').natAbs<r'.natAbs:=by
 obtain ⟨f1,f2,f3⟩:=rY r r' h0
 generalize hq:r.fdiv r'=q at *
 have hb:b≠0:=by
  intro z
  have:=h.m1
  omega
 have hr':1<=r'.natAbs:=by omega
 have c1':r-q*r'=(s-q*s')*a+(t-q*t')*b:=by
  rw [h.c0,h.c1,Int.sub_mul,Int.sub_mul,Int.mul_add,Int.mul_assoc,Int.mul_assoc]
  omega
 have bd':(s-q*s').natAbs*r'.natAbs+s'.natAbs*(r-q*r').natAbs<=b.natAbs:=by
  have wz:(s-q*s').natAbs<=s.natAbs+q.natAbs*s'.natAbs:=by
   rw [← Int.natAbs_mul]
   omega
  have hbd:=h.bd
  rcases h.sg with z | z
  ·subst z
   simp only [Int.mul_zero,Int.sub_zero,Int.natAbs_zero,Nat.zero_mul,Nat.zero_add,Nat.add_zero] at hbd ⊢
   exact hbd
  ·have e:=f3 z
   have k1:(s-q*s').natAbs*r'.natAbs<=(s.natAbs+q.natAbs*s'.natAbs)*r'.natAbs:=Nat.mul_le_mul_right _ wz
   have k2:(s.natAbs+q.natAbs*s'.natAbs)*r'.natAbs+s'.natAbs*(r-q*r').natAbs=s'.natAbs*r.natAbs+s.natAbs*r'.natAbs:=by
    rw [e,Nat.add_mul,Nat.mul_add,Nat.mul_comm q.natAbs s'.natAbs,Nat.mul_assoc]
    omega
   omega
 have b1':(s-q*s').natAbs<=b.natAbs:=by
  have:(s-q*s').natAbs*1<=(s-q*s').natAbs*r'.natAbs:=Nat.mul_le_mul_left _ hr'
  omega
 have mm:(r-q*r').natAbs<=b.natAbs:=by
  have:=h.m1
  omega
 have d1':(t-q*t').natAbs<=a.natAbs+(b.natAbs+1)*a.natAbs+b.natAbs+1:=by
  have e:(t-q*t')*b=(r-q*r')-(s-q*s')*a:=by omega
  have e1:((t-q*t')*b).natAbs<=(r-q*r').natAbs+((s-q*s')*a).natAbs:=by omega
  rw [Int.natAbs_mul,Int.natAbs_mul] at e1
  have k1:(t-q*t').natAbs*1<=(t-q*t').natAbs*b.natAbs:=Nat.mul_le_mul_left _ (by omega)
  have k2:(s-q*s').natAbs*a.natAbs<=(b.natAbs+1)*a.natAbs:=Nat.mul_le_mul_right _ (by omega)
  omega
 refine ⟨⟨h.c1,c1',fun d e1 e2=>?_,bd',?_,h.b1,by omega,h.d1,d1',?_,mm⟩,f1⟩
 ·refine h.dv d ?_ e1
  have e3:d∣q*r':=Int.dvd_trans e1 (Int.dvd_mul_left _ _)
  have e4:=Int.dvd_add e2 e3
  rwa [Int.sub_add_cancel] at e4
 ·exact .inr (by rw [Int.mul_comm];exact f2)
 ·have:=h.m1
  omega
theorem done {a b r s t s' t':Int} (h:St a b r s t 0 s' t'):r∣a/\r∣b:=h.dv r (Int.dvd_refl r) (Int.dvd_zero r)
end Eu
namespace Lc
def A5 (ns:List Nat):Nat:=ns.foldl Nat.lcm 1
theorem yj:∀ (ns:List Nat) (m:Nat),m∣ns.foldl Nat.lcm m/\(∀ n∈ns,n∣ns.foldl Nat.lcm m)/\(∀ k,m∣k->(∀ n∈ns,n∣k)->ns.foldl Nat.lcm m∣k)
 | [],m=>⟨Nat.dvd_refl m,(fun _ h=>nomatch h),fun k h _=>h⟩
 | n::ns,m=>by
  obtain ⟨h1,h2,h3⟩:=yj ns (Nat.lcm m n)
  refine ⟨Nat.dvd_trans (Nat.dvd_lcm_left m n) h1,fun x hx=>?_,fun k hm hk=>?_⟩
  ·rcases List.mem_cons.mp hx with e | hx
   ·rw [e];exact Nat.dvd_trans (Nat.dvd_lcm_right m n) h1
   ·exact h2 x hx
  ·exact h3 k (Nat.lcm_dvd hm (hk n List.mem_cons_self)) fun x hx=>hk x (List.mem_cons_of_mem _ hx)
theorem lcm_dvd {ns:List Nat} {n:Nat} (h:n∈ns):n∣A5 ns:=(yj ns 1).2.1 n h
theorem oq:∀ (ns:List Nat) (m:Nat),0<m->(∀ n∈ns,0<n)->0<ns.foldl Nat.lcm m
 | [],m,h,_=>h
 | n::ns,m,h,hp=>oq ns (Nat.lcm m n) (Nat.lcm_pos h (hp n List.mem_cons_self)) fun x hx=>hp x (List.mem_cons_of_mem _ hx)
theorem lcm_pos {ns:List Nat} (h:∀ n∈ns,0<n):0<A5 ns:=oq ns 1 (by decide) h
theorem qH (B:Nat):∀ (ns:List Nat) (m k:Nat),0<m->m<=2^k->(∀ n∈ns,0<n/\n<=2^B)->ns.foldl Nat.lcm m<=2^(k+B*ns.length)
 | [],m,k,_,h,_=>by simpa using h
 | n::ns,m,k,h0,h,hp=>by
  have hn:=hp n List.mem_cons_self
  have h1:Nat.lcm m n<=2^(k+B):=by
   have:Nat.lcm m n<=m*n:=Nat.le_of_dvd (Nat.mul_pos h0 hn.1) (Nat.lcm_dvd (Nat.dvd_mul_right m n) (Nat.dvd_mul_left n m))
   rw [Nat.pow_add]
   exact Nat.le_trans this (Nat.mul_le_mul h hn.2)
  have h2:=qH B ns (Nat.lcm m n) (k+B) (Nat.lcm_pos h0 hn.1) h1 fun x hx=>hp x (List.mem_cons_of_mem _ hx)
  have e:k+B*(n::ns).length=k+B+B*ns.length:=by
   rw [List.length_cons,Nat.mul_succ];omega
  rw [e]
  exact h2
theorem Co (m n:Nat):m/Nat.gcd m n*n=Nat.lcm m n:=by
 unfold Nat.lcm
 rw [Nat.div_mul_right_comm (Nat.gcd_dvd_left m n)]
end Lc
namespace Rg
abbrev cj:=Nat->Int
def aQ (s:cj) (D:Nat->cj) (d:Nat):Int:=if D d d=0 then s d else D d d
def G (n:Nat) (s:cj) (D:Nat->cj):Nat->Nat->cj->Prop
 | 0,_,v=>∀ i,i<n->s i∣v i
 | k+1,d,v=>aQ s D d∣v d/\G n s D k (d+1) fun i=>v i-v d/aQ s D d*D d i
def U (i:Nat) (c:Int):cj:=fun j=>if j=i then c else 0
section
variable {n:Nat} {s:cj} {D:Nat->cj}
theorem G.ext:∀ {k d:Nat} {v w:cj},d+k=n->(∀ i,i<n->v i=w i)->G n s D k d v->G n s D k d w
 | 0,d,v,w,_,e,h=>fun i hi=>by rw [← e i hi];exact h i hi
 | k+1,d,v,w,hn,e,h=>by
  have ed:=e d (by omega)
  refine ⟨by rw [← ed];exact h.1,G.ext (by omega) (fun i hi=>?_) h.2⟩
  rw [e i hi,ed]
theorem G.add:∀ {k d:Nat} {v w:cj},d+k=n->G n s D k d v->G n s D k d w->G n s D k d fun i=>v i+w i
 | 0,d,v,w,_,h,h'=>fun i hi=>Int.dvd_add (h i hi) (h' i hi)
 | k+1,d,v,w,hn,h,h'=>by
  refine ⟨Int.dvd_add h.1 h'.1,G.ext (by omega) (fun i hi=>?_) (G.add (by omega) h.2 h'.2)⟩
  show _=v i+w i-(v d+w d)/aQ s D d*D d i
  rw [Int.add_ediv_of_dvd_left h.1,Int.add_mul]
  omega
theorem G.mul (c:Int):∀ {k d:Nat} {v:cj},d+k=n->G n s D k d v->G n s D k d fun i=>c*v i
 | 0,d,v,_,h=>fun i hi=>Int.dvd_trans (h i hi) (Int.dvd_mul_left _ _)
 | k+1,d,v,hn,h=>by
  refine ⟨Int.dvd_trans h.1 (Int.dvd_mul_left _ _),G.ext (by omega) (fun i hi=>?_) (G.mul c (by omega) h.2)⟩
  show _=c*v i-c*v d/aQ s D d*D d i
  rw [Int.mul_ediv_assoc c h.1,Int.mul_sub,Int.mul_assoc]
theorem G.zero:∀ {k d:Nat},d+k=n->G n s D k d fun _=>0
 | 0,d,_=>fun i _=>Int.dvd_zero _
 | k+1,d,hn=>⟨Int.dvd_zero _,G.ext (by omega) (fun i hi=>by simp) (G.zero (k:=k) (d:=d+1) (by omega))⟩
theorem G.skip {v:cj}:∀ {j k d:Nat},d+(j+k)=n->(∀ i,d<=i->i<d+j->v i=0)->G n s D k (d+j) v->G n s D (j+k) d v
 | 0,k,d,_,_,h=>by rw [Nat.zero_add];exact h
 | j+1,k,d,hn,hz,h=>by
  rw [show j+1+k=(j+k)+1 by omega]
  have z:=hz d (Nat.le_refl _) (by omega)
  refine ⟨by rw [z];exact Int.dvd_zero _,G.ext (v:=v) (by omega) (fun i hi=>by rw [z];simp) (G.skip (by omega) (fun i h1 h2=>hz i (by omega) (by omega)) (by rw [show d+1+j=d+(j+1) by omega];exact h))⟩
end
structure Good (n:Nat) (s:cj) (D:Nat->cj):Prop where
 sp:∀ i,i<n->0<s i
 kz:∀ d,d<n->∀ i,i<n->0<=D d i/\D d i<s i
 wz:∀ d,d<n->∀ i,i<d->D d i=0
 dv:∀ d,d<n->aQ s D d∣s d
 JJ:∀ d k,d+(k+1)=n->G n s D k (d+1) fun i=>s d/aQ s D d*D d i
section
variable {n:Nat} {s:cj} {D:Nat->cj}
theorem Good.pos (g:Good n s D) {d:Nat} (h:d<n):0<aQ s D d/\aQ s D d<=s d:=by
 have h1:=g.kz d h d h
 have h2:=g.sp d h
 unfold aQ
 split <;> omega
theorem Good.diag (g:Good n s D) {d:Nat} (h:d<n):s d∣D d d-aQ s D d:=by
 unfold aQ
 split
 ·rename_i z;rw [z];exact ⟨-1,by omega⟩
 ·rw [Int.sub_self];exact Int.dvd_zero _
theorem Good.turn (g:Good n s D):∀ {k d i:Nat} (c:Int),d+k=n->i<n->G n s D k d (U i (c*s i))
 | 0,d,i,c,_,hi=>fun j hj=>by
  unfold U
  split
  ·rename_i z;rw [z];exact Int.dvd_mul_left _ _
  ·exact Int.dvd_zero _
 | k+1,d,i,c,hn,hi=>by
  have hd:d<n:=by omega
  by_cases z:i=d
  ·subst z
   have dv:=g.dv i hi
   refine ⟨by show _∣U i _ i;rw [U,if_pos rfl];exact Int.dvd_trans dv (Int.dvd_mul_left _ _),?_⟩
   refine G.ext (by omega) (fun j hj=>?_) (G.add (by omega) (g.turn (k:=k) (d:=i+1) (i:=i) c (by omega) hi) (G.mul (-c) (by omega) (g.JJ i k hn)))
   show U i (c*s i) j+-c*(s i/aQ s D i*D i j)=U i (c*s i) j-U i (c*s i) i/aQ s D i*D i j
   rw [show U i (c*s i) i=c*s i by rw [U,if_pos rfl],Int.mul_ediv_assoc c dv,Int.neg_mul,Int.mul_assoc]
   omega
  ·have u0:U i (c*s i) d=0:=by rw [U,if_neg (Ne.symm z)]
   refine ⟨by rw [u0];exact Int.dvd_zero _,G.ext (by omega) (fun j hj=>?_) (g.turn (k:=k) (d:=d+1) (i:=i) c (by omega) hi)⟩
   rw [u0];simp
theorem G.wt {k d:Nat} {v w:cj} (ht:∀ i c,i<n->G n s D k d (U i (c*s i))) (hn:d+k=n) (h:∀ i,i<n->s i∣w i-v i) (hv:G n s D k d v):G n s D k d w:=by
 have key:∀ m,m<=n->G n s D k d fun i=>if i<m then w i else v i:=by
  intro m
  induction m with
  | zero=>intro _;exact G.ext hn (fun i _=>by simp) hv
  | succ m ih =>
   intro hm
   obtain ⟨c,hc⟩:=h m (by omega)
   refine G.ext hn (fun i hi=>?_) (G.add hn (ih (by omega)) (ht m c (by omega)))
   show (if i<m then w i else v i)+U m (c*s m) i=if i<m+1 then w i else v i
   unfold U
   by_cases z:i=m
   ·subst z
    rw [if_neg (by omega),if_pos rfl,if_pos (by omega),Int.mul_comm c]
    omega
   ·rw [if_neg z]
    by_cases q:i<m
    ·rw [if_pos q,if_pos (by omega)];omega
    ·rw [if_neg q,if_neg (by omega)];omega
 exact G.ext hn (fun i hi=>by simp [hi]) (key n (Nat.le_refl _))
theorem Good.wt (g:Good n s D) {k d:Nat} {v w:cj} (hn:d+k=n) (h:∀ i,i<n->s i∣w i-v i) (hv:G n s D k d v):G n s D k d w :=
 G.wt (fun i c hi=>g.turn c hn hi) hn h hv
theorem Good.own (g:Good n s D) {d k:Nat} (hn:d+(k+1)=n):G n s D (k+1) d (D d):=by
 have hd:d<n:=by omega
 by_cases z:D d d=0
 ·have e:aQ s D d=s d:=by unfold aQ;rw [if_pos z]
  have c:=g.JJ d k hn
  rw [e] at c
  refine ⟨by rw [z];exact Int.dvd_zero _,G.ext (by omega) (fun i hi=>?_) c⟩
  rw [z,Int.ediv_self (by have:=g.sp d hd;omega)]
  simp
 ·have e:aQ s D d=D d d:=by unfold aQ;rw [if_neg z]
  refine ⟨by rw [e];exact Int.dvd_refl _,G.ext (by omega) (fun i hi=>?_) (G.zero (k:=k) (d:=d+1) (by omega))⟩
  rw [e,Int.ediv_self z];omega
theorem Good.row (g:Good n s D) {d:Nat} (hd:d<n):∀ {k e:Nat},e+k=n->e<=d->G n s D k e (D d):=by
 intro k e hn he
 have h:=g.own (d:=d) (k:=n-d-1) (by omega)
 have:=G.skip (n:=n) (s:=s) (D:=D) (v:=D d) (j:=d-e) (k:=n-d-1+1) (d:=e) (by omega) (fun i h1 h2=>g.wz d hd i (by omega)) (by rw [show e+(d-e)=d by omega];exact h)
 rw [show d-e+(n-d-1+1)=k by omega] at this
 exact this
end
structure Tk (n:Nat) (s:cj) (D D' L:Nat->cj) (u v g:Nat->Int):Prop where
 gp:∀ d,d<n->0<g d
 bz:∀ d,d<n->u d*aQ s D d+v d*L d d=g d
 g1:∀ d,d<n->g d∣aQ s D d
 g2:∀ d,d<n->g d∣L d d
 Jy:∀ d,d<n->∀ i,i<n->D' d i=(u d*D d i+v d*L d i)%s i
 Jn:∀ d,d<n->∀ i,i<n->L (d+1) i=(aQ s D d/g d*L d i+-(L d d/g d)*D d i)%s i
 l0:∀ i,i<n->0<=L 0 i/\L 0 i<s i
section
variable {n:Nat} {s:cj} {D D' L:Nat->cj} {u v g:Nat->Int}
theorem eh (a b:Int):b∣a%b-a:=⟨-(a/b),by have:=Int.emod_def a b;rw [Int.mul_neg];omega⟩
theorem y0 (a b:Int):b∣a-a%b:=⟨a/b,by have:=Int.emod_def a b;omega⟩
theorem Tk.kept (t:Tk n s D D' L u v g) (G:Good n s D):∀ d,d<=n->∀ i,i<n->0<=L d i/\L d i<s i:=by
 intro d hd i hi
 cases d with
 | zero=>exact t.l0 i hi
 | succ d =>
  rw [t.Jn d (by omega) i hi]
  have:=G.sp i hi
  exact ⟨Int.emod_nonneg _ (by omega),Int.emod_lt_of_pos _ this⟩
theorem kY {a b:Int} (h0:0<=a) (h1:a<b) (h:b∣a):a=0:=by
 obtain ⟨c,rfl⟩:=h
 rcases Int.lt_or_le 0 c with hc | hc
 ·have:b*1<=b*c:=Int.mul_le_mul_of_nonneg_left hc (by omega)
  omega
 ·have:b*c<=0:=Int.mul_nonpos_of_nonneg_of_nonpos (by omega) hc
  omega
theorem Tk.zero (t:Tk n s D D' L u v g) (G:Good n s D):∀ d,d<=n->∀ i,i<d->L d i=0:=by
 intro d
 induction d with
 | zero=>intro _ i hi;omega
 | succ d ih =>
  intro hd i hi
  have hdn:d<n:=by omega
  have k:=t.kept G (d+1) hd i (by omega)
  refine kY k.1 k.2 ?_
  rw [t.Jn d hdn i (by omega)]
  rcases Nat.lt_or_ge i d with h | h
  ·rw [ih (by omega) i h,G.wz d hdn i h]
   simp
  ·obtain rfl:i=d:=by omega
   refine Int.dvd_trans ?_ (Int.dvd_refl _)
   obtain ⟨c,hc⟩:=G.diag hdn
   obtain ⟨a,ha⟩:=t.g1 i hdn
   obtain ⟨b,hb⟩:=t.g2 i hdn
   have gp:=t.gp i hdn
   have e1:aQ s D i/g i=a:=by rw [ha];exact Int.mul_ediv_cancel_left a (by omega)
   have e2:L i i/g i=b:=by rw [hb];exact Int.mul_ediv_cancel_left b (by omega)
   rw [e1,e2]
   have e3:a*L i i+-b*D i i=s i*(-b*c):=by
    have:D i i=aQ s D i+s i*c:=by omega
    rw [this,ha,hb];grind
   rw [e3,Int.mul_emod_right]
   exact Int.dvd_zero _
theorem Tk.step (t:Tk n s D D' L u v g) (G:Good n s D) {d:Nat} (hd:d<n):aQ s D' d=g d:=by
 obtain ⟨c,hc⟩:=G.diag hd
 have gp:=t.gp d hd
 have sp:=G.sp d hd
 have st:=G.pos hd
 have le:g d<=aQ s D d:=Int.le_of_dvd st.1 (t.g1 d hd)
 have e:D' d d=g d%s d:=by
  rw [t.Jy d hd d hd,← t.bz d hd]
  have:D d d=aQ s D d+s d*c:=by omega
  rw [this,show u d*(aQ s D d+s d*c)+v d*L d d=(u d*aQ s D d+v d*L d d)+s d*(u d*c) by grind,Int.add_mul_emod_self_left]
 unfold aQ
 rw [e]
 by_cases z:g d=s d
 ·rw [z,Int.emod_self,if_pos rfl]
 ·rw [Int.emod_eq_of_lt (by omega) (by omega),if_neg (by omega)]
theorem Tk.main (t:Tk n s D D' L u v g) (Gd:Good n s D):∀ k d,d+k=n->(∀ w,G n s D k d w->G n s D' k d w)/\G n s D' k d (L d)
 | 0,d,hn=>by
  refine ⟨fun w h=>h,fun i hi=>?_⟩
  rw [t.zero Gd d (by omega) i (by omega)];exact Int.dvd_zero _
 | k+1,d,hn=>by
  obtain ⟨i1,i2⟩:=t.main Gd k (d+1) (by omega)
  have hd:d<n:=by omega
  have turn:∀ i c,i<n->G n s D' k (d+1) (U i (c*s i)):=fun i c hi=>i1 _ (Gd.turn c (by omega) hi)
  have st:=t.step Gd hd
  have gp:=t.gp d hd
  obtain ⟨a,ha⟩:=t.g1 d hd
  obtain ⟨b,hb⟩:=t.g2 d hd
  have e1:aQ s D d/g d=a:=by rw [ha];exact Int.mul_ediv_cancel_left a (by omega)
  have e2:L d d/g d=b:=by rw [hb];exact Int.mul_ediv_cancel_left b (by omega)
  have bz:u d*a+v d*b=1:=by
   have:=t.bz d hd
   rw [ha,hb,show u d*(g d*a)+v d*(g d*b)=g d*(u d*a+v d*b) by grind] at this
   have h2:g d*(u d*a+v d*b)=g d*1:=by omega
   exact Int.eq_of_mul_eq_mul_left (by omega) h2
  have w1:∀ i,i<n->∃ c,D' d i=u d*D d i+v d*L d i+s i*c:=fun i hi=>by
   obtain ⟨c,hc⟩:=eh (u d*D d i+v d*L d i) (s i)
   exact ⟨c,by rw [t.Jy d hd i hi];omega⟩
  have w2:∀ i,i<n->∃ c,L (d+1) i=a*L d i+-b*D d i+s i*c:=fun i hi=>by
   obtain ⟨c,hc⟩:=eh (a*L d i+-b*D d i) (s i)
   exact ⟨c,by rw [t.Jn d hd i hi,e1,e2];omega⟩
  constructor
  ·intro w h
   obtain ⟨h1,h2⟩:=h
   refine ⟨by rw [st];exact Int.dvd_trans (t.g1 d hd) h1,?_⟩
   obtain ⟨q,hq⟩:=h1
   have sp:=(Gd.pos hd).1
   have q1:w d/aQ s D d=q:=by rw [hq];exact Int.mul_ediv_cancel_left q (by omega)
   have q2:w d/aQ s D' d=q*a:=by
    rw [st,hq,ha,show g d*a*q=g d*(q*a) by grind];exact Int.mul_ediv_cancel_left _ (by omega)
   rw [q2]
   rw [q1] at h2
   refine G.wt turn (by omega) (fun i hi=>?_) (G.add (by omega) (i1 _ h2) (G.mul (q*-(v d)) (by omega) i2))
   obtain ⟨c1,hc1⟩:=w1 i hi
   obtain ⟨c2,hc2⟩:=w2 i hi
   refine ⟨q*(v d*c2-a*c1),?_⟩
   rw [hc1,hc2];grind
  ·refine ⟨by rw [st];exact t.g2 d hd,?_⟩
   rw [st,e2]
   refine G.wt turn (by omega) (fun i hi=>?_) (G.mul (u d) (by omega) i2)
   obtain ⟨c1,hc1⟩:=w1 i hi
   obtain ⟨c2,hc2⟩:=w2 i hi
   refine ⟨-(b*c1)-u d*c2,?_⟩
   rw [hc1,hc2];grind
theorem Tk.good (t:Tk n s D D' L u v g) (Gd:Good n s D):Good n s D' where
 sp:=Gd.sp
 kz:=fun d hd i hi=>by
  rw [t.Jy d hd i hi]
  have:=Gd.sp i hi
  exact ⟨Int.emod_nonneg _ (by omega),Int.emod_lt_of_pos _ this⟩
 wz:=fun d hd i hi=>by
  rw [t.Jy d hd i (by omega),Gd.wz d hd i hi,t.zero Gd d (by omega) i hi];simp
 dv:=fun d hd=>by
  rw [t.step Gd hd];exact Int.dvd_trans (t.g1 d hd) (Gd.dv d hd)
 JJ:=fun d k hn=>by
  have hd:d<n:=by omega
  have h1:=(t.main Gd (k+1) d hn).1 _ (Gd.turn (i:=d) 1 hn hd)
  have h2:=(t.main Gd k (d+1) (by omega)).1 _ (Gd.turn (i:=d) 1 (by omega) hd)
  have h3:=h1.2
  have ud:U d (1*s d) d=s d:=by rw [U,if_pos rfl,Int.one_mul]
  rw [ud] at h3
  refine G.ext (by omega) (fun i hi=>?_) (G.add (by omega) h2 (G.mul (-1) (by omega) h3))
  show U d (1*s d) i+-1*(U d (1*s d) i-s d/aQ s D' d*D' d i)=_
  omega
end
end Rg
namespace Rg
section
variable {n:Nat} {s:cj} {D D':Nat->cj}
theorem Good.Dw (Gd:Good n s D) (kz:∀ d,d<n->∀ i,i<n->0<=D' d i/\D' d i<s i) (wz:∀ d,d<n->∀ i,i<d->D' d i=0) (dv:∀ d,d<n->aQ s D' d∣s d)
  (h:∀ k d,d+k=n->∀ w,G n s D k d w->G n s D' k d w):Good n s D' where
 sp:=Gd.sp
 kz:=kz
 wz:=wz
 dv:=dv
 JJ:=fun d k hn=>by
  have hd:d<n:=by omega
  have h1:=h (k+1) d hn _ (Gd.turn (i:=d) 1 hn hd)
  have h2:=h k (d+1) (by omega) _ (Gd.turn (i:=d) 1 (by omega) hd)
  have h3:=h1.2
  have ud:U d (1*s d) d=s d:=by rw [U,if_pos rfl,Int.one_mul]
  rw [ud] at h3
  refine G.ext (by omega) (fun i hi=>?_) (G.add (by omega) h2 (G.mul (-1) (by omega) h3))
  show U d (1*s d) i+-1*(U d (1*s d) i-s d/aQ s D' d*D' d i)=_
  omega
structure Dn (n:Nat) (s:cj) (D:Nat->cj) (f:Nat) (W:Nat->cj):Prop where
 w0:∀ i,i<n->0<=W f i/\W f i<s i
 ws:∀ d,f<=d->d<n->∀ i,i<n->W (d+1) i=(1*W d i+-(W d d/aQ s D d)*D d i)%s i
variable {f:Nat} {W:Nat->cj}
theorem Dn.kept (h:Dn n s D f W) (Gd:Good n s D):∀ d,f<=d->d<=n->∀ i,i<n->0<=W d i/\W d i<s i:=by
 intro d hf hd i hi
 rcases Nat.lt_or_ge f d with q | q
 ·obtain ⟨e,rfl⟩:∃ e,d=e+1:=⟨d-1,by omega⟩
  rw [h.ws e (by omega) (by omega) i hi]
  have:=Gd.sp i hi
  exact ⟨Int.emod_nonneg _ (by omega),Int.emod_lt_of_pos _ this⟩
 ·obtain rfl:d=f:=by omega
  exact h.w0 i hi
theorem Dn.ahead (h:Dn n s D f W) (Gd:Good n s D) {d i:Nat} (hf:f<=d) (hd:d<n) (hi:i<d):W (d+1) i=W d i:=by
 have k:=h.kept Gd d hf (by omega) i (by omega)
 rw [h.ws d hf hd i (by omega),Gd.wz d hd i hi,Int.mul_zero,Int.add_zero,Int.one_mul,Int.emod_eq_of_lt k.1 k.2]
theorem Dn.at_ (h:Dn n s D f W) (Gd:Good n s D) {d:Nat} (hf:f<=d) (hd:d<n):W (d+1) d=W d d%aQ s D d:=by
 have k:=h.kept Gd d hf (by omega) d hd
 have p:=Gd.pos hd
 rw [h.ws d hf hd d hd]
 have e:=Int.emod_def (W d d) (aQ s D d)
 have q0:=Int.emod_nonneg (W d d) (show aQ s D d≠0 by omega)
 have q1:=Int.emod_lt_of_pos (W d d) p.1
 by_cases z:D d d=0
 ·have st:aQ s D d=s d:=by unfold aQ;rw [if_pos z]
  rw [z,st,Int.emod_eq_of_lt k.1 k.2,Int.mul_zero,Int.add_zero,Int.one_mul,Int.emod_eq_of_lt k.1 k.2]
 ·have st:aQ s D d=D d d:=by unfold aQ;rw [if_neg z]
  rw [← st,show 1*W d d+-(W d d/aQ s D d)*aQ s D d=W d d%aQ s D d by rw [e];grind]
  exact Int.emod_eq_of_lt q0 (by omega)
theorem Dn.low (h:Dn n s D f W) (Gd:Good n s D):∀ d,f<=d->d<=n->∀ e,f<=e->e<d->0<=W d e/\W d e<aQ s D e:=by
 intro d
 induction d with
 | zero=>intro _ _ e _ he;omega
 | succ d ih =>
  intro hf hd e he hed
  rcases Nat.lt_or_ge e d with q | q
  ·rw [h.ahead Gd (by omega) (by omega) q];exact ih (by omega) (by omega) e he q
  ·obtain rfl:e=d:=by omega
   have p:=Gd.pos (show e<n by omega)
   rw [h.at_ Gd he (by omega)]
   exact ⟨Int.emod_nonneg _ (by omega),Int.emod_lt_of_pos _ p.1⟩
theorem Dn.front (h:Dn n s D f W) (Gd:Good n s D):∀ d,f<=d->d<=n->∀ i,i<f->W d i=W f i:=by
 intro d
 induction d with
 | zero=>intro h1 _ i hi;omega
 | succ d ih =>
  intro hf hd i hi
  rcases Nat.lt_or_ge d f with q | q
  ·rw [show d+1=f by omega]
  ·rw [h.ahead Gd q (by omega) (by omega)];exact ih q (by omega) i hi
theorem Dn.away (h:Dn n s D f W) (Gd:Good n s D):∀ d,f<=d->d<=n->∀ k,f+k=n->G n s D k f fun i=>W f i-W d i:=by
 intro d
 induction d with
 | zero =>
  intro hf _ k hn
  obtain rfl:f=0:=by omega
  exact G.ext hn (fun i _=>by omega) (G.zero hn)
 | succ d ih =>
  intro hf hd k hn
  rcases Nat.lt_or_ge d f with q | q
  ·rw [show d+1=f by omega]
   exact G.ext hn (fun i _=>by omega) (G.zero hn)
  ·refine Gd.wt hn (fun i hi=>?_) (G.add hn (ih q (by omega) k hn) (G.mul (W d d/aQ s D d) hn (Gd.row (show d<n by omega) hn q)))
   rw [h.ws d q (by omega) i hi]
   have:=y0 (1*W d i+-(W d d/aQ s D d)*D d i) (s i)
   obtain ⟨c,hc⟩:=this
   exact ⟨c,by rw [← hc];grind⟩
theorem G.small (Gd:Good n s D):∀ k d (v:cj),d+k=n->(∀ i,i<n->0<=v i/\v i<s i)->(∀ i,d<=i->i<n->v i<aQ s D i)->G n s D k d v->∀ i,i<n->v i=0
 | 0,d,v,hn,h0,_,g,i,hi=>kY (h0 i hi).1 (h0 i hi).2 (g i hi)
 | k+1,d,v,hn,h0,h1,g,i,hi=>by
  have z:v d=0:=kY (h0 d (by omega)).1 (h1 d (Nat.le_refl _) (by omega)) g.1
  refine G.small Gd k (d+1) v (by omega) h0 (fun j hj=>h1 j (by omega)) (G.ext (by omega) (fun j hj=>?_) g.2) i hi
  rw [z];simp
theorem vn (Gd:Good n s D) (W:Nat->Nat->cj) (hW:∀ d,d<n->Dn n s D (d+1) (W d)) (h0:∀ d,d<n->∀ i,i<n->W d (d+1) i=D d i) (hD:∀ d,d<n->∀ i,i<n->D' d i=W d n i) :
  Good n s D'/\(∀ d,d<n->aQ s D' d=aQ s D d)/\(∀ d,d<n->∀ e,d<e->e<n->D' d e<aQ s D e)/\(∀ d,d<n->D' d d=0->∀ i,i<n->D' d i=0)/\(∀ k d,d+k=n->∀ w,G n s D k d w->G n s D' k d w):=by
 have dg:∀ d,d<n->∀ i,i<=d->D' d i=D d i:=fun d hd i hi=>by
  rw [hD d hd i (by omega),(hW d hd).front Gd n (by omega) (Nat.le_refl _) i (by omega),h0 d hd i (by omega)]
 have st:∀ d,d<n->aQ s D' d=aQ s D d:=fun d hd=>by
  unfold aQ;rw [dg d hd d (Nat.le_refl _)]
 have incl:∀ k d,d+k=n->∀ w,G n s D k d w->G n s D' k d w:=by
  intro k
  induction k with
  | zero=>intro d _ w h;exact h
  | succ k ih =>
   intro d hn w h
   have hd:d<n:=by omega
   refine ⟨by rw [st d hd];exact h.1,ih (d+1) (by omega) _ ?_⟩
   rw [st d hd]
   refine G.ext (by omega) (fun i hi=>?_) (G.add (by omega) h.2 (G.mul (w d/aQ s D d) (by omega) ((hW d hd).away Gd n (by omega) (Nat.le_refl _) k (by omega))))
   show w i-w d/aQ s D d*D d i+w d/aQ s D d*(W d (d+1) i-W d n i)=_
   rw [h0 d hd i hi,hD d hd i hi];grind
 have good:Good n s D':=Gd.Dw (fun d hd i hi=>by rw [hD d hd i hi];exact (hW d hd).kept Gd n (by omega) (Nat.le_refl _) i hi) (fun d hd i hi=>by rw [dg d hd i (by omega)];exact Gd.wz d hd i hi) (fun d hd=>by rw [st d hd];exact Gd.dv d hd) incl
 have lt:∀ d,d<n->∀ e,d<e->e<n->D' d e<aQ s D e:=fun d hd e he hen=>by
  rw [hD d hd e hen];exact ((hW d hd).low Gd n (by omega) (Nat.le_refl _) e (by omega) hen).2
 refine ⟨good,st,lt,fun d hd z=>?_,incl⟩
 have h1:=good.own (d:=d) (k:=n-d-1) (by omega)
 have h2:=h1.2
 refine G.small good (n-d-1) (d+1) (D' d) (by omega) (good.kz d hd) (fun i h1 h2=>by rw [st i h2];exact lt d hd i (by omega) h2) (G.ext (by omega) (fun i hi=>?_) h2)
 rw [z];simp
end
def dh:Nat->(Nat->Int)->Int
 | 0,_=>0
 | m+1,f=>dh m f+f m
theorem jR (a b:Int) (f g h:Nat->Int):∀ m,(∀ l,l<m->h l=a*f l+b*g l)->dh m h=a*dh m f+b*dh m g
 | 0,_=>by simp [dh]
 | m+1,e=>by
  rw [dh,dh,dh,jR a b f g h m fun l hl=>e l (by omega),e m (by omega)];grind
theorem gL {f g:Nat->Int}:∀ {m:Nat},(∀ l,l<m->f l=g l)->dh m f=dh m g
 | 0,_=>rfl
 | m+1,e=>by rw [dh,dh,gL fun l hl=>e l (by omega),e m (by omega)]
theorem kG:∀ m,dh m (fun _=>0)=0
 | 0=>rfl
 | m+1=>by rw [dh,kG m];rfl
theorem iQ (k:Nat) (a:Int):∀ m,k<m->∀ f:Nat->Int,(∀ l,l<m->f l=if l=k then a else 0)->dh m f=a
 | 0,h,_,_=>by omega
 | m+1,h,f,e=>by
  rw [dh]
  by_cases z:k=m
  ·subst z
   rw [gL (g:=fun _=>0) fun l hl=>by rw [e l (by omega),if_neg (by omega)],kG,e k (by omega),if_pos rfl];omega
  ·rw [iQ k a m (by omega) f fun l hl=>e l (by omega),e m (by omega),if_neg (by omega)];omega
def Led (n:Nat) (s:cj) (m:Nat) (A:Nat->cj) (v P:cj):Prop:=∀ i,i<n->s i∣v i-dh m fun l=>P l*A l i
theorem Led.mix {n m:Nat} {s:cj} {A:Nat->cj} {v w x P Q R:cj} {a b:Int} (h1:Led n s m A v P) (h2:Led n s m A w Q) (hx:∀ i,i<n->s i∣x i-(a*v i+b*w i)) (hR:∀ l,l<m->R l=a*P l+b*Q l):Led n s m A x R:=fun i hi=>by
 obtain ⟨c1,e1⟩:=h1 i hi
 obtain ⟨c2,e2⟩:=h2 i hi
 obtain ⟨c3,e3⟩:=hx i hi
 rw [jR a b (fun l=>P l*A l i) (fun l=>Q l*A l i) (fun l=>R l*A l i) m fun l hl=>by rw [hR l hl];grind]
 exact ⟨a*c1+b*c2+c3,by grind⟩
def a0:Nat->(Nat->Int)->Int
 | 0,_=>1
 | m+1,f=>a0 m f*f m
theorem si {f g h:Nat->Int}:∀ {m:Nat},(∀ l,l<m->f l=g l*h l)->a0 m f=a0 m g*a0 m h
 | 0,_=>rfl
 | m+1,e=>by rw [a0,a0,a0,si fun l hl=>e l (by omega),e m (by omega)];grind
theorem iW {f g:Nat->Int}:∀ {m:Nat},(∀ l,l<m->f l=g l)->a0 m f=a0 m g
 | 0,_=>rfl
 | m+1,e=>by rw [a0,a0,iW fun l hl=>e l (by omega),e m (by omega)]
theorem kO {f:Nat->Int}:∀ {m:Nat},(∀ l,l<m->0<f l)->0<a0 m f
 | 0,_=>(by decide:(0:Int)<1)
 | m+1,e=>Int.mul_pos (kO fun l hl=>e l (by omega)) (e m (by omega))
end Rg
namespace Rg
def vf (xs:List Int):cj:=fun i=>xs.getD i 0
theorem aR {xs:List Int} {i:Nat} (h:i<xs.length):vf xs i=xs[i]:=by
 unfold vf;rw [List.getD_eq_getElem?_getD,List.getElem?_eq_getElem h];rfl
theorem xf {xs:List Int} {i:Nat} (h:xs.length<=i):vf xs i=0:=by
 unfold vf;rw [List.getD_eq_getElem?_getD,List.getElem?_eq_none h];rfl
def oE (xs:List Int) (a:Int) (ys:List Int) (b:Int):List Int:=(xs.zip ys).map fun z=>a*z.1+b*z.2
def Ah (xs sizes:List Int):List Int:=(xs.zip sizes).map fun z=>z.1%z.2
theorem bD {xs ys:List Int} {a b:Int}:(oE xs a ys b).length=min xs.length ys.length:=by simp [oE]
theorem jZ {xs ys:List Int}:(Ah xs ys).length=min xs.length ys.length:=by simp [Ah]
theorem eT {xs ys:List Int} {a b:Int} {i:Nat} (h1:i<xs.length) (h2:i<ys.length):vf (oE xs a ys b) i=a*vf xs i+b*vf ys i:=by
 rw [aR (by rw [bD];omega),aR h1,aR h2]
 simp [oE]
theorem kE {xs ys:List Int} {i:Nat} (h1:i<xs.length) (h2:i<ys.length):vf (Ah xs ys) i=vf xs i%vf ys i:=by
 rw [aR (by rw [jZ];omega),aR h1,aR h2]
 simp [Ah]
theorem uA (n:Nat) (i:Nat):vf (List.replicate n 0) i=0:=by
 rcases Nat.lt_or_ge i n with h | h
 ·rw [aR (by simpa using h)];simp
 ·rw [xf (by simpa using h)]
def Bd (B:Nat) (xs:List Int):Prop:=∀ x∈xs,x.natAbs<2^B
theorem Bd.mono {B C:Nat} {xs:List Int} (h:Bd B xs) (hc:B<=C):Bd C xs:=fun x hx=>Nat.lt_of_lt_of_le (h x hx) (Nat.pow_le_pow_right (by decide) hc)
theorem Bd.vf {B:Nat} {xs:List Int} (h:Bd B xs) (i:Nat):(vf xs i).natAbs<2^B:=by
 rcases Nat.lt_or_ge i xs.length with q | q
 ·rw [aR q];exact h _ (List.getElem_mem q)
 ·rw [xf q];exact Nat.two_pow_pos B
theorem xq {a b:Int} {A B:Nat} (ha:a.natAbs<2^A) (hb:b.natAbs<2^B):(a*b).natAbs<2^(A+B):=by
 rw [Int.natAbs_mul,Nat.pow_add]
 have h0:0<2^A:=Nat.two_pow_pos A
 have h1:0<2^B:=Nat.two_pow_pos B
 exact Nat.mul_lt_mul_of_lt_of_le ha (Nat.le_of_lt hb) h1
theorem Gi {a b:Int} {A:Nat} (ha:a.natAbs<2^A) (hb:b.natAbs<2^A):(a+b).natAbs<2^(A+1):=by
 rw [Nat.pow_succ];omega
theorem Bd.mix {A B:Nat} {xs ys:List Int} {a b:Int} (hx:Bd B xs) (hy:Bd B ys) (ha:a.natAbs<2^A) (hb:b.natAbs<2^A):Bd (A+B+1) (oE xs a ys b):=by
 intro z hz
 obtain ⟨w,hw,rfl⟩:=List.mem_map.mp hz
 have:=List.of_mem_zip (a:=w.1) (b:=w.2) hw
 exact Gi (xq ha (hx _ this.1)) (xq hb (hy _ this.2))
abbrev Row:=List Int×List Int
def row (rows:List Row) (d:Nat):Row:=rows.getD d ([],[])
def DD (rows:List Row):Nat->cj:=fun d=>vf (row rows d).1
def PP (rows:List Row):Nat->cj:=fun d=>vf (row rows d).2
structure Wf (n m:Nat) (rows:List Row):Prop where
 len:rows.length=n
 l1:∀ r∈rows,r.1.length=n
 l2:∀ r∈rows,r.2.length=m
theorem je {rows:List Row} {d:Nat} (h:d<rows.length):row rows d=rows[d]:=by
 unfold row;rw [List.getD_eq_getElem?_getD,List.getElem?_eq_getElem h];rfl
theorem Wf.qS {n m:Nat} {rows:List Row} (w:Wf n m rows) {d:Nat} (h:d<n):(row rows d).1.length=n:=by
 rw [je (by rw [w.len];exact h)];exact w.l1 _ (List.getElem_mem _)
theorem Wf.at2 {n m:Nat} {rows:List Row} (w:Wf n m rows) {d:Nat} (h:d<n):(row rows d).2.length=m:=by
 rw [je (by rw [w.len];exact h)];exact w.l2 _ (List.getElem_mem _)
def qR (sizes:List Int) (r:Row) (a:Int) (q:Row) (b:Int):Row:=(Ah (oE r.1 a q.1 b) sizes,oE r.2 a q.2 b)
def az (c:Int->Int->Int×Int) (sizes:List Int) (rows:List Row) (left:Row):Nat->Row
 | 0=>left
 | d+1 =>
  let l:=az c sizes rows left d
  let st:=aQ (vf sizes) (DD rows) d
  let nt:=vf l.1 d
  qR sizes l (st/(Int.gcd st nt:Nat)) (row rows d) (-(nt/(Int.gcd st nt:Nat)))
def dE (c:Int->Int->Int×Int) (sizes:List Int) (rows:List Row) (left:Row) (d:Nat):Row :=
 let l:=az c sizes rows left d
 let st:=aQ (vf sizes) (DD rows) d
 let nt:=vf l.1 d
 qR sizes (row rows d) (c st nt).1 l (c st nt).2
def bY (c:Int->Int->Int×Int) (sizes:List Int) (rows:List Row) (left:Row) (n:Nat):List Row:=(List.range n).map (dE c sizes rows left)
section
variable {c:Int->Int->Int×Int} {sizes:List Int} {rows:List Row} {left:Row} {n m:Nat}
theorem cJ (w:Wf n m rows) (hs:sizes.length=n) (h1:left.1.length=n) (h2:left.2.length=m):∀ d,d<=n->(az c sizes rows left d).1.length=n/\(az c sizes rows left d).2.length=m
 | 0,_=>⟨h1,h2⟩
 | d+1,hd=>by
  obtain ⟨i1,i2⟩:=cJ w hs h1 h2 d (by omega)
  have e1:=w.qS (d:=d) (by omega);have e2:=w.at2 (d:=d) (by omega)
  simp only [az,qR]
  rw [jZ,bD,bD]
  exact ⟨by omega,by omega⟩
theorem kL {d:Nat} (h:d<n):row (bY c sizes rows left n) d=dE c sizes rows left d:=by
 rw [je (by simp [bY,h])];simp [bY]
theorem AB (w:Wf n m rows) (hs:sizes.length=n) (h1:left.1.length=n) (h2:left.2.length=m):Wf n m (bY c sizes rows left n):=by
 have key:∀ d,d<n->(dE c sizes rows left d).1.length=n/\(dE c sizes rows left d).2.length=m:=fun d hd=>by
  obtain ⟨i1,i2⟩:=cJ (c:=c) w hs h1 h2 d (by omega)
  have e1:=w.qS (d:=d) hd;have e2:=w.at2 (d:=d) hd
  simp only [dE,qR]
  rw [jZ,bD,bD]
  exact ⟨by omega,by omega⟩
 refine ⟨by simp [bY],fun r hr=>?_,fun r hr=>?_⟩
 ·obtain ⟨d,hd,rfl⟩:=List.mem_map.mp hr
  exact (key d (List.mem_range.mp hd)).1
 ·obtain ⟨d,hd,rfl⟩:=List.mem_map.mp hr
  exact (key d (List.mem_range.mp hd)).2
theorem fW {a b:Int} (h:0<a):0<(Int.gcd a b:Int):=by
 have:=Int.gcd_pos_of_ne_zero_left b (show a≠0 by omega);omega
theorem JQ (w:Wf n m rows) (hs:sizes.length=n) (h1:left.1.length=n) (h2:left.2.length=m) (Gd:Good n (vf sizes) (DD rows)) (h0:∀ i,i<n->0<=vf left.1 i/\vf left.1 i<vf sizes i)
  (hc:∀ d,d<n->(c (aQ (vf sizes) (DD rows) d) (vf (az c sizes rows left d).1 d)).1*aQ (vf sizes) (DD rows) d+(c (aQ (vf sizes) (DD rows) d) (vf (az c sizes rows left d).1 d)).2*vf (az c sizes rows left d).1 d=(Int.gcd (aQ (vf sizes) (DD rows) d) (vf (az c sizes rows left d).1 d):Nat)) :
  Tk n (vf sizes) (DD rows) (DD (bY c sizes rows left n)) (fun d=>vf (az c sizes rows left d).1) (fun d=>(c (aQ (vf sizes) (DD rows) d) (vf (az c sizes rows left d).1 d)).1) (fun d=>(c (aQ (vf sizes) (DD rows) d) (vf (az c sizes rows left d).1 d)).2) (fun d=>(Int.gcd (aQ (vf sizes) (DD rows) d) (vf (az c sizes rows left d).1 d):Nat)) where
 gp:=fun d hd=>fW (Gd.pos hd).1
 bz:=hc
 g1:=fun d hd=>Int.gcd_dvd_left ..
 g2:=fun d hd=>Int.gcd_dvd_right ..
 Jy:=fun d hd i hi=>by
  obtain ⟨i1,i2⟩:=cJ (c:=c) w hs h1 h2 d (by omega)
  have e1:=w.qS (d:=d) hd
  show vf (row (bY c sizes rows left n) d).1 i=_
  rw [kL hd]
  simp only [dE,qR]
  rw [kE (by rw [bD];omega) (by omega),eT (by omega) (by omega)]
  rfl
 Jn:=fun d hd i hi=>by
  obtain ⟨i1,i2⟩:=cJ (c:=c) w hs h1 h2 d (by omega)
  have e1:=w.qS (d:=d) hd
  simp only [az,qR]
  rw [kE (by rw [bD];omega) (by omega),eT (by omega) (by omega)]
  rfl
 l0:=h0
end
end Rg
namespace Rg
section
variable {c:Int->Int->Int×Int} {sizes:List Int} {rows:List Row} {left:Row} {n m k:Nat} {A:Nat->cj}
def CB (c:Int->Int->Int×Int):Prop:=∀ a b:Int,0<a->a<=360->0<=b->b<=360->(c a b).1*a+(c a b).2*b=(Int.gcd a b:Nat)/\(c a b).1.natAbs<2^20/\(c a b).2.natAbs<2^20
theorem kl {a b:Int} (h:0<a) (h2:a<=360):0<a/(Int.gcd a b:Nat)/\a/(Int.gcd a b:Nat)<=360:=by
 have g:=fW (b:=b) h
 obtain ⟨q,hq⟩:((Int.gcd a b:Nat):Int)∣a:=Int.gcd_dvd_left ..
 have e:a/(Int.gcd a b:Nat)=q:=by
  have:((Int.gcd a b:Nat):Int)≠0:=by omega
  exact Int.ediv_eq_of_eq_mul_right this hq
 rw [e]
 have q0:0<q:=by
  rcases Int.lt_or_le 0 q with z | z
  ·exact z
  ·have:=Int.mul_nonpos_of_nonneg_of_nonpos (Int.le_of_lt g) z;omega
 refine ⟨q0,?_⟩
 have:1*q<=(Int.gcd a b:Nat)*q:=Int.mul_le_mul_of_nonneg_right (by omega) (by omega)
 omega
theorem mG {a b:Int} (h:0<a) (h1:0<=b) (h2:b<=360):0<=b/(Int.gcd a b:Nat)/\b/(Int.gcd a b:Nat)<=360:=by
 have g:=fW (b:=b) h
 exact ⟨Int.ediv_nonneg h1 (by omega),Int.le_trans (Int.ediv_le_self _ h1) h2⟩
def Zf (k m:Nat) (P:cj):Prop:=∀ l,k<=l->l<m->P l=0
structure St (n m:Nat) (sizes:List Int) (A:Nat->cj) (k:Nat) (rows:List Row):Prop where
 wf:Wf n m rows
 hs:sizes.length=n
 sm:∀ i,i<n->vf sizes i<=360
 gd:Good n (vf sizes) (DD rows)
 led:∀ d,d<n->Led n (vf sizes) m A (DD rows d) (PP rows d)
 zf:∀ d,d<n->Zf k m (PP rows d)
 bd:∀ d,d<n->Bd (150*k+1) (row rows d).2
 cl:∀ l,l<k->G n (vf sizes) (DD rows) n 0 (A l)
structure Lv (n m:Nat) (sizes:List Int) (A:Nat->cj) (k:Nat) (left:Row):Prop where
 l1:left.1.length=n
 l2:left.2.length=m
 km:k<m
 at_:∀ i,i<n->vf left.1 i=A k i
 kz:∀ i,i<n->0<=A k i/\A k i<vf sizes i
 un:∀ l,l<m->vf left.2 l=if l=k then 1 else 0
theorem kR (h:St n m sizes A k rows) (L:Lv n m sizes A k left):∀ d,d<=n->∀ i,i<n->0<=vf (az c sizes rows left d).1 i/\vf (az c sizes rows left d).1 i<vf sizes i
 | 0,_,i,hi=>by show 0<=vf left.1 i/\vf left.1 i<vf sizes i;rw [L.at_ i hi];exact L.kz i hi
 | d+1,hd,i,hi=>by
  obtain ⟨i1,i2⟩:=cJ (c:=c) h.wf h.hs L.l1 L.l2 d (by omega)
  have e1:=h.wf.qS (d:=d) (by omega)
  have hs:=h.hs
  simp only [az,qR]
  rw [kE (by rw [bD];omega) (by omega)]
  have:=h.gd.sp i hi
  exact ⟨Int.emod_nonneg _ (by omega),Int.emod_lt_of_pos _ this⟩
theorem St.tk (h:St n m sizes A k rows) (L:Lv n m sizes A k left) (cb:CB c):Tk n (vf sizes) (DD rows) (DD (bY c sizes rows left n)) (fun d=>vf (az c sizes rows left d).1) (fun d=>(c (aQ (vf sizes) (DD rows) d) (vf (az c sizes rows left d).1 d)).1) (fun d=>(c (aQ (vf sizes) (DD rows) d) (vf (az c sizes rows left d).1 d)).2) (fun d=>(Int.gcd (aQ (vf sizes) (DD rows) d) (vf (az c sizes rows left d).1 d):Nat)) :=
 JQ h.wf h.hs L.l1 L.l2 h.gd (fun i hi=>by rw [L.at_ i hi];exact L.kz i hi) fun d hd=>by
  have p:=h.gd.pos hd
  have q:=kR (c:=c) h L d (by omega) d hd
  have s:=h.sm d hd
  exact (cb _ _ p.1 (by omega) q.1 (by omega)).1
theorem pf (h:St n m sizes A k rows) (L:Lv n m sizes A k left):∀ d,d<=n->Led n (vf sizes) m A (vf (az c sizes rows left d).1) (vf (az c sizes rows left d).2)
 | 0,_=>fun i hi=>by
  show vf sizes i∣vf left.1 i-dh m fun l=>vf left.2 l*A l i
  rw [L.at_ i hi,iQ k (A k i) m L.km (fun l=>vf left.2 l*A l i) fun l hl=>by
   rw [L.un l hl]
   by_cases z:l=k
   ·subst z;rw [if_pos rfl,if_pos rfl,Int.one_mul]
   ·rw [if_neg z,if_neg z,Int.zero_mul]]
  rw [Int.sub_self];exact Int.dvd_zero _
 | d+1,hd=>by
  obtain ⟨i1,i2⟩:=cJ (c:=c) h.wf h.hs L.l1 L.l2 d (by omega)
  have e1:=h.wf.qS (d:=d) (by omega);have e2:=h.wf.at2 (d:=d) (by omega)
  have hs:=h.hs
  refine Led.mix (a:=aQ (vf sizes) (DD rows) d/(Int.gcd (aQ (vf sizes) (DD rows) d) (vf (az c sizes rows left d).1 d):Nat)) (b:=-(vf (az c sizes rows left d).1 d/(Int.gcd (aQ (vf sizes) (DD rows) d) (vf (az c sizes rows left d).1 d):Nat))) (pf h L d (by omega)) (h.led d (by omega)) (fun i hi=>?_) fun l hl=>?_
  ·simp only [az,qR]
   rw [kE (by rw [bD];omega) (by omega),eT (by omega) (by omega)]
   exact eh _ _
  ·simp only [az,qR]
   rw [eT (by omega) (by omega)];rfl
theorem t_ (h:St n m sizes A k rows) (L:Lv n m sizes A k left):∀ d,d<=n->Zf (k+1) m (vf (az c sizes rows left d).2)/\vf (az c sizes rows left d).2 k=a0 d fun e=>aQ (vf sizes) (DD rows) e/(Int.gcd (aQ (vf sizes) (DD rows) e) (vf (az c sizes rows left e).1 e):Nat)
 | 0,_=>⟨fun l h1 h2=>by show vf left.2 l=0;rw [L.un l h2,if_neg (by omega)],by show vf left.2 k=1;rw [L.un k L.km,if_pos rfl]⟩
 | d+1,hd=>by
  obtain ⟨i1,i2⟩:=cJ (c:=c) h.wf h.hs L.l1 L.l2 d (by omega)
  have e2:=h.wf.at2 (d:=d) (by omega)
  obtain ⟨j1,j2⟩:=t_ h L d (by omega)
  have z:=h.zf d (by omega)
  have km:=L.km
  constructor
  ·intro l h1 h2
   simp only [az,qR]
   rw [eT (by omega) (by omega),j1 l h1 h2,show vf (row rows d).2 l=0 from z l (by omega) h2];simp
  ·rw [a0,← j2]
   simp only [az,qR]
   rw [eT (by omega) (by omega),show vf (row rows d).2 k=0 from z k (Nat.le_refl _) km]
   grind
theorem oW (h:St n m sizes A k rows) (L:Lv n m sizes A k left) (hn:n<=6):∀ d,d<=n->Bd (150*k+1+11*d) (az c sizes rows left d).2
 | 0,_=>fun x hx=>by
  have hx:x∈left.2:=hx
  obtain ⟨i,hi,rfl⟩:=List.mem_iff_getElem.mp hx
  have hm:i<m:=by rw [← L.l2];exact hi
  have e:=L.un i hm
  rw [aR hi] at e
  show (left.2[i]).natAbs<_
  rw [e]
  have:2^1<=2^(150*k+1+11*0):=Nat.pow_le_pow_right (by decide) (by omega)
  refine Nat.lt_of_lt_of_le ?_ this
  split
  ·decide
  ·decide
 | d+1,hd=>by
  have p:=h.gd.pos (show d<n by omega)
  have s:=h.sm d (by omega)
  have q:=kR (c:=c) h L d (by omega) d (by omega)
  have a1:=kl (b:=vf (az c sizes rows left d).1 d) p.1 (by omega)
  have a2:=mG (b:=vf (az c sizes rows left d).1 d) p.1 q.1 (by omega)
  have:=Bd.mix (A:=9+1) (oW h L hn d (by omega)) ((h.bd d (by omega)).mono (show 150*k+1<=150*k+1+11*d by omega)) (a:=aQ (vf sizes) (DD rows) d/(Int.gcd (aQ (vf sizes) (DD rows) d) (vf (az c sizes rows left d).1 d):Nat)) (b:=-(vf (az c sizes rows left d).1 d/(Int.gcd (aQ (vf sizes) (DD rows) d) (vf (az c sizes rows left d).1 d):Nat))) (by omega) (by omega)
  exact this.mono (by omega)
theorem St.next (h:St n m sizes A k rows) (L:Lv n m sizes A k left) (cb:CB c) (hn:n<=6):St n m sizes A (k+1) (bY c sizes rows left n):=by
 have T:=h.tk L cb
 have hs:=h.hs
 refine ⟨AB h.wf h.hs L.l1 L.l2,h.hs,h.sm,T.good h.gd,fun d hd=>?_,fun d hd=>?_,fun d hd=>?_,fun l hl=>?_⟩
 ·obtain ⟨i1,i2⟩:=cJ (c:=c) h.wf h.hs L.l1 L.l2 d (by omega)
  have e1:=h.wf.qS (d:=d) hd;have e2:=h.wf.at2 (d:=d) hd
  unfold DD PP
  rw [kL hd]
  refine Led.mix (a:=(c (aQ (vf sizes) (DD rows) d) (vf (az c sizes rows left d).1 d)).1) (b:=(c (aQ (vf sizes) (DD rows) d) (vf (az c sizes rows left d).1 d)).2) (h.led d hd) (pf (c:=c) h L d (by omega)) (fun i hi=>?_) fun l hl=>?_
  ·simp only [dE,qR]
   rw [kE (by rw [bD];omega) (by omega),eT (by omega) (by omega)]
   exact eh _ _
  ·simp only [dE,qR]
   rw [eT (by omega) (by omega)];rfl
 ·obtain ⟨i1,i2⟩:=cJ (c:=c) h.wf h.hs L.l1 L.l2 d (by omega)
  have e2:=h.wf.at2 (d:=d) hd
  intro l h1 h2
  unfold PP
  rw [kL hd]
  simp only [dE,qR]
  rw [eT (by omega) (by omega),(t_ (c:=c) h L d (by omega)).1 l h1 h2,show vf (row rows d).2 l=0 from h.zf d hd l (by omega) h2];simp
 ·rw [kL hd]
  have p:=h.gd.pos hd
  have s:=h.sm d hd
  have q:=kR (c:=c) h L d (by omega) d hd
  have b:=cb (aQ (vf sizes) (DD rows) d) (vf (az c sizes rows left d).1 d) p.1 (by omega) q.1 (by omega)
  have:=Bd.mix (A:=20) ((h.bd d hd).mono (show 150*k+1<=150*k+1+11*d by omega)) (oW (c:=c) h L hn d (by omega)) b.2.1 b.2.2
  exact this.mono (by omega)
 ·rcases Nat.lt_or_ge l k with q | q
  ·exact (T.main h.gd n 0 (by omega)).1 _ (h.cl l q)
  ·obtain rfl:l=k:=by omega
   exact G.ext (by omega) (fun i hi=>L.at_ i hi) (T.main h.gd n 0 (by omega)).2
end
end Rg
namespace Rg
def aL (idle:List (List Int)) (k:Nat) (P:List Int):Nat->List Int
 | 0=>P
 | c+1 =>
  let z:=aL idle k P c
  let r:=idle.getD (k-1-c) []
  oE z 1 r (-(vf z (k-1-c)/vf r (k-1-c)))
def II (idle:List (List Int)):Nat->cj:=fun j=>vf (idle.getD j [])
structure Bu (n m:Nat) (s:cj) (A:Nat->cj) (k:Nat) (idle:List (List Int)):Prop where
 len:idle.length=k
 l2:∀ j,j<k->(idle.getD j []).length=m
 pos:∀ j,j<k->0<II idle j j
 le:∀ j,j<k->II idle j j<2^60
 zero:∀ j,j<k->∀ l,j<l->l<m->II idle j l=0
 nf:∀ j,j<k->∀ l,l<j->0<=II idle j l/\II idle j l<II idle l l
 uL:∀ j,j<k->Led n s m A (fun _=>0) (II idle j)
section
variable {n m k:Nat} {s:cj} {A:Nat->cj} {idle:List (List Int)} {P:List Int}
theorem Bu.bd (h:Bu n m s A k idle) {j:Nat} (hj:j<k) (hm:k<=m):Bd 60 (idle.getD j []):=fun x hx=>by
 obtain ⟨l,hl,rfl⟩:=List.mem_iff_getElem.mp hx
 rw [h.l2 j hj] at hl
 have e:II idle j l=(idle.getD j [])[l]'(by rw [h.l2 j hj];exact hl):=aR _
 rw [← e]
 rcases Nat.lt_or_ge l j with q | q
 ·have h1:=h.nf j hj l q
  have h2:=h.le l (by omega)
  omega
 ·rcases Nat.lt_or_ge j l with q2 | q2
  ·rw [h.zero j hj l q2 hl];exact Nat.two_pow_pos _
  ·obtain rfl:l=j:=by omega
   have h1:=h.pos l hj;have h2:=h.le l hj
   omega
theorem span_len (h:Bu n m s A k idle) (hP:P.length=m):∀ c,c<=k->(aL idle k P c).length=m
 | 0,_=>hP
 | c+1,hc=>by
  simp only [aL]
  rw [bD,span_len h hP c (by omega),h.l2 _ (by omega)];omega
theorem oV (h:Bu n m s A k idle) (hP:P.length=m) {c l:Nat} (hc:c<k) (hl:l<m):vf (aL idle k P (c+1)) l=vf (aL idle k P c) l-vf (aL idle k P c) (k-1-c)/II idle (k-1-c) (k-1-c)*II idle (k-1-c) l:=by
 simp only [aL]
 rw [eT (by rw [span_len h hP c (by omega)];exact hl) (by rw [h.l2 _ (by omega)];exact hl)]
 unfold II
 grind
theorem uQ (h:Bu n m s A k idle) (hP:P.length=m):∀ c,c<=k->∀ l,k<=l->l<m->vf (aL idle k P c) l=vf P l
 | 0,_,_,_,_=>rfl
 | c+1,hc,l,h1,h2=>by
  rw [oV h hP (by omega) h2,h.zero _ (by omega) l (by omega) h2,uQ h hP c (by omega) l h1 h2];simp
theorem yn (h:Bu n m s A k idle) (hP:P.length=m) (hm:k<=m):∀ c,c<=k->∀ l,k-c<=l->l<k->0<=vf (aL idle k P c) l/\vf (aL idle k P c) l<II idle l l
 | 0,_,l,h1,h2=>by omega
 | c+1,hc,l,h1,h2=>by
  rw [oV h hP (by omega) (by omega)]
  rcases Nat.lt_or_ge (k-1-c) l with q | q
  ·rw [h.zero _ (by omega) l q (by omega),Int.mul_zero,Int.sub_zero]
   exact yn h hP hm c (by omega) l (by omega) h2
  ·obtain rfl:l=k-1-c:=by omega
   have p:=h.pos (k-1-c) (by omega)
   have e:=Int.emod_def (vf (aL idle k P c) (k-1-c)) (II idle (k-1-c) (k-1-c))
   rw [Int.mul_comm (vf (aL idle k P c) (k-1-c)/_),← e]
   exact ⟨Int.emod_nonneg _ (by omega),Int.emod_lt_of_pos _ p⟩
theorem uV (h:Bu n m s A k idle) (hP:P.length=m) {v:cj} (hv:Led n s m A v (vf P)):∀ c,c<=k->Led n s m A v (vf (aL idle k P c))
 | 0,_=>hv
 | c+1,hc=>by
  refine Led.mix (a:=1) (b:=-(vf (aL idle k P c) (k-1-c)/II idle (k-1-c) (k-1-c))) (uV h hP hv c (by omega)) (h.uL (k-1-c) (by omega)) (fun i hi=>?_) fun l hl=>?_
  ·rw [Int.mul_zero,Int.add_zero,Int.one_mul,Int.sub_self];exact Int.dvd_zero _
  ·rw [oV h hP (by omega) hl];grind
theorem yu (h:Bu n m s A k idle) (hP:P.length=m) (hm:k<=m) {B:Nat} (hB:60<=B) (hb:Bd B P):∀ c,c<=k->Bd (B+62*c) (aL idle k P c)
 | 0,_=>hb
 | c+1,hc=>by
  have ih:=yu h hP hm hB hb c (by omega)
  intro x hx
  obtain ⟨l,hl,rfl⟩:=List.mem_iff_getElem.mp hx
  rw [span_len h hP (c+1) hc] at hl
  rw [← aR,oV h hP (by omega) hl]
  have p:=h.pos (k-1-c) (by omega)
  have q1:(vf (aL idle k P c) (k-1-c)/II idle (k-1-c) (k-1-c)).natAbs<2^(B+62*c+1):=by
   have h1:=ih.vf (k-1-c)
   have h2:=Int.natAbs_ediv_le_natAbs (vf (aL idle k P c) (k-1-c)) (II idle (k-1-c) (k-1-c))
   rw [Nat.pow_succ];omega
  have q2:(II idle (k-1-c) l).natAbs<2^60:=(h.bd (j:=k-1-c) (by omega) hm).vf l
  have q3:=xq q1 q2
  have q4:=ih.vf l
  have q5:2^(B+62*c)<=2^(B+62*c+1+60):=Nat.pow_le_pow_right (by decide) (by omega)
  have q6:(2:Nat)^(B+62*(c+1))=2^(B+62*c+1+60)*2:=by rw [← Nat.pow_succ];congr 1
  rw [q6];omega
end
section
variable {c:Int->Int->Int×Int} {sizes:List Int} {rows:List Row} {left:Row} {n m k:Nat} {A:Nat->cj}
theorem Tk.order {s:cj} {D D' L:Nat->cj} {u v g:Nat->Int} (t:Tk n s D D' L u v g) (Gd:Good n s D):∀ (k d:Nat) (x:Int),d+k=n->G n s D k d (fun i=>x*L d i)->a0 n (fun e=>aQ s D e/g e)∣x*a0 d (fun e=>aQ s D e/g e)
 | 0,d,x,hn,h=>by
  obtain rfl:d=n:=by omega
  exact Int.dvd_mul_left _ _
 | k+1,d,x,hn,h=>by
  have hd:d<n:=by omega
  obtain ⟨a,ha⟩:=t.g1 d hd
  obtain ⟨b,hb⟩:=t.g2 d hd
  have gp:=t.gp d hd
  have sp:=(Gd.pos hd).1
  have e1:aQ s D d/g d=a:=by rw [ha];exact Int.mul_ediv_cancel_left a (by omega)
  have e2:L d d/g d=b:=by rw [hb];exact Int.mul_ediv_cancel_left b (by omega)
  have bz:u d*a+v d*b=1:=by
   have:=t.bz d hd
   rw [ha,hb,show u d*(g d*a)+v d*(g d*b)=g d*(u d*a+v d*b) by grind] at this
   have h2:g d*(u d*a+v d*b)=g d*1:=by omega
   exact Int.eq_of_mul_eq_mul_left (by omega) h2
  obtain ⟨q,hq⟩:=h.1
  have hax:a∣x:=by
   have h3:g d*(x*b)=g d*(a*q):=by
    have:x*L d d=aQ s D d*q:=hq
    rw [hb,ha] at this;grind
   have h4:x*b=a*q:=Int.eq_of_mul_eq_mul_left (by omega) h3
   exact ⟨u d*x+v d*q,by
    have:x=x*(u d*a+v d*b):=by rw [bz,Int.mul_one]
    rw [this]
    have:x*(u d*a+v d*b)=a*(u d*x)+v d*(x*b):=by grind
    rw [this,h4];grind⟩
  obtain ⟨y,hy⟩:=hax
  have hq2:q=b*y:=by
   have h3:g d*(a*q)=g d*(a*(b*y)):=by
    have:x*L d d=aQ s D d*q:=hq
    rw [hb,ha,hy] at this;grind
   have ap:a≠0:=by intro z;rw [z,Int.mul_zero] at ha;omega
   exact Int.eq_of_mul_eq_mul_left ap (Int.eq_of_mul_eq_mul_left (by omega) h3)
  have h2:=h.2
  have q1:x*L d d/aQ s D d=q:=by
   show x*L d d/aQ s D d=q
   rw [show x*L d d=aQ s D d*q from hq];exact Int.mul_ediv_cancel_left q (by omega)
  have:=t.order Gd k (d+1) y (by omega) (Gd.wt (by omega) (fun i hi=>?_) h2)
  ·rw [a0,e1] at this
   rw [hy,show a*y*a0 d (fun e=>aQ s D e/g e)=y*(a0 d (fun e=>aQ s D e/g e)*a) by grind]
   exact this
  ·show s i∣y*L (d+1) i-(x*L d i-x*L d d/aQ s D d*D d i)
   rw [q1,t.Jn d hd i hi,e1,e2]
   obtain ⟨z,hz⟩:=eh (a*L d i+-b*D d i) (s i)
   refine ⟨y*z,?_⟩
   have:(a*L d i+-b*D d i)%s i=a*L d i+-b*D d i+s i*z:=by omega
   rw [this,hy,hq2];grind
theorem G.sum (Gd:Good n (vf sizes) (DD rows)) {P:cj}:∀ k',(∀ l,l<k'->G n (vf sizes) (DD rows) n 0 (A l))->G n (vf sizes) (DD rows) n 0 (fun i=>dh k' fun l=>P l*A l i)
 | 0,_=>G.zero (by omega)
 | k'+1,h=>G.ext (by omega) (fun i _=>rfl) (G.add (by omega) (G.sum Gd k' fun l hl=>h l (by omega)) (G.mul (P k') (by omega) (h k' (by omega))))
end
end Rg
namespace Rg
def n8 (m k:Nat):List Int:=(List.range m).map fun l=>if l=k then 1 else 0
theorem vI {m k l:Nat} (h:l<m):vf (n8 m k) l=if l=k then 1 else 0:=by
 rw [aR (by simp [n8,h])];simp [n8]
def AA (Ls:List (List Int)):Nat->cj:=fun l=>vf (Ls.getD l [])
def bA (Ls:List (List Int)) (m k:Nat):Row:=(Ls.getD k [],n8 m k)
def RK (c:Int->Int->Int×Int) (sizes:List Int) (Ls:List (List Int)) (n m:Nat):Nat->List Row×List (List Int)
 | 0=>(List.replicate n (List.replicate n 0,List.replicate m 0),[])
 | k+1 =>
  (bY c sizes (RK c sizes Ls n m k).1 (bA Ls m k) n,(RK c sizes Ls n m k).2++[aL (RK c sizes Ls n m k).2 k (az c sizes (RK c sizes Ls n m k).1 (bA Ls m k) n).2 k])
structure I_ (n m:Nat) (sizes:List Int) (Ls:List (List Int)):Prop where
 len:Ls.length=m
 at_:∀ l,l<m->(Ls.getD l []).length=n
 kz:∀ l,l<m->∀ i,i<n->0<=AA Ls l i/\AA Ls l i<vf sizes i
structure B7 (n m:Nat) (sizes:List Int) (Ls:List (List Int)) (k:Nat) (r:List Row×List (List Int)):Prop where
 st:St n m sizes (AA Ls) k r.1
 uL:Bu n m (vf sizes) (AA Ls) k r.2
 pr:a0 k (fun j=>II r.2 j j)*a0 n (aQ (vf sizes) (DD r.1))=a0 n (vf sizes)
 ord:∀ j,j<k->∀ P:cj,Zf (j+1) m P->Led n (vf sizes) m (AA Ls) (fun _=>0) P->II r.2 j j∣P j
section
variable {c:Int->Int->Int×Int} {sizes:List Int} {Ls:List (List Int)} {n m k:Nat}
theorem iL {idle:List (List Int)} {x:List Int} {j:Nat} (h:j<idle.length):II (idle++[x]) j=II idle j:=by
 unfold II
 rw [List.getD_eq_getElem?_getD,List.getElem?_append_left h,← List.getD_eq_getElem?_getD]
theorem ke {idle:List (List Int)} {x:List Int}:II (idle++[x]) idle.length=vf x:=by
 unfold II
 rw [List.getD_eq_getElem?_getD,List.getElem?_append_right (Nat.le_refl _)];simp
theorem Ay {idle:List (List Int)} {x:List Int} {j:Nat} (h:j<idle.length):(idle++[x]).getD j []=idle.getD j []:=by
 rw [List.getD_eq_getElem?_getD,List.getElem?_append_left h,← List.getD_eq_getElem?_getD]
theorem Az {idle:List (List Int)} {x:List Int}:(idle++[x]).getD idle.length []=x:=by
 rw [List.getD_eq_getElem?_getD,List.getElem?_append_right (Nat.le_refl _)];simp
theorem pY {f:Nat->Int} {k:Nat}:∀ {m:Nat},k<m->(∀ l,k<l->l<m->f l=0)->dh m f=dh k f+f k
 | 0,h,_=>by omega
 | m+1,h,e=>by
  rw [dh]
  by_cases z:k=m
  ·subst z;rfl
  ·rw [pY (m:=m) (by omega) fun l h1 h2=>e l h1 (by omega),e m (by omega) (by omega)];omega
theorem wc:∀ {n:Nat} {f:Nat->Int},(∀ i,i<n->0<f i/\f i<=360)->a0 n f<=360^n
 | 0,f,_=>by simp [a0]
 | n+1,f,h=>by
  rw [a0,Int.pow_succ]
  exact Int.mul_le_mul (wc fun i hi=>h i (by omega)) (h n (by omega)).2 (by have:=(h n (by omega)).1;omega) (Int.pow_nonneg (by decide))
theorem Nz {n:Nat} (h:n<=6):(360:Int)^n<=360^6:=by
 have:n=0\/n=1\/n=2\/n=3\/n=4\/n=5\/n=6:=by omega
 rcases this with rfl | rfl | rfl | rfl | rfl | rfl | rfl <;> decide
theorem B7.next {r:List Row×List (List Int)} (h:B7 n m sizes Ls k r) (LL:I_ n m sizes Ls) (cb:CB c) (hn:n<=6) (hk:k<m) :
  B7 n m sizes Ls (k+1) (bY c sizes r.1 (bA Ls m k) n,r.2++[aL r.2 k (az c sizes r.1 (bA Ls m k) n).2 k]):=by
 have L:Lv n m sizes (AA Ls) k (bA Ls m k):=⟨LL.at_ k hk,by simp [bA,n8],hk,fun i hi=>rfl,LL.kz k hk,fun l hl=>vI hl⟩
 have T:=h.st.tk L cb
 have ll:=cJ (c:=c) h.st.wf h.st.hs L.l1 L.l2 n (Nat.le_refl _)
 have zf:=t_ (c:=c) h.st L n (Nat.le_refl _)
 have led:=pf (c:=c) h.st L n (Nat.le_refl _)
 have l0:=T.zero h.st.gd n (Nat.le_refl _)
 have il:r.2.length=k:=h.uL.len
 have out:=uQ h.uL ll.2 k (Nat.le_refl _)
 have jk:vf (aL r.2 k (az c sizes r.1 (bA Ls m k) n).2 k) k=a0 n fun e=>aQ (vf sizes) (DD r.1) e/(Int.gcd (aQ (vf sizes) (DD r.1) e) (vf (az c sizes r.1 (bA Ls m k) e).1 e):Nat):=by
  rw [out k (Nat.le_refl _) hk];exact zf.2
 have pos:∀ e,e<n->0<aQ (vf sizes) (DD r.1) e/(Int.gcd (aQ (vf sizes) (DD r.1) e) (vf (az c sizes r.1 (bA Ls m k) e).1 e):Nat):=fun e he=>by
  have p:=h.st.gd.pos he
  have s:=h.st.sm e he
  exact (kl p.1 (by omega)).1
 have pr:a0 (k+1) (fun j=>II (r.2++[aL r.2 k (az c sizes r.1 (bA Ls m k) n).2 k]) j j)*a0 n (aQ (vf sizes) (DD (bY c sizes r.1 (bA Ls m k) n)))=a0 n (vf sizes):=by
  rw [a0,show II (r.2++[aL r.2 k (az c sizes r.1 (bA Ls m k) n).2 k]) k=vf (aL r.2 k (az c sizes r.1 (bA Ls m k) n).2 k) by rw [← il];exact ke]
  rw [iW (g:=fun j=>II r.2 j j) fun j hj=>by rw [iL (by omega)],← h.pr,jk]
  rw [iW (g:=fun d=>((Int.gcd (aQ (vf sizes) (DD r.1) d) (vf (az c sizes r.1 (bA Ls m k) d).1 d):Nat):Int)) fun d hd=>T.step h.st.gd hd]
  rw [si (f:=aQ (vf sizes) (DD r.1)) (g:=fun d=>((Int.gcd (aQ (vf sizes) (DD r.1) d) (vf (az c sizes r.1 (bA Ls m k) d).1 d):Nat):Int)) (h:=fun e=>aQ (vf sizes) (DD r.1) e/(Int.gcd (aQ (vf sizes) (DD r.1) e) (vf (az c sizes r.1 (bA Ls m k) e).1 e):Nat)) fun d hd=>(Int.mul_ediv_cancel' (Int.gcd_dvd_left ..)).symm]
  grind
 have jpos:0<vf (aL r.2 k (az c sizes r.1 (bA Ls m k) n).2 k) k:=by rw [jk];exact kO pos
 have St':=h.st.next L cb hn
 have jle:vf (aL r.2 k (az c sizes r.1 (bA Ls m k) n).2 k) k<2^60:=by
  have b:a0 n (vf sizes)<=360^n:=wc fun i hi=>⟨h.st.gd.sp i hi,h.st.sm i hi⟩
  have b2:(360:Int)^n<=360^6:=Nz hn
  have b3:(360:Int)^6<2^60:=by decide
  rw [a0,show II (r.2++[aL r.2 k (az c sizes r.1 (bA Ls m k) n).2 k]) k=vf (aL r.2 k (az c sizes r.1 (bA Ls m k) n).2 k) by rw [← il];exact ke] at pr
  have p1:0<a0 k (fun j=>II (r.2++[aL r.2 k (az c sizes r.1 (bA Ls m k) n).2 k]) j j):=kO fun j hj=>by rw [iL (by omega)];exact h.uL.pos j hj
  have p2:0<a0 n (aQ (vf sizes) (DD (bY c sizes r.1 (bA Ls m k) n))):=kO fun d hd=>(St'.gd.pos hd).1
  generalize a0 k (fun j=>II (r.2++[aL r.2 k (az c sizes r.1 (bA Ls m k) n).2 k]) j j)=a at *
  generalize a0 n (aQ (vf sizes) (DD (bY c sizes r.1 (bA Ls m k) n)))=b' at *
  generalize vf (aL r.2 k (az c sizes r.1 (bA Ls m k) n).2 k) k=x at *
  have e1:1*x<=a*x:=Int.mul_le_mul_of_nonneg_right (by omega) (by omega)
  have e2:a*x*1<=a*x*b':=Int.mul_le_mul_of_nonneg_left (by omega) (by omega)
  omega
 refine ⟨St',⟨by simp [il],fun j hj=>?_,fun j hj=>?_,fun j hj=>?_,fun j hj l h1 h2=>?_,fun j hj l hl=>?_,fun j hj=>?_⟩,pr,fun j hj P hz hP=>?_⟩
 all_goals
  rcases Nat.lt_or_ge j k with q | q
 ·rw [Ay (by omega)];exact h.uL.l2 j q
 ·obtain rfl:j=r.2.length:=by omega
  rw [Az];exact span_len h.uL ll.2 k (Nat.le_refl _)
 ·rw [iL (by omega)];exact h.uL.pos j q
 ·obtain rfl:j=r.2.length:=by omega
  rw [ke,il];exact jpos
 ·rw [iL (by omega)];exact h.uL.le j q
 ·obtain rfl:j=r.2.length:=by omega
  rw [ke,il];exact jle
 ·rw [iL (by omega)];exact h.uL.zero j q l h1 h2
 ·obtain rfl:j=r.2.length:=by omega
  rw [ke,out l (by omega) h2];exact zf.1 l (by omega) h2
 ·rw [iL (by omega),iL (by omega)];exact h.uL.nf j q l hl
 ·obtain rfl:j=r.2.length:=by omega
  rw [ke,iL (by omega)];exact yn h.uL ll.2 (by omega) k (Nat.le_refl _) l (by omega) (by omega)
 ·rw [iL (by omega)];exact h.uL.uL j q
 ·obtain rfl:j=r.2.length:=by omega
  rw [ke]
  refine uV h.uL ll.2 (fun i hi=>?_) k (Nat.le_refl _)
  have:=led i hi
  rw [show vf (az c sizes r.1 (bA Ls m k) n).1 i=0 from l0 i hi] at this
  exact this
 ·rw [iL (by omega)];exact h.ord j q P hz hP
 ·obtain rfl:j=k:=by omega
  rw [show II (r.2++[aL r.2 j (az c sizes r.1 (bA Ls m j) n).2 j]) j=vf (aL r.2 j (az c sizes r.1 (bA Ls m j) n).2 j) by rw [← il];exact ke,jk]
  have:=T.order h.st.gd n 0 (P j) (by omega) ?_
  ·rwa [a0,Int.mul_one] at this
  ·refine h.st.gd.wt (by omega) (fun i hi=>?_) (G.mul (-1) (by omega) (G.sum (A:=AA Ls) (P:=P) h.st.gd j h.st.cl))
   have e:=hP i hi
   rw [pY hk fun l h1 h2=>by rw [hz l (by omega) h2,Int.zero_mul]] at e
   obtain ⟨x,hx⟩:=e
   have hx:(0:Int)-(dh j (fun l=>P l*AA Ls l i)+P j*AA Ls j i)=vf sizes i*x:=hx
   show vf sizes i∣P j*AA Ls j i - -1*dh j fun l=>P l*AA Ls l i
   exact ⟨-x,by rw [Int.mul_neg];omega⟩
theorem B7.start (hs:sizes.length=n) (hp:∀ i,i<n->0<vf sizes i/\vf sizes i<=360):B7 n m sizes Ls 0 (List.replicate n (List.replicate n 0,List.replicate m 0),[]):=by
 have rw0:∀ d,d<n->row (List.replicate n (List.replicate n 0,List.replicate m 0)) d=(List.replicate n 0,List.replicate m 0):=fun d hd=>by
  rw [je (by simpa using hd)];simp
 have D0:∀ d,d<n->∀ i,DD (List.replicate n (List.replicate n 0,List.replicate m 0)) d i=0:=fun d hd i=>by
  unfold DD;rw [rw0 d hd];exact uA n i
 have P0:∀ d,d<n->∀ i,PP (List.replicate n (List.replicate n 0,List.replicate m 0)) d i=0:=fun d hd i=>by
  unfold PP;rw [rw0 d hd];exact uA m i
 have st:∀ d,d<n->aQ (vf sizes) (DD (List.replicate n (List.replicate n 0,List.replicate m 0))) d=vf sizes d:=fun d hd=>by
  unfold aQ;rw [if_pos (D0 d hd d)]
 refine ⟨⟨⟨by simp,fun r hr=>by rw [List.eq_of_mem_replicate hr];simp,fun r hr=>by rw [List.eq_of_mem_replicate hr];simp⟩,hs,fun i hi=>(hp i hi).2,⟨fun i hi=>(hp i hi).1,fun d hd i hi=>?_,fun d hd i hi=>D0 d hd i,fun d hd=>by rw [st d hd];exact Int.dvd_refl _,fun d k hn=>?_⟩,fun d hd i hi=>?_,fun d hd l _ _=>P0 d hd l,fun d hd=>?_,fun l hl=>by omega⟩,⟨rfl,fun j hj=>by omega,fun j hj=>by omega,fun j hj=>by omega,fun j hj=>by omega,fun j hj=>by omega,fun j hj=>by omega⟩,?_,fun j hj=>by omega⟩
 ·rw [D0 d hd i];have:=(hp i hi).1;omega
 ·exact G.ext (by omega) (fun i hi=>by rw [D0 d (by omega) i,Int.mul_zero]) (G.zero (by omega))
 ·rw [D0 d hd i,gL (g:=fun _=>0) fun l hl=>by rw [P0 d hd l,Int.zero_mul],kG];exact Int.dvd_zero _
 ·rw [rw0 d hd]
  intro x hx
  rw [List.eq_of_mem_replicate hx];exact Nat.two_pow_pos _
 ·rw [a0,Int.one_mul];exact iW fun d hd=>st d hd
theorem B7.all (hs:sizes.length=n) (hp:∀ i,i<n->0<vf sizes i/\vf sizes i<=360) (LL:I_ n m sizes Ls) (cb:CB c) (hn:n<=6):∀ k,k<=m->B7 n m sizes Ls k (RK c sizes Ls n m k)
 | 0,_=>B7.start hs hp
 | k+1,hk=>(B7.all hs hp LL cb hn k (by omega)).next LL cb hn (by omega)
end
end Rg
namespace Rg
section
variable {n:Nat} {s:cj} {D:Nat->cj}
end
end Rg
namespace Rg
def hG (n:Nat) (s:cj) (Q:Int) (w v:cj):Int:=dh n fun i=>w i*v i*(Q/s i)
section
variable {n:Nat} {s:cj} {D:Nat->cj} {Q:Int} {w v u:cj}
theorem uf (a b:Int) {x:cj} (h:∀ i,i<n->x i=a*v i+b*u i):hG n s Q w x=a*hG n s Q w v+b*hG n s Q w u :=
 jR a b _ _ _ n fun i hi=>by rw [h i hi];grind
theorem wq {f:Nat->Int} {q:Int}:∀ {m:Nat},(∀ l,l<m->q∣f l)->q∣dh m f
 | 0,_=>Int.dvd_zero _
 | m+1,h=>Int.dvd_add (wq fun l hl=>h l (by omega)) (h m (by omega))
theorem BF (hq:∀ i,i<n->s i∣Q) (h:∀ i,i<n->s i∣v i):Q∣hG n s Q w v:=wq fun i hi=>by
 obtain ⟨c,hc⟩:=h i hi
 obtain ⟨e,he⟩:=hq i hi
 by_cases z:s i=0
 ·rw [hc,z];simp
 ·rw [hc,he,Int.mul_ediv_cancel_left _ z]
  exact ⟨w i*c,by grind⟩
theorem BG (hq:∀ i,i<n->s i∣Q):∀ (k d:Nat) (v:cj),d+k=n->(∀ b,d<=b->b<n->Q∣hG n s Q w (D b))->G n s D k d v->Q∣hG n s Q w v
 | 0,d,v,_,_,g=>BF hq g
 | k+1,d,v,hn,hD,g=>by
  have h1:=BG hq k (d+1) _ (by omega) (fun b h1 h2=>hD b (by omega) h2) g.2
  have h2:=hD d (Nat.le_refl _) (by omega)
  have e:=uf (s:=s) (Q:=Q) (w:=w) (n:=n) 1 (v d/aQ s D d) (v:=fun i=>v i-v d/aQ s D d*D d i) (u:=D d) (x:=v) fun i _=>by omega
  rw [e]
  exact Int.dvd_add (Int.dvd_trans h1 (Int.dvd_mul_left _ _)) (Int.dvd_trans h2 (Int.dvd_mul_left _ _))
theorem ES {c:Nat} (hc:c<n) {x:Int} {w':cj} (h0:w c=0) (h1:w' c=x) (h2:∀ i,i<n->i≠c->w' i=w i):hG n s Q w' v=hG n s Q w v+x*v c*(Q/s c):=by
 have e1:hG n s Q w' v=1*hG n s Q w v+1*dh n fun i=>if i=c then x*v c*(Q/s c) else 0:=jR 1 1 _ _ _ n fun i hi=>by
  by_cases z:i=c
  ·rw [z,h1,h0];simp
  ·rw [h2 i hi z];simp [z]
 have e2:=iQ c (x*v c*(Q/s c)) n hc (fun i=>if i=c then x*v c*(Q/s c) else 0) fun _ _=>rfl
 rw [e1,e2];omega
theorem Ca (h:∀ i,i<n->w i*v i=0):hG n s Q w v=0:=by
 unfold hG
 rw [gL (g:=fun _=>0) fun i hi=>by rw [h i hi];simp,kG]
def gg (s:cj) (D:Nat->cj) (d:Nat):Int:=s d/aQ s D d
theorem jg (g:Good n s D) {d:Nat} (h:d<n):gg s D d*aQ s D d=s d/\0<gg s D d/\gg s D d<=s d:=by
 have p:=g.pos h
 obtain ⟨c,hc⟩:=g.dv d h
 have e:gg s D d=c:=by unfold gg;rw [hc,Int.mul_ediv_cancel_left _ (by omega)]
 have sp:=g.sp d h
 have c0:0<c:=by
  rcases Int.lt_trichotomy c 0 with q | q | q
  ·have:=Int.mul_neg_of_pos_of_neg p.1 q;omega
  ·rw [q] at hc;omega
  ·exact q
 refine ⟨by rw [e,hc,Int.mul_comm],by omega,?_⟩
 rw [e]
 have:1*c<=aQ s D d*c:=Int.mul_le_mul_of_nonneg_right (by omega) (by omega)
 omega
structure Wk (n:Nat) (s:cj) (D:Nat->cj) (Q:Int) (dial a:Nat) (w:cj):Prop where
 Kl:∀ i,dial<i->i<n->w i=0
 at_:w dial=gg s D dial%s dial
 ah:∀ i,a<=i->i<dial->0<=w i/\w i<gg s D i
 no:∀ i,i<a->w i=0
 kill:∀ b,a<=b->b<n->Q∣hG n s Q w (D b)
theorem Wk.start (g:Good n s D) (hq:∀ i,i<n->s i∣Q) {dial:Nat} (hd:dial<n) {w:cj} (h:∀ i,i<n->w i=if i=dial then gg s D dial%s dial else 0):Wk n s D Q dial dial w where
 Kl:=fun i h1 h2=>by rw [h i h2,if_neg (by omega)]
 at_:=by rw [h dial hd,if_pos rfl]
 ah:=fun i h1 h2=>by omega
 no:=fun i hi=>by rw [h i (by omega),if_neg (by omega)]
 kill:=fun b h1 h2=>by
  by_cases z:b=dial
  ·subst z
   obtain ⟨f1,f2,f3⟩:=jg g h2
   obtain ⟨e,he⟩:=hq b h2
   obtain ⟨x,hx⟩:=g.diag h2
   obtain ⟨y,hy⟩:=eh (gg s D b) (s b)
   have sp:=g.sp b h2
   have e1:hG n s Q w (D b)=1*dh n (fun i=>if i=b then (gg s D b%s b)*D b b*(Q/s b) else 0)+0*0:=by
    have:=jR 1 0 (fun i=>if i=b then (gg s D b%s b)*D b b*(Q/s b) else 0) (fun _=>0) (fun i=>w i*D b i*(Q/s i)) n fun i hi=>by
     rw [h i hi]
     by_cases z:i=b
     ·subst z;simp
     ·simp [z]
    rw [show hG n s Q w (D b)=dh n fun i=>w i*D b i*(Q/s i) from rfl,this];omega
   rw [e1,iQ b _ n h2 _ fun _ _=>rfl,he,Int.mul_ediv_cancel_left _ (by omega)]
   have hy':gg s D b%s b=gg s D b+s b*y:=by omega
   have hx':D b b=aQ s D b+s b*x:=by omega
   refine ⟨1+gg s D b*x+y*D b b,?_⟩
   rw [hy',hx']
   generalize gg s D b=F at *
   generalize aQ s D b=T at *
   generalize s b=S at *
   subst f1
   grind
  ·rw [Ca fun i hi=>?_]
   ·exact Int.dvd_zero _
   ·rcases Nat.lt_or_ge i b with q | q
    ·rw [g.wz b h2 i q];simp
    ·rw [h i hi,if_neg (by omega)];simp
theorem Wk.next (g:Good n s D) (hQ:0<Q) (hq:∀ i,i<n->s i∣Q) {dial c:Nat} (hd:dial<n) {w w':cj} (W:Wk n s D Q dial (c+1) w) (hc:c<dial) (h1:w' c=-(hG n s Q w (D c)%Q/(Q/gg s D c))%gg s D c) (h2:∀ i,i<n->i≠c->w' i=w i):Wk n s D Q dial c w':=by
 obtain ⟨f1,f2,f3⟩:=jg g (show c<n by omega)
 obtain ⟨e,he⟩:=hq c (by omega)
 have sp:=g.sp c (by omega)
 have sh:Q/gg s D c=aQ s D c*e:=by
  rw [he,← f1,Int.mul_assoc,Int.mul_ediv_cancel_left _ (by omega)]
 have hs:Q/s c=e:=by rw [he,Int.mul_ediv_cancel_left _ (by omega)]
 have fQ:gg s D c*(aQ s D c*e)=Q:=by rw [← Int.mul_assoc,f1,he]
 have sh0:0<aQ s D c*e:=by
  rcases Int.lt_trichotomy (aQ s D c*e) 0 with q | q | q
  ·have:=Int.mul_neg_of_pos_of_neg f2 q;omega
  ·rw [q] at fQ;omega
  ·exact q
 have cl:=g.JJ c (n-(c+1)) (by omega)
 have k1:=BG (w:=w) hq (n-(c+1)) (c+1) _ (by omega) (fun b h1 h2=>W.kill b h1 h2) cl
 rw [uf (s:=s) (Q:=Q) (w:=w) (n:=n) (gg s D c) 0 (v:=D c) (u:=D c) (x:=fun i=>s c/aQ s D c*D c i) fun i _=>by unfold gg;omega] at k1
 obtain ⟨x,hx⟩:=k1
 have dv:(aQ s D c*e)∣hG n s Q w (D c):=⟨x,by
  have:gg s D c*hG n s Q w (D c)=gg s D c*(aQ s D c*e*x):=by
   rw [← Int.mul_assoc,fQ];omega
  exact Int.eq_of_mul_eq_mul_left (by omega) this⟩
 have ed:=Int.emod_def (hG n s Q w (D c)) Q
 have dv2:(aQ s D c*e)∣hG n s Q w (D c)%Q:=by
  rw [ed]
  exact Int.dvd_sub dv (Int.dvd_trans ⟨gg s D c,by rw [Int.mul_comm];exact fQ.symm⟩ (Int.dvd_mul_right _ _))
 obtain ⟨q,hq'⟩:=dv2
 rw [sh] at h1
 have eq1:hG n s Q w (D c)%Q/(aQ s D c*e)=q:=by rw [hq',Int.mul_ediv_cancel_left _ (by omega)]
 rw [eq1] at h1
 obtain ⟨y,hy⟩:=eh (-q) (gg s D c)
 obtain ⟨z,hz⟩:=g.diag (show c<n by omega)
 refine ⟨fun i a b=>?_,?_,fun i a b=>?_,fun i a=>?_,fun b a1 a2=>?_⟩
 ·rw [h2 i b (by omega)];exact W.Kl i a b
 ·rw [h2 dial hd (by omega)];exact W.at_
 ·by_cases q2:i=c
  ·rw [q2,h1]
   exact ⟨Int.emod_nonneg _ (by omega),Int.emod_lt_of_pos _ f2⟩
  ·rw [h2 i (by omega) q2];exact W.ah i (by omega) b
 ·rw [h2 i (by omega) (by omega)];exact W.no i (by omega)
 ·rw [ES (w:=w) (show c<n by omega) (W.no c (by omega)) rfl h2]
  by_cases q2:b=c
  ·subst q2
   rw [hs]
   have e1:w' b=-q+gg s D b*y:=by omega
   have e2:D b b=aQ s D b+s b*z:=by omega
   have e3:hG n s Q w (D b)=Q*(hG n s Q w (D b)/Q)+aQ s D b*e*q:=by omega
   refine ⟨hG n s Q w (D b)/Q+y+w' b*z,?_⟩
   rw [e2]
   generalize hG n s Q w (D b)/Q=p at *
   rw [e3,e1]
   generalize gg s D b=F at *
   generalize aQ s D b=T at *
   generalize s b=S at *
   subst f1
   rw [he]
   grind
  ·rw [g.wz b a2 c (by omega)]
   simp only [Int.mul_zero,Int.zero_mul,Int.add_zero]
   exact W.kill b (by omega) a2
theorem Wk.first (g:Good n s D) (hQ:0<Q) (hq:∀ i,i<n->s i∣Q) {dial:Nat} (hd:dial<n) {w l:cj} (W:Wk n s D Q dial 0 w) (l0:∀ i,i<dial->l i=0) (l1:0<l dial) (l2:l dial<aQ s D dial):¬ Q∣hG n s Q w l:=by
 obtain ⟨f1,f2,f3⟩:=jg g hd
 obtain ⟨e,he⟩:=hq dial hd
 have sp:=g.sp dial hd
 have lt:gg s D dial<s dial:=by
  rcases Int.lt_or_eq_of_le f3 with q | q
  ·exact q
  ·rw [q] at f1
   have:aQ s D dial=1:=by
    have:s dial*aQ s D dial=s dial*1:=by rw [Int.mul_one];exact f1
    exact Int.eq_of_mul_eq_mul_left (by omega) this
   omega
 have wd:w dial=gg s D dial:=by rw [W.at_,Int.emod_eq_of_lt (by omega) lt]
 have e1:hG n s Q w l=dh n (fun i=>if i=dial then gg s D dial*l dial*e else 0):=gL fun i hi=>by
  by_cases z:i=dial
  ·rw [z,wd,he,Int.mul_ediv_cancel_left _ (by omega)];simp
  ·rcases Nat.lt_or_ge i dial with q | q
   ·rw [l0 i q];simp [z]
   ·rw [W.Kl i (by omega) hi];simp [z]
 rw [e1,iQ dial _ n hd _ fun _ _=>rfl]
 rintro ⟨c,hc⟩
 have e0:0<e:=by
  rcases Int.lt_trichotomy e 0 with q | q | q
  ·have:=Int.mul_neg_of_pos_of_neg sp q;omega
  ·rw [q] at he;omega
  ·exact q
 have e2:gg s D dial*e*l dial=gg s D dial*e*(aQ s D dial*c):=by
  rw [he,← f1] at hc
  grind
 have e3:l dial=aQ s D dial*c:=Int.eq_of_mul_eq_mul_left (by
  have:=Int.mul_pos f2 e0;omega) e2
 have:=kY (a:=l dial) (b:=aQ s D dial) (by omega) l2 ⟨c,e3⟩
 omega
end
end Rg
namespace wx
open PySem L2 PyProof.Rows Rg
local macro_rules | `(tactic| dsimp? [$ts,*])=>`(tactic| simp only [bb,aw,lP,ak,vL,uM,retS,aY,qO,lx,kA,ao,M.aM,M.bind_some,M.bind_none,M.CC,M.bind_assoc,aa,aj,ai,ae,aq,Dp,Em,Ie,HR,HW,Hb,GD,GY,HY,HE,FH,F_,Gs,Hn,F6,G5,du,jE,Ax,Dj,FP,DS,RF,yN,k8,JN,jo,EZ,itemsOf,jM,DG,DX,zA,Ep,EN,AK,B_,As,Eh,Es,Ck,vM,CQ,dN,dG,Fb,FY,List.length_cons,List.length_nil,List.map_cons,List.map_nil,List.cons_append,List.nil_append,List.replicate,List.getElem?_cons_zero,List.getElem?_cons_succ,List.getElem?_nil,List.set_cons_zero,List.set_cons_succ,List.set_nil,Nat.reduceAdd,Nat.reduceSub,if_true,if_false,Bool.not_true,Bool.not_false,Bool.false_eq_true,ite_true,ite_false,reduceIte,reduceCtorEq,Nat.sub_self,lO,eD,dI,Option.map_some,Option.map_none,zI,HZ,He,yE,EE,yA,Cq,ya,yg,EK,lR,List.any_cons,List.any_nil,String.reduceBEq,Bool.or_false,Bool.or_true,Bool.true_or,Bool.false_or,Bool.and_true,Bool.and_false,Bool.true_and,Bool.false_and,EV,EC,Gp,Ic,EU,Ey,Eb,Dt,Bg,Cj,fO,p5,List.foldl_cons,List.foldl_nil,tR,ax trivial,$(⟨ts.elemsAndSeps⟩),*])
theorem nL (i:Int):cI [.int i]=M.ok (.bl true):=by rfl
theorem Cz (b:Bool):cI [.bl b]=M.ok (.bl false):=by rfl
theorem zg:cI [.cS]=M.ok (.bl false):=by rfl
theorem xW {α:Type} {inj:α->PV} {h:α->Bool} {p:PV} (xs:List α) (n:Int) (hp:p=.tup (xs.map inj)\/p=.lst (xs.map inj)) (H:∀ a∈xs,cI [inj a]=M.ok (.bl (h a))) (hz:xs.length<=sizeLine):gi [p,.int n]=M.ok (.bl (decide ((xs.length:Int)=n)&&xs.all h)):=by
 have key:cB (cU 0) none (ai cI (ae (aa 0) aq)) (xs.map inj) [none]=M.ok (xs.map fun a=>.bl (h a)):=lU xs fun a ha=>by dsimp? [H a ha]
 have key2:uU [.lst (xs.map fun a=>.bl (h a))]=M.ok (.bl (xs.all h)):=by
  have:=vA (xs.map h)
  rw [List.map_map] at this
  rw [show (fun a=>PV.bl (h a))=PV.bl∘h from rfl,this]
  simp [List.all_map]
 unfold gi iY
 rcases hp with rfl | rfl
 all_goals
  dsimp? [List.length_map]
  by_cases e:(xs.length:Int)=n
  ·simp only [e,decide_true,Bool.not_true,M.aM,Bool.false_eq_true,if_false,vL,Bool.true_and]
   dsimp? [List.length_map,ax hz,key,key2]
  ·simp only [e,decide_false,Bool.not_false,M.aM,if_true,uM,Bool.false_and]
   dsimp? []
theorem HN (xs:List Int) (n:Int) (hz:xs.length<=sizeLine):gi [tI xs,.int n]=M.ok (.bl (decide ((xs.length:Int)=n))):=by
 exact (xW (p:=tI xs) (h:=fun _=>true) xs n (.inl rfl) (fun a _=>nL a) hz).trans (by rw [List.all_eq_true.mpr fun _ _=>rfl,Bool.and_true])
theorem F0 (xs:List Int) (n:Int) (hz:xs.length<=sizeLine):gi [lI xs,.int n]=M.ok (.bl (decide ((xs.length:Int)=n))):=by
 exact (xW (p:=lI xs) (h:=fun _=>true) xs n (.inr rfl) (fun a _=>nL a) hz).trans (by rw [List.all_eq_true.mpr fun _ _=>rfl,Bool.and_true])
theorem within_int (x a b:Int):bx [.int x,.int a,.int b]=M.ok (.bl (decide (a<=x/\x<=b))):=by
 unfold bx cF
 dsimp? [nL]
 by_cases h:a<=x
 ·simp only [h,decide_true,if_true,true_and];dsimp? []
 ·simp only [h,decide_false,false_and];dsimp? []
theorem rB (xs:List Int) (h1:1<=xs.length) (h6:xs.length<=6) (hx:∀ x∈xs,2<=x/\x<=360):fY [lI xs]=M.ok .cS:=by
 unfold fY dP
 have a1:¬ (6:Int)<xs.length:=by omega
 have a2:¬ (xs.length:Int)=0:=by omega
 dsimp? [a1,a2,decide_false,BU]
 refine dM xs.zipIdx (fun zs env=>(∃ b c,env=[some (.sh (lI xs)),b,c])/\∀ z∈zs,2<=z.1/\z.1<=360) ⟨⟨_,_,rfl⟩,fun z hz=>hx z.1 (List.fst_mem_of_mem_zipIdx hz)⟩ ?_ ?_
 ·rintro ⟨a,i⟩ r env ⟨⟨b,c,rfl⟩,hz⟩
  have ha:=hz (a,i) List.mem_cons_self
  refine ⟨_,[some (.sh (lI xs)),some (.sh (.int i)),some (.sh (.int a))],rfl,?_,⟨_,_,rfl⟩,fun z hz'=>hz z (List.mem_cons_of_mem _ hz')⟩
  dsimp? [within_int,ha,and_self,decide_true]
 ·rintro env' ⟨⟨b,c,rfl⟩,_⟩;rfl
theorem qu (n:Nat) (xs:List (List Int)) (h8:xs.length<=8) (hx:∀ x∈xs,x.length=n) (hn:n<=100):fc [.lst (xs.map lI),.int n]=M.ok .cS:=by
 unfold fc dA
 have a1:¬ (8:Int)<xs.length:=by omega
 dsimp? [a1,decide_false,List.length_map,oX]
 refine dM xs.zipIdx (fun zs env=>(∃ b c,env=[some (.sh (.lst (xs.map lI))),some (.sh (.int n)),b,c])/\∀ z∈zs,z.1.length=n) ⟨⟨_,_,rfl⟩,fun z hz=>hx z.1 (List.fst_mem_of_mem_zipIdx hz)⟩ ?_ ?_
 ·rintro ⟨a,i⟩ r env ⟨⟨b,c,rfl⟩,hz⟩
  have ha:a.length=n:=hz (a,i) List.mem_cons_self
  refine ⟨_,[some (.sh (.lst (xs.map lI))),some (.sh (.int n)),some (.sh (.int i)),some (.sh (lI a))],rfl,?_,⟨_,_,rfl⟩,fun z hz'=>hz z (List.mem_cons_of_mem _ hz')⟩
  dsimp? [F0 a n (aP (by omega)),ha,decide_true]
 ·rintro env' ⟨⟨b,c,rfl⟩,_⟩;rfl
theorem qK (n:Nat) (p:PV):(List.replicate n [p]).flatten=List.replicate n p:=by
 induction n with
 | zero=>rfl
 | succ n ih=>rw [List.replicate_succ,List.flatten_cons,ih];rfl
theorem mul_one (p:PV) (n:Nat) (h8:n<=1000):cD (.tup [p]) (.int (n:Int))=M.ok (.tup (List.replicate n p)):=by
 have h2:[p].length*(n:Int).toNat<=sizeLine:=by
  rw [Int.toNat_natCast]
  exact aP (by show 1*n<=1000;omega)
 have h3:(n:Int)<2^63:=Int.lt_of_le_of_lt (Int.ofNat_le.mpr h8) (by decide)
 have h4:-(2^63)<=(n:Int):=Int.le_trans (by decide) (Int.natCast_nonneg n)
 rw [cD,ax ⟨rfl,h4,h3,h2⟩,Int.toNat_natCast,qK]
theorem kM (xs:List PV) (h8:xs.length<=8):fS [.lst xs,.cS]=M.ok (tI (List.replicate xs.length 1)):=by
 unfold fS dW
 dsimp? [xh,u5,mul_one (.int 1) xs.length (by omega)]
 rw [tI,List.map_replicate]
def An (xs sizes:List Int):List Int:=(xs.zip sizes).map fun z=>z.1%z.2
theorem vv (p q:PV) (xs sizes:List Int) (hp:bS p=some (xs.map PV.int)) (hq:bS q=some (sizes.map PV.int)) (hs:∀ s∈sizes,0<s) (hz:xs.length<=1000):kU [p,q]=M.ok (tI (An xs sizes)):=by
 have key:cB (bC 0 1) none (aj cR (aa 0) (aa 1)) ((xs.zip sizes).map fun z=>.tup [.int z.1,.int z.2]) [none,none]=M.ok ((xs.zip sizes).map fun z=>.int (z.1%z.2)):=by
  refine j_ (p:=fun z:Int×Int=>PV.int z.1) (q:=fun z:Int×Int=>PV.int z.2) (xs.zip sizes) fun z hz=>?_
  have:=hs z.2 (List.of_mem_zip (a:=z.1) (b:=z.2) hz).2
  dsimp? [aI this]
 unfold kU kN
 have hl:(xs.zip sizes).length<=sizeLine:=by rw [List.length_zip];exact aP (Nat.le_trans (Nat.min_le_left _ _) hz)
 dsimp? [fy xs sizes hp hq,List.length_map,ax hl,key]
 rw [tI,An,List.map_map];rfl
theorem xo (a b c:PV):aJ (.tup [a,b,c]) (.int 0)=M.ok a:=bF (j:=0) rfl rfl
theorem Hf (a b c:PV):aJ (.tup [a,b,c]) (.int 1)=M.ok b:=bF (j:=1) rfl rfl
theorem F8 (a b c:PV):aJ (.tup [a,b,c]) (.int 2)=M.ok c:=bF (j:=2) rfl rfl
theorem sL (a b:Int) (ha:a.natAbs<2^60) (hb:b.natAbs<2^60):∃ s t,fw [.int a,.int b]=M.ok (.tup [.int (Int.gcd a b),.int s,.int t])/\s*a+t*b=Int.gcd a b/\s.natAbs<=b.natAbs+1/\t.natAbs<=a.natAbs+(b.natAbs+1)*a.natAbs+b.natAbs+1:=by
 let J:af->Prop:=fun env=>∃ r s t r' s' t' x y,env=[some (.sh (.int a)),some (.sh (.int b)),some (.sh ((PV.tup [PV.int r,PV.int s,PV.int t]))),some (.sh ((PV.tup [PV.int r',PV.int s',PV.int t']))),x,y]/\Eu.St a b r s t r' s' t'
 let m:af->Nat:=fun env=>match env with
  | [_,_,_,some (.sh (.tup [.int r,_,_])),_,_]=>r.natAbs
  | _=>0
 have hk:(b.natAbs+1)*a.natAbs<=2^60*2^60:=Nat.mul_le_mul (by omega) (by omega)
 have hk2:(2:Nat)^60*2^60=2^120:=by decide
 have start:J [some (.sh (.int a)),some (.sh (.int b)),some (.sh ((PV.tup [PV.int a,PV.int 1,PV.int 0]))),some (.sh ((PV.tup [PV.int b,PV.int 0,PV.int 1]))),none,none]:=⟨_,_,_,_,_,_,_,_,rfl,Eu.start a b⟩
 have loop:=sF (u:=du (aj l7 (aj aJ (aa 3) (fun _=>M.ok (.int 0))) (fun _=>M.ok (.int 0)))) (b:=(ak (aY 4 (aj bo (aj aJ (aa 2) (fun _=>M.ok (.int 0))) (aj aJ (aa 3) (fun _=>M.ok (.int 0)))))
  (ak (aY 5 (k_ (ae (aj lS (aj aJ (aa 2) (fun _=>M.ok (.int 0))) (aj cD (aa 4) (aj aJ (aa 3) (fun _=>M.ok (.int 0))))) (ae (aj lS (aj aJ (aa 2) (fun _=>M.ok (.int 1))) (aj cD (aa 4) (aj aJ (aa 3) (fun _=>M.ok (.int 1))))) (ae (aj lS (aj aJ (aa 2) (fun _=>M.ok (.int 2))) (aj cD (aa 4) (aj aJ (aa 3) (fun _=>M.ok (.int 2))))) aq)))))
  (ak (aY 2 (aa 3))
  (ak (aY 3 (aa 5))
  ao))))) J m ?_ _ start
 ·obtain ⟨env',e1,⟨r,s,t,r',s',t',x,y,rfl,st⟩,e2⟩:=loop
  have hr':r'=0:=by
   revert e2
   dsimp? [xo]
   intro e2
   have:(!decide (r'=0))=false:=by injection e2 with e2;injection e2
   simpa using this
  subst hr'
  obtain ⟨d1,d2⟩:=Eu.done st
  have hg:(r.natAbs:Int)=Int.gcd a b:=by
   have h1:r.natAbs∣Int.gcd a b:=Int.dvd_gcd (Int.natAbs_dvd.mpr d1) (Int.natAbs_dvd.mpr d2)
   have h2:((Int.gcd a b:Nat):Int)∣r:=by
    rw [st.c0]
    exact Int.dvd_add (Int.dvd_trans (Int.gcd_dvd_left ..) (Int.dvd_mul_left _ _)) (Int.dvd_trans (Int.gcd_dvd_right ..) (Int.dvd_mul_left _ _))
   have h3:Int.gcd a b∣r.natAbs:=Int.ofNat_dvd_left.mp h2
   rw [Nat.dvd_antisymm h1 h3]
  unfold fw iX
  dsimp? []
  rw [e1]
  dsimp? [xo,Hf,F8]
  by_cases hneg:r<0
  ·refine ⟨-s,-t,?_,?_,by rw [Int.natAbs_neg];exact st.b0,by rw [Int.natAbs_neg];exact st.d0⟩
   ·simp only [hneg,decide_true,if_true];dsimp? []
    rw [show -r=(Int.gcd a b:Int) by omega]
   ·have:=st.c0
    rw [Int.neg_mul,Int.neg_mul];omega
  ·refine ⟨s,t,?_,?_,st.b0,st.d0⟩
   ·simp only [hneg,decide_false,Bool.false_eq_true,if_false];dsimp? []
    rw [show r=(Int.gcd a b:Int) by omega]
   ·have:=st.c0;omega
 ·rintro env ⟨r,s,t,r',s',t',x,y,rfl,st⟩
  by_cases h0:r'=0
  ·refine .inl ?_
   dsimp? [xo]
   simp [h0]
  ·refine .inr ⟨?_,?_⟩
   ·dsimp? [xo]
    simp [h0]
   ·obtain ⟨st2,lt⟩:=Eu.turn st h0
    have b1:=st.m1;have b0:=st.m0;have c1:=st.b1;have c2:=st.d1;have c3:=st2.m1
    have q1:(r.fdiv r').natAbs<=r.natAbs+1:=by
     obtain ⟨f1,f2,f3⟩:=Eu.rY r r' h0
     generalize r.fdiv r'=q at *
     have e:q*r'=r-(r-q*r'):=by omega
     have e2:(q*r').natAbs<=r.natAbs+(r-q*r').natAbs:=by omega
     rw [Int.natAbs_mul] at e2
     have:q.natAbs*1<=q.natAbs*r'.natAbs:=Nat.mul_le_mul_left _ (by omega)
     rcases Nat.lt_or_ge (r.natAbs+1) q.natAbs with h | h
     ·have h5:(r.natAbs+2)*r'.natAbs<=q.natAbs*r'.natAbs:=Nat.mul_le_mul_right _ (by omega)
      have h6:r.natAbs*1<=r.natAbs*r'.natAbs:=Nat.mul_le_mul_left _ (by omega)
      rw [Nat.add_mul] at h5
      omega
     ·exact h
    have q2:(r.fdiv r').natAbs<2^200:=by omega
    refine ⟨[some (.sh (.int a)),some (.sh (.int b)),some (.sh ((PV.tup [PV.int r',PV.int s',PV.int t']))),some (.sh ((PV.tup [PV.int (r-r.fdiv r'*r'),PV.int (s-r.fdiv r'*s'),PV.int (t-r.fdiv r'*t')]))),some (.sh (.int (r.fdiv r'))),some (.sh ((PV.tup [PV.int (r-r.fdiv r'*r'),PV.int (s-r.fdiv r'*s'),PV.int (t-r.fdiv r'*t')])))],?_,⟨_,_,_,_,_,_,_,_,rfl,st2⟩,lt⟩
    dsimp? [xo,Hf,F8,nr h0 (Nat.lt_of_lt_of_le (show r'.natAbs<2^200 by omega) (Nat.pow_le_pow_right (by decide) (by decide))),aZ (k:=200) (l:=200) q2 (show r'.natAbs<2^200 by omega),aZ (k:=200) (l:=200) q2 (show s'.natAbs<2^200 by omega),aZ (k:=200) (l:=200) q2 (show t'.natAbs<2^200 by omega)]
def R (sizes:List Int):Int:=(Lc.A5 (sizes.map Int.toNat):Nat)
structure Sz (sizes:List Int):Prop where
 h1:1<=sizes.length
 h6:sizes.length<=6
 hx:∀ x∈sizes,2<=x/\x<=360
theorem uP {sizes:List Int} (h:Sz sizes):0<R sizes:=by
 refine Int.ofNat_lt.mpr (Lc.lcm_pos fun n hn=>?_)
 obtain ⟨x,hx,rfl⟩:=List.mem_map.mp hn
 have:=h.hx x hx;omega
theorem JA {sizes:List Int} (h:Sz sizes):R sizes<2^60:=by
 have h1:=Lc.qH 9 (sizes.map Int.toNat) 1 0 (by decide) (by decide) fun n hn=>by
  obtain ⟨x,hx,rfl⟩:=List.mem_map.mp hn
  have:=h.hx x hx;omega
 have h2:(2:Nat)^(0+9*(sizes.map Int.toNat).length)<=2^54:=Nat.pow_le_pow_right (by decide) (by rw [List.length_map];have:=h.h6;omega)
 have h3:Lc.A5 (sizes.map Int.toNat)<=2^54:=Nat.le_trans h1 h2
 unfold R;omega
theorem Jo {sizes:List Int} (h:Sz sizes) {x:Int} (hx:x∈sizes):x∣R sizes:=by
 have h1:=Lc.lcm_dvd (ns:=sizes.map Int.toNat) (List.mem_map.mpr ⟨x,hx,rfl⟩)
 have h2:=Int.ofNat_dvd.mpr h1
 rw [Int.toNat_of_nonneg (by have:=h.hx x hx;omega)] at h2
 exact h2
structure Acc (sizes r:List Int) (acc:Nat):Prop where
 pos:0<acc
 le:acc<=2^(9*(6-r.length))
 len:r.length<=6
 val:(r.map Int.toNat).foldl Nat.lcm acc=Lc.A5 (sizes.map Int.toNat)
 kz:∀ x∈r,2<=x/\x<=360
theorem Acc.start {sizes:List Int} (h:Sz sizes):Acc sizes sizes 1:=⟨by decide,Nat.one_le_two_pow,h.h6,rfl,h.hx⟩
theorem Acc.lt {sizes r:List Int} {acc:Nat} (h:Acc sizes r acc):acc<2^60:=by
 have h2:(2:Nat)^(9*(6-r.length))<=2^54:=Nat.pow_le_pow_right (by decide) (by omega)
 have:=h.le;omega
theorem Acc.turn {sizes r:List Int} {x:Int} {acc:Nat} (h:Acc sizes (x::r) acc):Acc sizes r (Nat.lcm acc x.toNat)/\(acc:Int)/(Int.gcd acc x:Nat)*x=(Nat.lcm acc x.toNat:Nat)/\(acc:Int)/(Int.gcd acc x:Nat)<=acc/\0<Int.gcd acc x:=by
 have hx:=h.kz x List.mem_cons_self
 have hp:=h.pos
 obtain ⟨n,rfl⟩:=Int.eq_ofNat_of_zero_le (show 0<=x by omega)
 have hg:Int.gcd (acc:Int) (n:Int)=Nat.gcd acc n:=rfl
 refine ⟨⟨Nat.lcm_pos hp (by omega),?_,?_,h.val,fun y hy=>h.kz y (List.mem_cons_of_mem _ hy)⟩,?_,?_,?_⟩
 ·have h1:Nat.lcm acc n<=acc*n:=Nat.le_of_dvd (Nat.mul_pos hp (by omega)) (Nat.lcm_dvd (Nat.dvd_mul_right ..) (Nat.dvd_mul_left ..))
  have h2:acc*n<=2^(9*(6-(r.length+1)))*2^9:=Nat.mul_le_mul h.le (by omega)
  have hl:r.length+1<=6:=h.len
  rw [← Nat.pow_add,show 9*(6-(r.length+1))+9=9*(6-r.length) by omega] at h2
  exact Nat.le_trans h1 h2
 ·have hl:r.length+1<=6:=h.len
  omega
 ·rw [hg,Int.toNat_natCast,← Lc.Co];norm_cast
 ·rw [hg]
  exact Int.ofNat_le.mpr (Nat.div_le_self acc (Nat.gcd acc n))
 ·rw [hg];exact Nat.gcd_pos_of_pos_left _ hp
theorem g8 (sizes:List Int) (h:Sz sizes):e9 [lI sizes]=M.ok (.int (R sizes)):=by
 unfold e9 dy
 dsimp? []
 refine dM sizes (fun r env=>∃ acc x,env=[some (.sh (lI sizes)),some (.sh (.int (acc:Nat))),x]/\Acc sizes r acc) ⟨1,_,rfl,.start h⟩ ?_ ?_
 ·rintro a r env ⟨acc,x,rfl,A⟩
  obtain ⟨A2,e1,e2,e3⟩:=A.turn
  have l1:=A.lt
  have ha:=A.kz a List.mem_cons_self
  obtain ⟨s,t,ec,_,_,_⟩:=sL (acc:Int) a (by omega) (by omega)
  have g1:Int.gcd acc a<=acc:=Nat.le_of_dvd A.pos (Int.ofNat_dvd.mp (Int.gcd_dvd_left ..))
  have d0:0<=(acc:Int)/(Int.gcd acc a:Nat):=Int.ediv_nonneg (by omega) (by omega)
  refine ⟨_,[some (.sh (lI sizes)),some (.sh (.int (Nat.lcm acc a.toNat:Nat))),some (.sh (.int a))],rfl,?_,_,_,rfl,A2⟩
  dsimp? [ec,xo,aH (i:=(acc:Int)) (show (0:Int)<(Int.gcd acc a:Nat) by omega) (show ((Int.gcd acc a:Nat):Int)<2^64 by omega),aZ (k:=64) (l:=64) (show ((acc:Int)/(Int.gcd acc a:Nat)).natAbs<2^64 by omega) (show a.natAbs<2^64 by omega),e1]
 ·rintro env' ⟨acc,x,rfl,A⟩
  dsimp? []
  have:=A.val
  rw [R,← this];rfl
def qZ (sizes:List Int) (levers:List (List Int)):List (Str×PV):=[("dial_sizes", tI sizes),("lever_settings", .tup (levers.map tI)),("lever_prices", tI (List.replicate levers.length 1)),("least_round", .int (R sizes))]
def iZ (sizes:List Int) (levers:List (List Int)):PV:=.obj aB (qZ sizes levers)
structure Iv (sizes xs:List Int):Prop where
 len:xs.length=sizes.length
 kz:∀ z∈xs.zip sizes,0<=z.1/\z.1<z.2
theorem u7 (f:Str) (p:PV):∀ fs:List (Str×PV),(uq f p fs).length<=fs.length+1
 | []=>by simp [uq]
 | (g,q)::r=>by
  have:=u7 f p r
  unfold uq
  split
  ·simp
  ·simp;omega
theorem i7 {f:Str} {p:PV} {fs:List (Str×PV)} {n:Nat} (h:fs.length<=n):(uq f p fs).length<=n+1:=Nat.le_trans (u7 f p fs) (by omega)
theorem i9 (a C:Addr) (f:Str) (p:PV) (fs:List (Str×PV)) (r:af) (h:fs.length<1000):Bi 0 C f p (some (.bd a C fs)::r)=M.ok (.nx (some (.bd a C (uq f p fs))::r)):=by
 show cC _ _=_
 rw [ax ⟨rfl,h⟩];rfl
theorem DL (sizes:List Int) (levers:List (List Int)) (h:Sz sizes) (h8:levers.length<=8) (hl:∀ l∈levers,l.length=sizes.length):jP aB hV [.cS] [lI sizes,.lst (levers.map lI)]=M.ok (iZ sizes (levers.map fun l=>An l sizes)):=by
 have key:∀ a,hV a ([lI sizes,.lst (levers.map lI)]++[.cS])=M.ok (qZ sizes (levers.map fun l=>An l sizes)):=by
  intro a
  have e1:cB (cU 0) none (ai kU (ae (aa 0) (ae (aa 1) aq))) (levers.map lI) [none,some (.sh (lI sizes))]=M.ok (levers.map fun l=>tI (An l sizes)):=by
   refine lU levers fun l hm=>?_
   have hs:=hl l hm
   have:=vv (lI l) (lI sizes) l sizes rfl rfl (fun s hs=>by have:=h.hx s hs;omega) (by rw [hs];have:=h.h6;omega)
   dsimp? [this]
  unfold hV jb
  simp only [tX]
  rw [ax (show ([lI sizes,PV.lst (levers.map lI)]++[PV.cS]).length+1=4 from rfl)]
  simp only [zo,yV]
  dsimp? [rB sizes h.h1 h.h6 h.hx,qu sizes.length levers h8 hl (by have:=h.h6;omega),lX,List.length_map,ax (aP (show levers.length<=1000 by omega)),e1,kM _ (show (levers.map lI).length<=8 by rw [List.length_map];exact h8),g8 sizes h]
  rw [i9 _ _ _ _ _ _ (by simp)]
  dsimp? [lX,List.length_map,ax (aP (show levers.length<=1000 by omega)),e1,kM _ (show (levers.map lI).length<=8 by rw [List.length_map];exact h8),g8 sizes h]
  rw [i9 _ _ _ _ _ _ (Nat.lt_of_le_of_lt (i7 (Nat.zero_le 0)) (by decide))]
  dsimp? [lX,List.length_map,ax (aP (show levers.length<=1000 by omega)),e1,kM _ (show (levers.map lI).length<=8 by rw [List.length_map];exact h8),g8 sizes h]
  rw [i9 _ _ _ _ _ _ (Nat.lt_of_le_of_lt (i7 (i7 (Nat.zero_le 0))) (by decide))]
  dsimp? [lX,List.length_map,ax (aP (show levers.length<=1000 by omega)),e1,kM _ (show (levers.map lI).length<=8 by rw [List.length_map];exact h8),g8 sizes h]
  rw [i9 _ _ _ _ _ _ (Nat.lt_of_le_of_lt (i7 (i7 (i7 (Nat.zero_le 0)))) (by decide))]
  dsimp? []
  show cC _ _=_
  rw [ax ⟨rfl,rfl⟩]
  rw [qZ,List.map_map,List.length_map]
  rfl
 unfold jP
 rw [Bs key];rfl
theorem BJ (sizes:List Int) (levers:List (List Int)):(qZ sizes levers).lookup (Str.ofString "dial_sizes")=some (tI sizes):=rfl
theorem zG (sizes:List Int) (levers:List (List Int)):(qZ sizes levers).lookup (Str.ofString "lever_settings")=some (.tup (levers.map tI)):=rfl
theorem CS (sizes:List Int) (levers:List (List Int)):(qZ sizes levers).lookup (Str.ofString "least_round")=some (.int (R sizes)):=rfl
theorem JT (sizes:List Int) (levers:List (List Int)):(qZ sizes levers).lookup (Str.ofString "sizes")=none:=rfl
theorem JF (sizes:List Int) (levers:List (List Int)):(qZ sizes levers).lookup (Str.ofString "levers")=none:=rfl
theorem uY (sizes:List Int) (levers:List (List Int)):aT [iZ sizes levers]=M.ok (tI sizes):=by
 unfold aT aV
 dsimp? [fm,iZ,beq_self_eq_true,BJ]
theorem Ai (sizes:List Int) (levers:List (List Int)):bK [iZ sizes levers]=M.ok (.tup (levers.map tI)):=by
 unfold bK bN
 dsimp? [fm,iZ,beq_self_eq_true,zG]
theorem oZ {g:af->M PV} {env:af} {sizes:List Int} {levers:List (List Int)} (h:g env=M.ok (iZ sizes levers)):bH aB "sizes" aT g aq env=M.ok (tI sizes):=by
 have:=uY sizes levers
 rw [bH,h,M.aM]
 show cC _ (M.bind (aq env) _)=_
 rw [ax ⟨rfl,JT sizes levers⟩]
 exact this
theorem qA {g:af->M PV} {env:af} {sizes:List Int} {levers:List (List Int)} (h:g env=M.ok (iZ sizes levers)):bH aB "levers" bK g aq env=M.ok (.tup (levers.map tI)):=by
 have:=Ai sizes levers
 rw [bH,h,M.aM]
 show cC _ (M.bind (aq env) _)=_
 rw [ax ⟨rfl,JF sizes levers⟩]
 exact this
def Ea (sizes xs:List Int):Bool:=decide ((xs.length:Int)=sizes.length)&&(xs.zip sizes).all fun z=>decide (0<=z.1/\z.1<z.2)
theorem DF {sizes xs:List Int}:Ea sizes xs=true ↔ Iv sizes xs:=by
 unfold Ea
 constructor
 ·intro h
  simp only [Bool.and_eq_true,decide_eq_true_eq,List.all_eq_true] at h
  exact ⟨by omega,h.2⟩
 ·intro h
  simp only [Bool.and_eq_true,decide_eq_true_eq,List.all_eq_true]
  exact ⟨by rw [h.len],h.kz⟩
theorem B5 (x s:Int):∀ env:af,env=[some (.sh (.int x)),some (.sh (.int s))]->jo Dk CO (fun _=>M.ok (.int 0)) (aa 0) (aa 1) env=M.ok (.bl (decide (0<=x/\x<s))):=by
 rintro env rfl
 dsimp? []
 by_cases h:0<=x
 ·simp only [h,decide_true,if_true,true_and]
  try dsimp? []
 ·simp only [h,decide_false,false_and]
  try dsimp? []
theorem Hr {α:Type} (h:α->Bool) (xs:List α):uU [.lst (xs.map fun a=>.bl (h a))]=M.ok (.bl (xs.all h)):=by
 have:=vA (xs.map h)
 rw [List.map_map] at this
 rw [show (fun a=>PV.bl (h a))=PV.bl∘h from rfl,this]
 simp [List.all_map]
section
variable {sizes:List Int} {levers:List (List Int)}
theorem wI (h:Sz sizes) (xs:List Int) (hz:xs.length<=1000):fN [iZ sizes levers,tI xs]=M.ok (.bl (Ea sizes xs)):=by
 have key:cB (bC 0 1) none (jo Dk CO (fun _=>M.ok (.int 0)) (aa 0) (aa 1)) ((xs.zip sizes).map fun z=>.tup [.int z.1,.int z.2]) [none,none]=M.ok ((xs.zip sizes).map fun z=>.bl (decide (0<=z.1/\z.1<z.2))) :=
  j_ (p:=fun z:Int×Int=>PV.int z.1) (q:=fun z:Int×Int=>PV.int z.2) (xs.zip sizes) fun z hz=>B5 z.1 z.2 _ rfl
 have hl:(xs.zip sizes).length<=sizeLine:=by rw [List.length_zip];exact aP (Nat.le_trans (Nat.min_le_left _ _) hz)
 unfold fN dZ
 dsimp? [oZ (sizes:=sizes) (levers:=levers) (g:=aa 0) (env:=[some (.sh (iZ sizes levers)),some (.sh (tI xs)),none]) rfl,HN xs sizes.length (aP hz)]
 unfold Ea
 by_cases e:(xs.length:Int)=sizes.length
 ·simp only [e,decide_true,Bool.not_true,Bool.false_eq_true,if_false,Bool.true_and]
  dsimp? [fy (p:=tI xs) (q:=tI sizes) xs sizes rfl rfl,List.length_map,ax hl,key,Hr]
 ·simp only [e,decide_false,Bool.not_false,if_true,Bool.false_and]
  dsimp? []
theorem tQ (h:Sz sizes) {xs:List Int} (hs:Iv sizes xs):cp [iZ sizes levers,tI xs]=M.ok .cS:=by
 unfold cp cy
 dsimp? [wI (levers:=levers) h xs (by rw [hs.len];have:=h.h6;omega),DF.mpr hs]
end
theorem kF {xs ys:List Int} {z:Int×Int} (h:z∈xs.zip ys):z.1∈xs/\z.2∈ys:=List.of_mem_zip (a:=z.1) (b:=z.2) h
theorem uE {sizes xs:List Int} (h:Sz sizes) (hs:Iv sizes xs) {x:Int} (hx:x∈xs):0<=x/\x<360:=by
 obtain ⟨i,hi,rfl⟩:=List.mem_iff_getElem.mp hx
 have hj:i<sizes.length:=by rw [← hs.len];exact hi
 have:=hs.kz (xs[i],sizes[i]) (by
  rw [List.mem_iff_getElem]
  exact ⟨i,by rw [List.length_zip];omega,by rw [List.getElem_zip]⟩)
 have h2:=h.hx sizes[i] (List.getElem_mem hj)
 exact ⟨this.1,by have:=this.2;simp only at this;omega⟩
theorem CZ (xs sizes:List Int):An xs sizes=Ah xs sizes:=rfl
noncomputable def cf (a b:Int):Int×Int:=open Classical in if h:∃ p:Int×Int,fw [.int a,.int b]=M.ok (.tup [.int (Int.gcd a b),.int p.1,.int p.2])/\p.1*a+p.2*b=Int.gcd a b/\p.1.natAbs<=b.natAbs+1/\p.2.natAbs<=a.natAbs+(b.natAbs+1)*a.natAbs+b.natAbs+1 then h.choose else (0,0)
theorem Fy (a b:Int) (ha:a.natAbs<2^60) (hb:b.natAbs<2^60):fw [.int a,.int b]=M.ok (.tup [.int (Int.gcd a b),.int (cf a b).1,.int (cf a b).2])/\(cf a b).1*a+(cf a b).2*b=Int.gcd a b/\(cf a b).1.natAbs<=b.natAbs+1/\(cf a b).2.natAbs<=a.natAbs+(b.natAbs+1)*a.natAbs+b.natAbs+1:=by
 have h:∃ p:Int×Int,fw [.int a,.int b]=M.ok (.tup [.int (Int.gcd a b),.int p.1,.int p.2])/\p.1*a+p.2*b=Int.gcd a b/\p.1.natAbs<=b.natAbs+1/\p.2.natAbs<=a.natAbs+(b.natAbs+1)*a.natAbs+b.natAbs+1:=by
  obtain ⟨s,t,h⟩:=sL a b ha hb
  exact ⟨(s,t),h⟩
 unfold cf
 rw [dif_pos h]
 exact h.choose_spec
theorem AD:CB cf:=fun a b h1 h2 h3 h4=>by
 obtain ⟨_,e,b1,b2⟩:=Fy a b (by omega) (by omega)
 refine ⟨e,by omega,?_⟩
 have:(b.natAbs+1)*a.natAbs<=361*360:=Nat.mul_le_mul (by omega) (by omega)
 omega
def mk (r:Row):PV:=.tup [tI r.1,tI r.2]
theorem sI (r:Row):aJ (mk r) (.int 0)=M.ok (tI r.1):=bF (p:=mk r) (j:=0) rfl rfl
theorem Fu (r:Row):aJ (mk r) (.int 1)=M.ok (tI r.2):=bF (p:=mk r) (j:=1) rfl rfl
theorem jL {xs:List Int} {i:Nat} (h:i<xs.length):aJ (tI xs) (.int (i:Int))=M.ok (.int (vf xs i)) :=
 bF (p:=tI xs) rfl (by rw [List.getElem?_map,List.getElem?_eq_getElem h,aR h];rfl)
theorem qh {rows:List Row} {d:Nat} (h:d<rows.length):aJ (.lst (rows.map mk)) (.int (d:Int))=M.ok (mk (row rows d)) :=
 bF (p:=.lst (rows.map mk)) rfl (by rw [List.getElem?_map,List.getElem?_eq_getElem h,je h];rfl)
theorem qt {A B:Nat} (p q:PV) (xs ys:List Int) (a b:Int) (hp:bS p=some (xs.map PV.int)) (hq:bS q=some (ys.map PV.int)) (hx:Bd B xs) (hy:Bd B ys) (ha:a.natAbs<2^A) (hb:b.natAbs<2^A) (hB:B<=9000) (hA:A<=9000) (hz:xs.length<=1000):kS [p,.int a,q,.int b]=M.ok (tI (oE xs a ys b)):=by
 have key:cB (bC 0 1) none (aj fT (aj cD (aa 2) (aa 0)) (aj cD (aa 3) (aa 1))) ((xs.zip ys).map fun z=>.tup [.int z.1,.int z.2]) [none,none,some (.sh (.int a)),some (.sh (.int b))]=M.ok ((xs.zip ys).map fun z=>.int (a*z.1+b*z.2)):=by
  refine j_ (p:=fun z:Int×Int=>PV.int z.1) (q:=fun z:Int×Int=>PV.int z.2) (xs.zip ys) fun z hz=>?_
  have m:=List.of_mem_zip (a:=z.1) (b:=z.2) hz
  dsimp? [aZ (k:=A) (l:=B) ha (hx _ m.1) hA hB,aZ (k:=A) (l:=B) hb (hy _ m.2) hA hB]
 have hl:(xs.zip ys).length<=sizeLine:=by rw [List.length_zip];exact aP (Nat.le_trans (Nat.min_le_left _ _) hz)
 unfold kS kH
 dsimp? [fy xs ys hp hq,List.length_map,ax hl,key]
 rw [tI,oE,List.map_map];rfl
theorem wH {A B:Nat} {sizes:List Int} {r q:Row} {a b:Int} (hs:∀ s∈sizes,0<s) (h1:Bd B r.1) (h2:Bd B r.2) (h3:Bd B q.1) (h4:Bd B q.2) (ha:a.natAbs<2^A) (hb:b.natAbs<2^A) (hB:B<=9000) (hA:A<=9000) (z1:r.1.length<=100) (z2:r.2.length<=100):dm [tI sizes,mk r,.int a,mk q,.int b]=M.ok (mk (qR sizes r a q b)):=by
 unfold dm da
 dsimp? [sI,Fu,qt (tI r.1) (tI q.1) r.1 q.1 a b rfl rfl h1 h3 ha hb hB hA (by omega),qt (tI r.2) (tI q.2) r.2 q.2 a b rfl rfl h2 h4 ha hb hB hA (by omega),vv (tI (oE r.1 a q.1 b)) (tI sizes) (oE r.1 a q.1 b) sizes rfl rfl hs (by rw [bD];omega)]
 rfl
theorem sW {sizes:List Int} {rows:List Row} {n m d:Nat} (w:Wf n m rows) (hs:sizes.length=n) (hd:d<n):cV [tI sizes,.lst (rows.map mk),.int (d:Int)]=M.ok (.int (aQ (vf sizes) (DD rows) d)):=by
 unfold cV cX
 have e1:=w.qS hd
 dsimp? [qh (rows:=rows) (d:=d) (by rw [w.len];exact hd),sI,jL (xs:=(row rows d).1) (i:=d) (by omega)]
 unfold aQ
 by_cases z:DD rows d d=0
 ·have z':vf (row rows d).1 d=0:=z
  simp only [z',z,decide_true,if_true]
  dsimp? [jL (xs:=sizes) (i:=d) (by omega)]
 ·have z':¬ vf (row rows d).1 d=0:=z
  simp only [z',z,decide_false,Bool.false_eq_true,if_false]
  dsimp? []
  rfl
theorem drop_cons {α:Type} {xs:List α} {d:Nat} {a:α} {r:List α} (h:xs.drop d=a::r):d<xs.length/\xs[d]?=some a/\xs.drop (d+1)=r:=by
 have hd:d<xs.length:=by
  rcases Nat.lt_or_ge d xs.length with q | q
  ·exact q
  ·rw [List.drop_eq_nil_of_le q] at h;cases h
 rw [List.drop_eq_getElem_cons hd] at h
 injection h with h1 h2
 exact ⟨hd,by rw [List.getElem?_eq_getElem hd,h1],h2⟩
theorem e6 (env:af):ko aq env=M.ok []:=by
 simp only [ko,aq,M.aM]
 exact if_pos (Nat.zero_le _)
theorem ue {i:Nat} {f:af->M PV} {env:af} {xs:List PV} {p:PV} (h:env[i]?=some (some (.ow xs))) (hf:f env=M.ok p) (hz:xs.length<1000):jl i f env=M.ok (.nx (env.set i (some (.ow (xs++[p]))))):=by
 unfold jl
 rw [h]
 show M.bind (f env) _=_
 rw [hf,M.aM,if_pos (m7 (Nat.le_of_lt hz))]
theorem tD {n:Nat} {sizes xs:List Int} (hl:xs.length=n) (h:∀ i,i<n->0<=vf xs i/\vf xs i<vf sizes i) (hs:∀ i,i<n->vf sizes i<=360):Bd 9 xs:=fun x hx=>by
 obtain ⟨i,hi,rfl⟩:=List.mem_iff_getElem.mp hx
 have h1:=h i (by omega);have h2:=hs i (by omega)
 rw [aR hi] at h1
 omega
theorem Bo {a b:Int} (h1:-1000<=a) (h2:a<=1000) (h3:-1000<=b) (h4:b<=1000):Ad [.int a,.int b]=M.ok ((List.range (b-a).toNat).map fun (i:Nat)=>.int (a+(i:Int))):=by
 have h:-(2^62)<=a/\a<2^62/\-(2^62)<=b/\b<2^62:=by omega
 show cC (-(2^62)<=a/\a<2^62/\-(2^62)<=b/\b<2^62) _=_
 rw [ax h]
section
variable {n m k:Nat} {sizes:List Int} {A:Nat->cj} {rows:List Row} {left:Row}
theorem St.CP (h:St n m sizes A k rows) {d:Nat} (hd:d<n):Bd 9 (row rows d).1:=tD (h.wf.qS hd) (fun i hi=>h.gd.kz d hd i hi) h.sm
theorem CL (h:St n m sizes A k rows):∀ s∈sizes,0<s:=fun s hs=>by
 obtain ⟨i,hi,rfl⟩:=List.mem_iff_getElem.mp hs
 have:=h.gd.sp i (by rw [← h.hs];exact hi)
 rwa [aR hi] at this
theorem Bw (h:St n m sizes A k rows) (L:Lv n m sizes A k left) (hn:n<=6) (hm:m<=8):jr [tI sizes,.lst (rows.map mk),mk left]=M.ok (.tup [.lst ((bY cf sizes rows left n).map mk),tI (az cf sizes rows left n).2]):=by
 have rl:=h.wf.len
 have hkm:=L.km
 unfold jr gO
 dsimp? [e6,oX]
 refine dM rows.zipIdx (fun zs env=>∃ d x4 x5 x6 x7 x8,d<=n/\rows.zipIdx.drop d=zs/\env=[some (.sh (tI sizes)),some (.sh (.lst (rows.map mk))),some (.sh (mk (az cf sizes rows left d))),some (.ow ((bY cf sizes rows left d).map mk)),x4,x5,x6,x7,x8]) ⟨0,none,none,none,none,none,Nat.zero_le _,rfl,rfl⟩ ?_ ?_
 ·rintro ⟨a,i⟩ zs env ⟨d,x4,x5,x6,x7,x8,hd,hdr,rfl⟩
  obtain ⟨h1,h2,h3⟩:=drop_cons hdr
  rw [List.length_zipIdx,rl] at h1
  have h4:a=row rows d/\i=d:=by
   rw [List.getElem?_zipIdx] at h2
   rw [je (by rw [rl];exact h1)]
   rw [List.getElem?_eq_getElem (by rw [rl];exact h1)] at h2
   simp at h2
   exact ⟨h2.1.symm,h2.2.symm⟩
  obtain ⟨rfl,rfl⟩:=h4
  have ll:=cJ (c:=cf) h.wf h.hs L.l1 L.l2 i (by omega)
  have lk:=kR (c:=cf) h L i (by omega)
  have lb:=oW (c:=cf) h L hn i (by omega)
  have st:=h.gd.pos h1
  have sm:=h.sm i h1
  have nt:=lk i h1
  have e1:=h.wf.qS h1;have e2:=h.wf.at2 h1
  generalize hst:aQ (vf sizes) (DD rows) i=st' at *
  generalize hnt:vf (az cf sizes rows left i).1 i=nt' at *
  obtain ⟨c1,c2,c3,c4⟩:=Fy st' nt' (by omega) (by omega)
  have cb:=AD st' nt' st.1 (by omega) nt.1 (by omega)
  have gp:=fW (b:=nt') st.1
  have gl:(Int.gcd st' nt':Int)<=st':=Int.le_of_dvd st.1 (Int.gcd_dvd_left ..)
  have a1:=kl (b:=nt') st.1 (by omega)
  have a2:=mG (b:=nt') st.1 nt.1 (by omega)
  have B1:Bd 1300 (row rows i).1:=(St.CP h h1).mono (by omega)
  have B2:Bd 1300 (row rows i).2:=(h.bd i h1).mono (by omega)
  have B3:Bd 1300 (az cf sizes rows left i).1:=(tD ll.1 lk h.sm).mono (by omega)
  have B4:Bd 1300 (az cf sizes rows left i).2:=lb.mono (by omega)
  have w1:=wH (A:=20) (sizes:=sizes) (CL h) B1 B2 B3 B4 cb.2.1 cb.2.2 (by decide) (by decide) (by omega) (by omega)
  have w2:=wH (A:=20) (sizes:=sizes) (a:=st'/(Int.gcd st' nt':Nat)) (b:=-(nt'/(Int.gcd st' nt':Nat))) (CL h) B3 B4 B1 B2 (by omega) (by omega) (by decide) (by decide) (by omega) (by omega)
  have ew:dE cf sizes rows left i=qR sizes (row rows i) (cf st' nt').1 (az cf sizes rows left i) (cf st' nt').2:=by
   simp only [dE,hst,hnt]
  have el:az cf sizes rows left (i+1)=qR sizes (az cf sizes rows left i) (st'/(Int.gcd st' nt':Nat)) (row rows i) (-(nt'/(Int.gcd st' nt':Nat))):=by
   simp only [az,hst,hnt]
  refine ⟨_,[some (.sh (tI sizes)),some (.sh (.lst (rows.map mk))),some (.sh (mk (az cf sizes rows left (i+1)))),some (.ow ((bY cf sizes rows left (i+1)).map mk)),some (.sh (.int i)),some (.sh (mk (row rows i))),some (.sh (.int st')),some (.sh (.int nt')),some (.sh (.tup [.int (Int.gcd st' nt'),.int (cf st' nt').1,.int (cf st' nt').2]))],rfl,?_,i+1,_,_,_,_,_,by omega,h3,rfl⟩
  have sok:=sW h.wf h.hs h1
  rw [hst] at sok
  have nok:=jL (xs:=(az cf sizes rows left i).1) (i:=i) (by omega)
  rw [hnt] at nok
  dsimp? [sok,sI,nok,c1]
  rw [ue (i:=3) rfl (p:=mk (dE cf sizes rows left i)) (by dsimp? [Hf,F8,w1,ew]) (by simp [bY];omega)]
  dsimp? [xo,aH (i:=st') gp (by omega),aH (i:=nt') gp (by omega),w2,el]
  rw [bY,bY,List.range_succ,List.map_append,List.map_append]
  rfl
 ·rintro env ⟨d,x4,x5,x6,x7,x8,hd,hdr,rfl⟩
  have hdn:d=n:=by
   have:=congrArg List.length hdr
   rw [List.length_drop,List.length_zipIdx,rl] at this
   simp at this
   omega
  subst hdn
  dsimp? [Fu]
def bj (sizes:List Int) (rows:List Row) (r:Row) (f:Nat):Nat->Row
 | 0=>r
 | c+1 =>
  let l:=bj sizes rows r f c
  qR sizes l 1 (row rows (f+c)) (-(vf l.1 (f+c)/aQ (vf sizes) (DD rows) (f+c)))
theorem ja (h:St n m sizes A k rows) {r:Row} {f:Nat} (h1:r.1.length=n) (h2:r.2.length=m):∀ c,f+c<=n->(bj sizes rows r f c).1.length=n/\(bj sizes rows r f c).2.length=m
 | 0,_=>⟨h1,h2⟩
 | c+1,hc=>by
  obtain ⟨i1,i2⟩:=ja h (f:=f) h1 h2 c (by omega)
  have e1:=h.wf.qS (d:=f+c) (by omega);have e2:=h.wf.at2 (d:=f+c) (by omega)
  have hs:=h.hs
  simp only [bj,qR]
  rw [jZ,bD,bD]
  exact ⟨by omega,by omega⟩
theorem p9 (h:St n m sizes A k rows) {r:Row} {f:Nat} (h1:r.1.length=n) (h2:r.2.length=m) (h0:∀ i,i<n->0<=vf r.1 i/\vf r.1 i<vf sizes i):Dn n (vf sizes) (DD rows) f (fun d=>vf (bj sizes rows r f (d-f)).1) where
 w0:=fun i hi=>by rw [Nat.sub_self];exact h0 i hi
 ws:=fun d hf hd i hi=>by
  obtain ⟨c,rfl⟩:∃ c,d=f+c:=⟨d-f,by omega⟩
  obtain ⟨i1,i2⟩:=ja h (f:=f) h1 h2 c (by omega)
  have e1:=h.wf.qS (d:=f+c) (by omega)
  have hs:=h.hs
  show vf (bj sizes rows r f (f+c+1-f)).1 i=_
  rw [show f+c+1-f=c+1 by omega,show f+c-f=c by omega]
  simp only [bj,qR]
  rw [kE (by rw [bD];omega) (by omega),eT (by omega) (by omega)]
  rfl
theorem xV (h:St n m sizes A k rows) {r:Row} {f:Nat} (h1:r.1.length=n) (h2:r.2.length=m) {P₀:cj} {B:cj} (hl:Led n (vf sizes) m A (fun i=>vf r.1 i-B i) (fun l=>vf r.2 l-P₀ l)):∀ c,f+c<=n->Led n (vf sizes) m A (fun i=>vf (bj sizes rows r f c).1 i-B i) (fun l=>vf (bj sizes rows r f c).2 l-P₀ l)
 | 0,_=>hl
 | c+1,hc=>by
  obtain ⟨i1,i2⟩:=ja h (f:=f) h1 h2 c (by omega)
  have e1:=h.wf.qS (d:=f+c) (by omega);have e2:=h.wf.at2 (d:=f+c) (by omega)
  have hs:=h.hs
  refine Led.mix (a:=1) (b:=-(vf (bj sizes rows r f c).1 (f+c)/aQ (vf sizes) (DD rows) (f+c))) (xV h (f:=f) h1 h2 hl c (by omega)) (h.led (f+c) (by omega)) (fun i hi=>?_) fun l hl=>?_
  ·simp only [bj,qR]
   rw [kE (by rw [bD];omega) (by omega),eT (by omega) (by omega)]
   obtain ⟨z,hz⟩:=eh (1*vf (bj sizes rows r f c).1 i+-(vf (bj sizes rows r f c).1 (f+c)/aQ (vf sizes) (DD rows) (f+c))*vf (row rows (f+c)).1 i) (vf sizes i)
   refine ⟨z,?_⟩
   rw [← hz]
   unfold DD
   grind
  ·simp only [bj,qR]
   rw [eT (by omega) (by omega)]
   unfold PP
   grind
theorem xG (h:St n m sizes A k rows) {r:Row} {f B:Nat} (h1:r.1.length=n) (h2:r.2.length=m) (h0:∀ i,i<n->0<=vf r.1 i/\vf r.1 i<vf sizes i) (hB:150*k+1<=B) (hb:Bd B r.2):∀ c,f+c<=n->Bd (B+11*c) (bj sizes rows r f c).2
 | 0,_=>hb
 | c+1,hc=>by
  have k0:=(p9 h (f:=f) h1 h2 h0).kept h.gd (f+c) (by omega) (by omega) (f+c) (by omega)
  rw [show f+c-f=c by omega] at k0
  have sm:=h.sm (f+c) (by omega)
  have p:=h.gd.pos (d:=f+c) (by omega)
  have q:=Int.ediv_le_self (aQ (vf sizes) (DD rows) (f+c)) k0.1
  have q0:=Int.ediv_nonneg k0.1 (Int.le_of_lt p.1)
  have:=Bd.mix (A:=10) (xG h (f:=f) h1 h2 h0 hB hb c (by omega)) ((h.bd (f+c) (by omega)).mono (show 150*k+1<=B+11*c by omega)) (a:=1) (b:=-(vf (bj sizes rows r f c).1 (f+c)/aQ (vf sizes) (DD rows) (f+c))) (by decide) (by omega)
  exact this.mono (by omega)
theorem qE (h:St n m sizes A k rows) {r:Row} {f B:Nat} (hn:n<=6) (hm:m<=8) (h1:r.1.length=n) (h2:r.2.length=m) (h0:∀ i,i<n->0<=vf r.1 i/\vf r.1 i<vf sizes i) (hB:150*k+1<=B) (hB2:B<=8000) (hb:Bd B r.2) (hf:f<=n):eO [tI sizes,.lst (rows.map mk),mk r,.int (f:Int)]=M.ok (mk (bj sizes rows r f (n-f))):=by
 have hs:=h.hs
 have rl:=h.wf.len
 unfold eO gc
 have kz:Ad [.int (f:Int),.int (sizes.length:Int)]=M.ok ((List.range (n-f)).map fun (i:Nat)=>.int ((f+i:Nat):Int)):=by
  rw [Bo (by omega) (by omega) (by omega) (by omega),hs,show ((n:Int)-(f:Int)).toNat=n-f by omega]
  simp
 dsimp? [kz]
 refine dM (List.range (n-f)) (fun zs env=>∃ c x4 x5,c<=n-f/\(List.range (n-f)).drop c=zs/\env=[some (.sh (tI sizes)),some (.sh (.lst (rows.map mk))),some (.sh (mk (bj sizes rows r f c))),some (.sh (.int (f:Int))),x4,x5]) ⟨0,none,none,Nat.zero_le _,rfl,rfl⟩ ?_ ?_
 ·rintro i zs env ⟨c,x4,x5,hc,hdr,rfl⟩
  obtain ⟨c1,c2,c3⟩:=drop_cons hdr
  rw [List.length_range] at c1
  obtain rfl:i=c:=by
   rw [List.getElem?_range c1] at c2;exact (Option.some.inj c2).symm
  have hfc:f+i<n:=by omega
  have ll:=ja h (f:=f) h1 h2 i (by omega)
  have lk:=(p9 h (f:=f) h1 h2 h0).kept h.gd (f+i) (by omega) (by omega)
  rw [show f+i-f=i by omega] at lk
  have k0:=lk (f+i) hfc
  have sm:=h.sm (f+i) hfc
  have p:=h.gd.pos hfc
  have e1:=h.wf.qS hfc;have e2:=h.wf.at2 hfc
  have B1:Bd 8200 (row rows (f+i)).1:=(St.CP h hfc).mono (by omega)
  have B2:Bd 8200 (row rows (f+i)).2:=(h.bd _ hfc).mono (by omega)
  have B3:Bd 8200 (bj sizes rows r f i).1:=(tD ll.1 lk h.sm).mono (by omega)
  have B4:Bd 8200 (bj sizes rows r f i).2:=(xG h (f:=f) h1 h2 h0 hB hb i (by omega)).mono (by omega)
  have q:=Int.ediv_le_self (aQ (vf sizes) (DD rows) (f+i)) k0.1
  have q0:=Int.ediv_nonneg k0.1 (Int.le_of_lt p.1)
  have w:=wH (A:=20) (sizes:=sizes) (a:=1) (b:=-(vf (bj sizes rows r f i).1 (f+i)/aQ (vf sizes) (DD rows) (f+i))) (CL h) B3 B4 B1 B2 (by decide) (by omega) (by decide) (by decide) (by omega) (by omega)
  refine ⟨_,[some (.sh (tI sizes)),some (.sh (.lst (rows.map mk))),some (.sh (mk (bj sizes rows r f (i+1)))),some (.sh (.int (f:Int))),some (.sh (.int ((f+i:Nat):Int))),some (.sh (.int (vf (bj sizes rows r f i).1 (f+i)/aQ (vf sizes) (DD rows) (f+i))))],rfl,?_,i+1,_,_,by omega,c3,rfl⟩
  dsimp? [sI,jL (xs:=(bj sizes rows r f i).1) (i:=f+i) (by omega),sW h.wf h.hs hfc,aH (i:=vf (bj sizes rows r f i).1 (f+i)) p.1 (by omega),qh (rows:=rows) (d:=f+i) (by omega),w]
  rfl
 ·rintro env ⟨c,x4,x5,hc,hdr,rfl⟩
  have:c=n-f:=by
   have:=congrArg List.length hdr
   rw [List.length_drop,List.length_range] at this
   simp at this
   omega
  subst this
  dsimp? []
end
theorem E1 (m k:Nat) (hm:m<=1000):jn [.int (m:Int),.int (k:Int)]=M.ok (tI (n8 m k)):=by
 have key:cB (cU 0) none (yN (du (aj sM (aa 0) (aa 1))) (fun _=>M.ok (.int 1)) (fun _=>M.ok (.int 0))) ((List.range m).map fun (i:Nat)=>.int (i:Int)) [none,some (.sh (.int (k:Int)))]=M.ok ((List.range m).map fun (i:Nat)=>.int (if i=k then 1 else 0)):=by
  refine lU (inj:=fun (i:Nat)=>PV.int (i:Int)) (List.range m) fun i hi=>?_
  dsimp? []
  by_cases z:i=k
  ·subst z;simp only [decide_true,if_true]
  ·have z':¬ (i:Int)=(k:Int):=by omega
   simp only [z,z',decide_false,Bool.false_eq_true,if_false]
 unfold jn gK
 dsimp? [iT (n:=(m:Int)) (by omega) (by omega),Int.toNat_natCast,List.length_map,List.length_range,ax (aP hm),key]
 rw [tI,n8,List.map_map];rfl
theorem sD {n:Int} (h:0<=n):Builtin.Range.rangeSize (n-1) (-1) (-1)=n:=by
 unfold Builtin.Range.rangeSize
 rw [if_neg (by decide)]
 split
 ·rw [show -(-1:Int)=1 from rfl,Int.ediv_one];omega
 ·omega
theorem Dx {n:Int} (h:0<=n) (h2:n<=1000):C3 (n-1) (-1) (-1)=true:=by
 unfold C3 Builtin.Range.small
 have f:∀ x:Int,-(2^40)<x->x<2^40->Builtin.Range.rangeFitsLong x=true:=fun x h1 h2=>by
  unfold Builtin.Range.rangeFitsLong
  simp only [Bool.and_eq_true,decide_eq_true_eq]
  omega
 simp only [sD h,f (n-1) (by omega) (by omega),f (-1) (by decide) (by decide),f n (by omega) (by omega),f (n-1+n*-1) (by omega) (by omega),Bool.and_true,Bool.true_and,Bool.and_self,Bool.and_eq_true,decide_eq_true_eq]
 refine ⟨by decide,?_⟩
 rw [if_neg (by decide),f (-1+(-1+1)) (by decide) (by decide),Bool.or_true]
theorem vS (k:Nat) (hk:k<=1000):zE [.int ((k:Int)-1),.int (-1),.int (-1)]=M.ok ((List.range k).map fun (i:Nat)=>.int ((k:Int)-1+(i:Int)*-1)):=by
 show cC (C3 ((k:Int)-1) (-1) (-1)=true) _=_
 rw [ax (Dx (by omega) (by omega)),sD (by omega),Int.toNat_natCast]
theorem yG {idle:List (List Int)} {j:Nat} (h:j<idle.length):aJ (.lst (idle.map tI)) (.int (j:Int))=M.ok (tI (idle.getD j [])) :=
 bF (p:=.lst (idle.map tI)) rfl (by rw [List.getElem?_map,List.getElem?_eq_getElem h,List.getD_eq_getElem?_getD,List.getElem?_eq_getElem h];rfl)
theorem BR {n m k B:Nat} {s:cj} {A:Nat->cj} {idle:List (List Int)} {P:List Int} (h:Bu n m s A k idle) (hP:P.length=m) (hm:m<=8) (hk:k<=m) (hB:60<=B) (hB2:B<=8000) (hb:Bd B P):jt [tI P,.lst (idle.map tI)]=M.ok (tI (aL idle k P k)):=by
 have il:=h.len
 unfold jt gv
 dsimp? [List.length_map,il,vS k (by omega)]
 refine dM (List.range k) (fun zs env=>∃ c x2 x3,c<=k/\(List.range k).drop c=zs/\env=[some (.sh (tI (aL idle k P c))),some (.sh (.lst (idle.map tI))),x2,x3]) ⟨0,none,none,Nat.zero_le _,rfl,rfl⟩ ?_ ?_
 ·rintro i zs env ⟨c,x2,x3,hc,hdr,rfl⟩
  obtain ⟨c1,c2,c3⟩:=drop_cons hdr
  rw [List.length_range] at c1
  obtain rfl:i=c:=by
   rw [List.getElem?_range c1] at c2;exact (Option.some.inj c2).symm
  have hj:k-1-i<k:=by omega
  have ej:(k:Int)-1+(i:Int)*-1=((k-1-i:Nat):Int):=by omega
  have sl:=span_len h hP i (by omega)
  have rl:=h.l2 (k-1-i) hj
  have p:=h.pos (k-1-i) hj
  have pl60:=h.le (k-1-i) hj
  have zb:=yu h hP hk hB hb i (by omega)
  have B1:Bd 8600 (aL idle k P i):=zb.mono (by omega)
  have B2:Bd 8600 (idle.getD (k-1-i) []):=(h.bd hj hk).mono (by omega)
  have q:(-(vf (aL idle k P i) (k-1-i)/vf (idle.getD (k-1-i) []) (k-1-i))).natAbs<2^8600:=by
   rw [Int.natAbs_neg]
   exact Nat.lt_of_le_of_lt (Int.natAbs_ediv_le_natAbs ..) (B1.vf _)
  have w:=qt (A:=8600) (tI (aL idle k P i)) (tI (idle.getD (k-1-i) [])) (aL idle k P i) (idle.getD (k-1-i) []) 1 (-(vf (aL idle k P i) (k-1-i)/vf (idle.getD (k-1-i) []) (k-1-i))) rfl rfl B1 B2 (Nat.one_lt_two_pow (by decide)) q (by decide) (by decide) (by omega)
  refine ⟨_,[some (.sh (tI (aL idle k P (i+1)))),some (.sh (.lst (idle.map tI))),some (.sh (.int ((k-1-i:Nat):Int))),some (.sh (tI (idle.getD (k-1-i) [])))],rfl,?_,i+1,_,_,by omega,c3,rfl⟩
  rw [ej]
  dsimp? [yG (idle:=idle) (j:=k-1-i) (by omega),jL (xs:=aL idle k P i) (i:=k-1-i) (by omega),jL (xs:=idle.getD (k-1-i) []) (i:=k-1-i) (by omega),aH (i:=vf (aL idle k P i) (k-1-i)) (j:=vf (idle.getD (k-1-i) []) (k-1-i)) p (by show II idle (k-1-i) (k-1-i)<2^64;omega),w]
  rfl
 ·rintro env ⟨c,x2,x3,hc,hdr,rfl⟩
  have:c=k:=by
   have:=congrArg List.length hdr
   rw [List.length_drop,List.length_range] at this
   simp at this
   omega
  subst this
  dsimp? []
section
variable {sizes:List Int} {Ls:List (List Int)}
theorem Ak (h:sizes.length<=6):j6 [iZ sizes Ls]=M.ok (tI (List.replicate sizes.length 0)):=by
 unfold j6 ki
 dsimp? [oZ (sizes:=sizes) (levers:=Ls) (g:=aa 0) (env:=[some (.sh (iZ sizes Ls))]) rfl,mul_one (.int 0) sizes.length (by omega)]
 rw [tI,List.map_replicate]
theorem oh (hm:Ls.length<=8) (xs:List Int):eW [iZ sizes Ls,tI xs]=M.ok (mk (xs,List.replicate Ls.length 0)):=by
 unfold eW eV
 dsimp? [qA (sizes:=sizes) (levers:=Ls) (g:=aa 0) (env:=[some (.sh (iZ sizes Ls)),some (.sh (tI xs))]) rfl,List.length_map,mul_one (.int 0) Ls.length (by omega)]
 rw [mk,tI,tI,List.map_replicate]
theorem DO (hm:Ls.length<=8) {k:Nat} (hk:k<Ls.length):fe [iZ sizes Ls,.int (k:Int)]=M.ok (mk (bA Ls Ls.length k)):=by
 have e:aJ (.tup (Ls.map tI)) (.int (k:Int))=M.ok (tI (Ls.getD k [])):=bF (p:=.tup (Ls.map tI)) rfl (by rw [List.getElem?_map,List.getElem?_eq_getElem hk,List.getD_eq_getElem?_getD,List.getElem?_eq_getElem hk];rfl)
 unfold fe dB
 dsimp? [qA (sizes:=sizes) (levers:=Ls) (g:=aa 0) (env:=[some (.sh (iZ sizes Ls)),some (.sh (.int (k:Int))),none]) rfl,List.length_map,e,E1 Ls.length k (by omega)]
 rfl
end
theorem BI:∀ xs:List Int,pX (tI xs)=true:=by
 intro xs
 have:∀ ys:List Int,ni (ys.map PV.int)=true:=by
  intro ys
  induction ys with
  | nil=>rfl
  | cons a r ih=>simp [ni,pX,ih]
 exact this xs
theorem Jj (x y:PV):aJ (.tup [x,y]) (.int 0)=M.ok x:=bF (j:=0) rfl rfl
theorem J9 (x y:PV):aJ (.tup [x,y]) (.int 1)=M.ok y:=bF (j:=1) rfl rfl
def ny (sizes:List Int) (rows:List Row) (n:Nat):List Row:=(List.range n).map fun d=>bj sizes rows (row rows d) (d+1) (n-(d+1))
def zP (V:PV) (rows:List Row) (idle:List (List Int)):List (Str×PV):=[("vault", V),("made_rows", .lst (rows.map mk)),("idle_rows", .lst (idle.map tI))]
section
variable {sizes:List Int} {Ls:List (List Int)}
theorem BC (hn1:1<=sizes.length) (hn:sizes.length<=6) (hm:Ls.length<=8) (hp:∀ i,i<sizes.length->0<vf sizes i/\vf sizes i<=360) (LL:I_ sizes.length Ls.length sizes Ls) :
  jP aA ib [] [iZ sizes Ls]=M.ok (.obj aA (zP (iZ sizes Ls) (ny sizes (RK cf sizes Ls sizes.length Ls.length Ls.length).1 sizes.length) (RK cf sizes Ls sizes.length Ls.length Ls.length).2)):=by
 have all:=fun k hk=>B7.all (c:=cf) rfl hp LL AD hn k hk
 have key:∀ a,ib a ([iZ sizes Ls]++[])=M.ok (zP (iZ sizes Ls) (ny sizes (RK cf sizes Ls sizes.length Ls.length Ls.length).1 sizes.length) (RK cf sizes Ls sizes.length Ls.length Ls.length).2):=by
  intro a
  have e1:cB (cU 0) none (ai eW (ae (aa 1) (ae (ai j6 (ae (aa 1) aq)) aq))) (sizes.map PV.int) [none,some (.sh (iZ sizes Ls))]=M.ok ((List.replicate sizes.length ((List.replicate sizes.length (0:Int)),(List.replicate Ls.length (0:Int)))).map mk):=by
   rw [lU (h:=fun _=>mk (List.replicate sizes.length 0,List.replicate Ls.length 0)) sizes fun x _=>by dsimp? [Ak (Ls:=Ls) hn,oh (sizes:=sizes) hm (List.replicate sizes.length 0)]]
   congr 1
   rw [List.map_const',List.map_replicate]
  have e2:cB (bC 0 1) none (ai eO (ae (aa 2) (ae (aa 3) (ae (aa 1) (ae (aj fT (aa 0) (fun _=>M.ok (.int 1))) aq))))) ((RK cf sizes Ls sizes.length Ls.length Ls.length).1.zipIdx.map fun z=>.tup [.int (z.2:Int),mk z.1]) [none,none,some (.sh (tI sizes)),some (.sh (.lst ((RK cf sizes Ls sizes.length Ls.length Ls.length).1.map mk)))]=M.ok ((ny sizes (RK cf sizes Ls sizes.length Ls.length Ls.length).1 sizes.length).map mk):=by
   have I:=all Ls.length (Nat.le_refl _)
   generalize RK cf sizes Ls sizes.length Ls.length Ls.length=rk at *
   have rl:=I.st.wf.len
   rw [j_ (p:=fun z:Row×Nat=>PV.int (z.2:Int)) (q:=fun z:Row×Nat=>mk z.1) (h:=fun z:Row×Nat=>mk (bj sizes rk.1 z.1 (z.2+1) (sizes.length-(z.2+1)))) rk.1.zipIdx fun z hz=>?_]
   ·congr 1
    rw [ny,List.map_map]
    refine List.ext_getElem (by simp [rl]) fun i h1 h2=>?_
    have hi:i<rk.1.length:=by simpa using h1
    simp [je hi]
   ·obtain ⟨i,hi,e⟩:=List.mem_iff_getElem.mp hz
    rw [List.length_zipIdx] at hi
    rw [List.getElem_zipIdx] at e
    have ez:z=(row rk.1 i,i):=by rw [← e,je hi];simp
    subst ez
    have hin:i<sizes.length:=by omega
    have:=qE (f:=i+1) (B:=150*Ls.length+1) I.st hn hm (I.st.wf.qS hin) (I.st.wf.at2 hin) (fun j hj=>I.st.gd.kz i hin j hj) (Nat.le_refl _) (by omega) (I.st.bd i hin) (by omega)
    rw [show ((i+1:Nat):Int)=(i:Int)+1 by omega] at this
    dsimp? [this]
  have zl:sizes.length<=sizeLine:=aP (by omega)
  have I:=all Ls.length (Nat.le_refl _)
  have rl:=I.st.wf.len
  unfold ib jq
  simp only [tX]
  rw [ax (show ([iZ sizes Ls]++([]:List PV)).length+1=2 from rfl)]
  simp only [zo,yV]
  dsimp? [oZ (sizes:=sizes) (levers:=Ls) (g:=aa 1) (env:=[some (.bd a aA []),some (.sh (iZ sizes Ls)),none,none,none,none,none]) rfl,List.length_map,ax zl,e1,e6,qA (sizes:=sizes) (levers:=Ls) (g:=aa 1) (env:=[some (.bd a aA []),some (.sh (iZ sizes Ls)),some (.sh (tI sizes)),some (.sh (.lst ((List.replicate sizes.length ((List.replicate sizes.length (0:Int)),(List.replicate Ls.length (0:Int)))).map mk))),some (.ow []),none,none]) rfl,iT (n:=(Ls.length:Int)) (by omega) (by omega),Int.toNat_natCast]
  refine dM (List.range Ls.length) (fun zs env=>∃ k x5 x6,k<=Ls.length/\(List.range Ls.length).drop k=zs/\env=[some (.bd a aA []),some (.sh (iZ sizes Ls)),some (.sh (tI sizes)),some (.sh (.lst ((RK cf sizes Ls sizes.length Ls.length k).1.map mk))),some (.ow ((RK cf sizes Ls sizes.length Ls.length k).2.map tI)),x5,x6]) ⟨0,none,none,Nat.zero_le _,rfl,rfl⟩ ?_ ?_
  ·rintro i zs env ⟨k,x5,x6,hk,hdr,rfl⟩
   obtain ⟨c1,c2,c3⟩:=drop_cons hdr
   rw [List.length_range] at c1
   obtain rfl:i=k:=by
    rw [List.getElem?_range c1] at c2;exact (Option.some.inj c2).symm
   have J:=all i hk
   have L:Lv sizes.length Ls.length sizes (AA Ls) i (bA Ls Ls.length i):=⟨LL.at_ i c1,by simp [bA,n8],c1,fun j hj=>rfl,LL.kz i c1,fun l hl=>vI hl⟩
   have tk:=Bw J.st L hn hm
   have ll:=cJ (c:=cf) J.st.wf J.st.hs L.l1 L.l2 sizes.length (Nat.le_refl _)
   have lb:=oW (c:=cf) J.st L hn sizes.length (Nat.le_refl _)
   have sp:=BR (B:=1400) J.uL ll.2 hm (by omega) (by decide) (by decide) (lb.mono (by omega))
   have il:=J.uL.len
   refine ⟨_,[some (.bd a aA []),some (.sh (iZ sizes Ls)),some (.sh (tI sizes)),some (.sh (.lst ((RK cf sizes Ls sizes.length Ls.length (i+1)).1.map mk))),some (.ow ((RK cf sizes Ls sizes.length Ls.length (i+1)).2.map tI)),some (.sh (.int (i:Int))),some (.sh (.tup [.lst ((bY cf sizes (RK cf sizes Ls sizes.length Ls.length i).1 (bA Ls Ls.length i) sizes.length).map mk),tI (az cf sizes (RK cf sizes Ls sizes.length Ls.length i).1 (bA Ls Ls.length i) sizes.length).2]))],rfl,?_,i+1,_,_,by omega,c3,rfl⟩
   dsimp? [DO (sizes:=sizes) hm c1,tk,Jj]
   rw [ue (i:=4) rfl (p:=tI (aL (RK cf sizes Ls sizes.length Ls.length i).2 i (az cf sizes (RK cf sizes Ls sizes.length Ls.length i).1 (bA Ls Ls.length i) sizes.length).2 i)) (by
    dsimp? [vR,ownAt,J9,sp]
    exact ax (BI _)) (by simp [il];omega)]
   dsimp? [RK,List.map_append]
  ·rintro env ⟨k,x5,x6,hk,hdr,rfl⟩
   have:k=Ls.length:=by
    have:=congrArg List.length hdr
    rw [List.length_drop,List.length_range] at this
    simp at this
    omega
   subst this
   dsimp? [lX]
   rw [i9 _ _ _ _ _ _ (by simp)]
   dsimp? [lX,oX,List.length_map,List.length_zipIdx,rl,ax zl,e2]
   rw [i9 _ _ _ _ _ _ (Nat.lt_of_le_of_lt (i7 (Nat.zero_le 0)) (by decide))]
   dsimp? [lX]
   rw [i9 _ _ _ _ _ _ (Nat.lt_of_le_of_lt (i7 (i7 (Nat.zero_le 0))) (by decide))]
   dsimp? []
   show cC _ _=_
   rw [ax ⟨rfl,rfl⟩]
   rfl
 unfold jP
 rw [Bs key];rfl
end
section
variable {n m:Nat} {sizes:List Int} {A:Nat->cj} {rows:List Row}
theorem mF {d:Nat} (h:d<n):row (ny sizes rows n) d=bj sizes rows (row rows d) (d+1) (n-(d+1)):=by
 rw [je (by simp [ny,h])];simp [ny]
theorem F4 (h:St n m sizes A m rows) (hn:n<=6) (hA:∀ i,A m i=0):St n m sizes A (m+1) (ny sizes rows n):=by
 have hl:∀ d,d<n->(bj sizes rows (row rows d) (d+1) (n-(d+1))).1.length=n/\(bj sizes rows (row rows d) (d+1) (n-(d+1))).2.length=m:=fun d hd=>ja h (h.wf.qS hd) (h.wf.at2 hd) _ (by omega)
 have lg:=vn (D':=DD (ny sizes rows n)) h.gd (fun d e=>vf (bj sizes rows (row rows d) (d+1) (e-(d+1))).1) (fun d hd=>p9 h (h.wf.qS hd) (h.wf.at2 hd) fun i hi=>h.gd.kz d hd i hi) (fun d hd i hi=>by
  show vf (bj sizes rows (row rows d) (d+1) (d+1-(d+1))).1 i=_
  rw [Nat.sub_self];rfl) fun d hd i hi=>by
  unfold DD;rw [mF hd]
 refine ⟨⟨by simp [ny],fun r hr=>?_,fun r hr=>?_⟩,h.hs,h.sm,lg.1,fun d hd=>?_,fun d hd l h1 h2=>by omega,fun d hd=>?_,fun l hl=>?_⟩
 ·obtain ⟨d,hd,rfl⟩:=List.mem_map.mp hr
  exact (hl d (List.mem_range.mp hd)).1
 ·obtain ⟨d,hd,rfl⟩:=List.mem_map.mp hr
  exact (hl d (List.mem_range.mp hd)).2
 ·unfold DD PP
  rw [mF hd]
  have:=xV h (f:=d+1) (h.wf.qS hd) (h.wf.at2 hd) (P₀:=fun _=>0) (B:=fun _=>0) (by
   have q:=h.led d hd
   intro i hi
   have:=q i hi
   simp only [Int.sub_zero];exact this) (n-(d+1)) (by omega)
  intro i hi
  have:=this i hi
  simp only [Int.sub_zero] at this
  exact this
 ·rw [mF hd]
  exact (xG h (f:=d+1) (h.wf.qS hd) (h.wf.at2 hd) (fun i hi=>h.gd.kz d hd i hi) (Nat.le_refl _) (h.bd d hd) (n-(d+1)) (by omega)).mono (by omega)
 ·rcases Nat.lt_or_ge l m with q | q
  ·exact lg.2.2.2.2 n 0 (by omega) _ (h.cl l q)
  ·obtain rfl:l=m:=by omega
   exact G.ext (by omega) (fun i _=>(hA i).symm) (G.zero (by omega))
end
def mP (sizes:List Int) (Ls:List (List Int)) (R:List Row) (idle:List (List Int)):PV:=.obj aA (zP (iZ sizes Ls) R idle)
section
variable {sizes:List Int} {Ls:List (List Int)} {R:List Row} {idle:List (List Int)}
theorem IV:(zP (iZ sizes Ls) R idle).lookup (Str.ofString "vault")=some (iZ sizes Ls):=rfl
theorem Jl:(zP (iZ sizes Ls) R idle).lookup (Str.ofString "made_rows")=some (.lst (R.map mk)):=rfl
theorem QI {g:af->M PV} {env:af} (h:g env=M.ok (mP sizes Ls R idle)):fm (fun c=>c==aA) "vault" g env=M.ok (iZ sizes Ls):=by
 rw [fm,h,M.aM]
 show cC _ (eS (List.lookup _ _))=_
 rw [ax (beq_self_eq_true _),IV];rfl
theorem SE {g:af->M PV} {env:af} (h:g env=M.ok (mP sizes Ls R idle)):fm (fun c=>c==aA) "made_rows" g env=M.ok (.lst (R.map mk)):=by
 rw [fm,h,M.aM]
 show cC _ (eS (List.lookup _ _))=_
 rw [ax (beq_self_eq_true _),Jl];rfl
theorem Ei {A:Nat->cj} {k:Nat} (S:Sz sizes) (hm:Ls.length<=8) (h:St sizes.length Ls.length sizes A k R) (hk:k<=9) {xs:List Int} (hx:Iv sizes xs) (h0:∀ i,i<sizes.length->0<=vf xs i/\vf xs i<vf sizes i) :
  bR [mP sizes Ls R idle,tI xs]=M.ok (mk (bj sizes R (xs,List.replicate Ls.length 0) 0 sizes.length)):=by
 have lo:=qE (f:=0) (B:=150*k+1) (r:=(xs,List.replicate Ls.length 0)) h S.h6 hm hx.len (by simp) h0 (Nat.le_refl _) (by omega) (fun x hx=>by rw [List.eq_of_mem_replicate hx];exact Nat.two_pow_pos _) (Nat.zero_le _)
 rw [Nat.sub_zero] at lo
 unfold bR bw
 dsimp? [QI (sizes:=sizes) (Ls:=Ls) (R:=R) (idle:=idle) (g:=aa 0) (env:=[some (.sh (mP sizes Ls R idle)),some (.sh (tI xs))]) rfl,SE (sizes:=sizes) (Ls:=Ls) (R:=R) (idle:=idle) (g:=aa 0) (env:=[some (.sh (mP sizes Ls R idle)),some (.sh (tI xs))]) rfl,tQ (levers:=Ls) S hx,oh (sizes:=sizes) hm xs,oZ (sizes:=sizes) (levers:=Ls) (g:=fm (fun c=>c==aA) "vault" (aa 0)) (env:=[some (.sh (mP sizes Ls R idle)),some (.sh (tI xs))]) (QI (R:=R) (idle:=idle) rfl),show eO [tI sizes,.lst (R.map mk),mk (xs,List.replicate Ls.length 0),.int 0]=_ from lo]
end
section
variable {sizes:List Int} {Ls:List (List Int)} {R:List Row} {idle:List (List Int)}
end
theorem zu {i j:Int} (h0:0<j) (h:j<2^200):bo (.int i) (.int j)=M.ok (.int (i/j)):=by
 rw [nr (by omega) (Nat.lt_of_lt_of_le (show j.natAbs<2^200 by omega) (Nat.pow_le_pow_right (by decide) (by decide))),Int.fdiv_eq_ediv_of_nonneg _ (by omega)]
theorem tY (ns:List Int) (k:Nat):∃ c,c6 [.jI (ns.map PV.int),.int (k:Int)]=M.ok (.int c):=by
 unfold c6 dJ
 by_cases h:k<ns.length
 ·refine ⟨ns[k],?_⟩
  have h':(k:Int)<((ns.length:Nat):Int):=by omega
  have e:=bF (p:=.jI (ns.map PV.int)) (xs:=ns.map PV.int) (j:=k) (x:=.int ns[k]) rfl (by rw [List.getElem?_map,List.getElem?_eq_getElem h];rfl)
  dsimp? [List.length_map,h',decide_true,e]
 ·refine ⟨0,?_⟩
  have h':¬ (k:Int)<((ns.length:Nat):Int):=by omega
  dsimp? [List.length_map,h',decide_false]
theorem mS (c:Int) (p:PV) (bases:List Int) (hp:bS p=some (bases.map PV.int)) (hb:∀ b∈bases,0<b/\b<2^200) (hl:bases.length<=100):∃ xs:List Int,cL [.int c,p]=M.ok (lI xs)/\xs.length=bases.length/\∀ z∈xs.zip bases,0<=z.1/\z.1<z.2:=by
 suffices h:∃ env':af,ju (cU 4) (ak (jl 2 (aj cR (aa 3) (aa 4))) (ak (aY 3 (aj bo (aa 3) (aa 4))) ao)) (bases.map PV.int) [some (.sh (.int c)),some (.sh p),some (.ow []),some (.sh (.int c)),none]=M.ok (.nx env')/\∃ (d xs:List Int) (left:Int) (y:Option SV),env'=[some (.sh (.int c)),some (.sh p),some (.ow (xs.map PV.int)),some (.sh (.int left)),y]/\bases=d++[]/\xs.length=d.length/\∀ z∈xs.zip d,0<=z.1/\z.1<z.2 by
  obtain ⟨env',e,d,xs,left,y,rfl,hd,hx,hz⟩:=h
  rw [List.append_nil] at hd
  subst hd
  refine ⟨xs,?_,hx,hz⟩
  unfold cL bW
  dsimp? [e6,hp,e]
  rfl
 refine pj (fun r env=>∃ (d xs:List Int) (left:Int) (y:Option SV),env=[some (.sh (.int c)),some (.sh p),some (.ow (xs.map PV.int)),some (.sh (.int left)),y]/\bases=d++r/\xs.length=d.length/\∀ z∈xs.zip d,0<=z.1/\z.1<z.2) ?_ bases _ ⟨[],[],c,none,rfl,rfl,rfl,fun _ h=>nomatch h⟩
 rintro b r env ⟨d,xs,left,y,rfl,hd,hx,hz⟩
 have hbb:=hb b (by rw [hd];simp)
 have dl:d.length<=100:=by
  have:=congrArg List.length hd
  rw [List.length_append] at this;omega
 refine ⟨_,[some (.sh (.int c)),some (.sh p),some (.ow ((xs++[left%b]).map PV.int)),some (.sh (.int (left/b))),some (.sh (.int b))],rfl,?_,d++[b],xs++[left%b],left/b,_,rfl,by rw [hd];simp,by simp [hx],fun z hz'=>?_⟩
 ·dsimp? []
  rw [ue (i:=2) rfl (p:=.int (left%b)) (by dsimp? [aI (i:=left) hbb.1]) (by simp;omega)]
  dsimp? [zu (i:=left) hbb.1 hbb.2,List.map_append]
 ·rw [List.zip_append hx] at hz'
  rcases List.mem_append.mp hz' with q | q
  ·exact hz z q
  ·rw [List.zip_cons_cons,List.zip_nil_left] at q
   rw [List.mem_singleton.mp q]
   exact ⟨Int.emod_nonneg _ (by omega),Int.emod_lt_of_pos _ hbb.1⟩
def qW (sizes xs ys:List Int) (t:Int):List Int:=(xs.zip (ys.zip sizes)).map fun z=>(z.1+t*z.2.1)%z.2.2
theorem vB {sizes xs ys:List Int} {t:Int} (h1:xs.length=sizes.length) (h2:ys.length=sizes.length):(qW sizes xs ys t).length=sizes.length:=by
 simp [qW];omega
theorem C_ {sizes xs ys:List Int} {t:Int} {i:Nat} (h1:xs.length=sizes.length) (h2:ys.length=sizes.length) (hi:i<sizes.length):vf (qW sizes xs ys t) i=(vf xs i+t*vf ys i)%vf sizes i:=by
 rw [aR (by rw [vB h1 h2];exact hi),aR (by omega),aR (by omega),aR hi]
 simp [qW]
theorem C1 {sizes xs ys:List Int} {t:Int} {q:PV} (hs:∀ s∈sizes,0<s) (hl:sizes.length<=6) (h1:xs.length=sizes.length) (hq:bS q=some (ys.map PV.int)) (hy:Bd 200 ys) (ht:t.natAbs<2^200):f9 [lI sizes,tI xs,q,.int t]=M.ok (tI (qW sizes xs ys t)):=by
 have k1:cB (n9 0 1 2) none (aj cR (aj fT (aa 0) (aj cD (aa 3) (aa 1))) (aa 2)) ((xs.zip (ys.zip sizes)).map fun z=>.tup [.int z.1,.int z.2.1,.int z.2.2]) [none,none,none,some (.sh (.int t))]=M.ok ((xs.zip (ys.zip sizes)).map fun z=>.int ((z.1+t*z.2.1)%z.2.2)):=by
  refine Ir (p:=fun z:Int×Int×Int=>PV.int z.1) (q:=fun z:Int×Int×Int=>PV.int z.2.1) (s:=fun z:Int×Int×Int=>PV.int z.2.2) (xs.zip (ys.zip sizes)) fun z hz=>?_
  obtain ⟨m1,m2⟩:=List.of_mem_zip (a:=z.1) (b:=z.2) hz
  obtain ⟨m3,m4⟩:=List.of_mem_zip (a:=z.2.1) (b:=z.2.2) m2
  dsimp? [aZ (k:=200) (l:=200) ht (hy _ m3),aI (i:=z.1+t*z.2.1) (hs _ m4)]
 have z1:(xs.zip (ys.zip sizes)).length<=sizeLine:=by rw [List.length_zip];exact aP (Nat.le_trans (Nat.min_le_left _ _) (by omega))
 unfold f9 eI
 dsimp? [vz (p:=tI xs) (q:=q) (r:=lI sizes) xs ys sizes rfl hq rfl,List.length_map,ax z1,k1]
 rw [tI,qW,List.map_map];rfl
theorem mW (c:Int) (m:Nat) (hm:m<=100):iF (cM [.int c,.int (m:Int)]) fun p=>∃ xs:List Int,p=lI xs/\xs.length=m/\∀ x∈xs,0<=x/\x<2^31:=by
 unfold cM bX
 dsimp? [e6,aI (j:=2147483629) (i:=c) (by decide),iT (n:=(m:Int)) (by omega) (by omega)]
 refine iF.loop (xs:=List.range (m:Int).toNat) (inj:=fun (i:Nat)=>.int (i:Int)) (fun zs env=>∃ (xs:List Int) (u:Int) (y:Option SV),env=[some (.sh (.int c)),some (.sh (.int (m:Int))),some (.ow (xs.map PV.int)),some (.sh (.int u)),y]/\xs.length+zs.length=m/\(∀ z∈zs,z<m)/\0<=u/\u<2^31/\∀ x∈xs,0<=x/\x<2^31) ⟨[],c%2147483629+17,none,rfl,by simp,fun z hz=>by simpa using hz,by omega,by omega,fun x hx=>nomatch hx⟩ ?_ ?_
 ·rintro a r env ⟨xs,u,y,rfl,hl,hz,u0,u1,hx⟩
  have ha:=hz a List.mem_cons_self
  dsimp? [cU,aZ (i:=u) (j:=48271) (k:=31) (l:=31) (by omega) (by decide),aZ (i:=7919) (j:=(a:Int)) (k:=31) (l:=31) (by decide) (by omega),aI (i:=u*48271+7919*(a:Int)+1) (j:=2147483647) (by decide),aH (i:=(u*48271+7919*(a:Int)+1)%2147483647) (j:=5) (by decide) (by decide),ia,ownAt,hZ (xs:=xs.map PV.int) (by simp at hl ⊢;omega),f_]
  exact ⟨_,rfl,_,_,_,rfl,by simp at hl ⊢;omega,fun z h=>hz z (List.mem_cons_of_mem _ h),by omega,by omega,fun x hx'=>by
    rcases List.mem_append.mp hx' with h | h
    ·exact hx x h
    ·rw [List.mem_singleton] at h;omega⟩
 ·rintro env ⟨xs,u,y,rfl,hl,_,_,_,hx⟩
  exact ⟨_,rfl,xs,rfl,by simpa using hl,hx⟩
theorem Bn (p:PV) (n:Nat) (h8:n<=1000):cD (.lst [p]) (.int (n:Int))=M.ok (.lst (List.replicate n p)):=by
 have h2:[p].length*(n:Int).toNat<=sizeLine:=by
  rw [Int.toNat_natCast]
  exact aP (by show 1*n<=1000;omega)
 have h3:(n:Int)<2^63:=Int.lt_of_le_of_lt (Int.ofNat_le.mpr h8) (by decide)
 have h4:-(2^63)<=(n:Int):=Int.le_trans (by decide) (Int.natCast_nonneg n)
 rw [cD,ax ⟨h4,h3,h2⟩,Int.toNat_natCast,qK]
theorem Dz {n:Nat} {a b:Int} (h:b∈List.replicate n a):b=a:=List.eq_of_mem_replicate h
theorem Jp:u6 (.int 10) (.int 30)=M.ok (.int (10^30)):=by
 show cC (decide ((0:Int)<=30/\(30:Int)<=1000000/\(10:Int).natAbs<2^64)=true) _=_
 exact ax (by decide)
theorem Bf (i:Int) (h0:0<=i) (h:i<2^60):iF (fV [.int i]) fun p=>∃ x:Int,p=.int x/\x.natAbs<2^199:=by
 unfold fV eE
 dsimp? [aZ (i:=i) (j:=618033988749894848204586834365) (k:=60) (l:=200) (by omega) (by decide),Jp,aZ (i:=2) (j:=10^30) (k:=60) (l:=200) (by decide) (by decide),aI (i:=i*618033988749894848204586834365) (j:=2*10^30-1) (by decide)]
 exact ⟨_,rfl,_,rfl,by omega⟩
theorem pick (l:List Int) (c:Int) (n:Nat) (hn:l.length=n) (h0:0<n):∃ x,x∈l/\aJ (.lst (l.map PV.int)) (.int (c%(n:Int)))=M.ok (.int x):=by
 have h1:0<=c%(n:Int):=Int.emod_nonneg _ (by omega)
 have h2:c%(n:Int)<n:=Int.emod_lt_of_pos _ (by omega)
 obtain ⟨j,hj⟩:=Int.eq_ofNat_of_zero_le h1
 have hj':j<l.length:=by omega
 refine ⟨l[j],List.getElem_mem _,?_⟩
 rw [hj]
 exact bF (p:=.lst (l.map PV.int)) (j:=j) rfl (by rw [List.getElem?_map,List.getElem?_eq_getElem hj'];rfl)
theorem two {c:Int}:c%2=0\/c%2=1:=by omega
theorem zt (c:Int):iF (fZ [.int c]) fun p=>∃ xs:List Int,p=lI xs/\Sz xs:=by
 obtain ⟨m,em,m1,m6⟩:∃ m:Nat,1+c/2%6=(m:Int)/\1<=m/\m<=6:=⟨(1+c/2%6).toNat,by omega,by omega,by omega⟩
 unfold fZ eF
 dsimp? [aH (i:=c) (j:=2) (by decide) (by decide),aI (i:=c/2) (j:=6) (by decide),em,aI (i:=c) (j:=2) (by decide),aH (i:=c) (j:=12) (by decide) (by decide)]
 rcases two (c:=c) with h | h
 ·simp only [h,show ¬ (0:Int)=1 by decide,decide_false]
  obtain ⟨_,es,xs,rfl,xl,xb⟩:=mW (c/12) m (by omega)
  dsimp? [e6,es,aH (i:=c) (j:=12) (by decide) (by decide)]
  refine iF.loop (xs:=xs) (inj:=PV.int) (fun zs env=>∃ (ss:List Int) (y:Option SV),env=[some (.sh (.int c)),some (.sh (.int (m:Int))),some (.ow (ss.map PV.int)),y]/\ss.length+zs.length=m/\(∀ s∈ss,2<=s/\s<=360)) ⟨[],none,rfl,by simpa using xl,fun _ h=>nomatch h⟩ ?_ ?_
  ·rintro a r env ⟨ss,y,rfl,hl,hs⟩
   have hl':(ss.map PV.int).length<1000:=by simp at hl ⊢;omega
   have fin:∀ v:Int,2<=v/\v<=360->(ss++[v]).length+r.length=m/\∀ s∈ss++[v],2<=s/\s<=360:=fun v hv=>⟨by simp at hl ⊢;omega,fun s h'=>by
    rcases List.mem_append.mp h' with q | q
    ·exact hs s q
    ·rw [List.mem_singleton.mp q];exact hv⟩
   dsimp? [cU,aH (i:=c) (j:=12) (by decide) (by decide),aI (i:=c/12) (j:=2) (by decide)]
   rcases two (c:=c/12) with h2 | h2
   ·obtain ⟨v,hv,ev⟩:=pick [2,3,4,6,8,9,12,16,24,27,32,36,64,72,81,128,243,256,360] a 19 rfl (by decide)
    simp only [h2,decide_true]
    dsimp? [aI (i:=a) (j:=19) (by decide),ia,ownAt]
    rw [show ((19:Nat):Int)=19 from rfl] at ev
    simp only [List.map_cons,List.map_nil] at ev
    rw [ev]
    dsimp? [hZ hl',f_]
    obtain ⟨f1,f2⟩:=fin v (by simp at hv;omega)
    exact ⟨_,rfl,_,_,rfl,f1,f2⟩
   ·simp only [h2,show ¬ (1:Int)=0 by decide,decide_false]
    dsimp? [aI (i:=a) (j:=30) (by decide),aZ (i:=12) (j:=1+a%30) (k:=31) (l:=31) (by decide) (by omega),ia,ownAt,hZ hl',f_]
    obtain ⟨f1,f2⟩:=fin (12*(1+a%30)) (by omega)
    exact ⟨_,rfl,_,_,rfl,f1,f2⟩
  ·rintro env ⟨ss,y,rfl,hl,hs⟩
   refine ⟨_,rfl,ss,rfl,?_,?_,hs⟩
   ·simp at hl;omega
   ·simp at hl;omega
 ·simp only [h,decide_true]
  obtain ⟨xs,ex,xl,xb⟩:=mS (c/12) (.lst (List.replicate m (.int 359))) (List.replicate m 359) (by rw [List.map_replicate];rfl) (fun b hb=>by rw [Dz hb];decide) (by simp;omega)
  rw [List.length_replicate] at xl
  dsimp? [aH (i:=c) (j:=12) (by decide) (by decide),Bn (.int 359) m (by omega),ex,List.length_map,ax (aP (show xs.length<=1000 by omega)),lU (f:=aj fT (fun _=>M.ok (.int 2)) (aa 0)) (inj:=PV.int) (h:=fun x=>.int (2+x)) (rest:=[]) (x0:=none) xs fun a _=>by dsimp? []]
  refine ⟨_,rfl,xs.map (2+·),by rw [lI,List.map_map];rfl,by simp;omega,by simp;omega,fun x hx=>?_⟩
  obtain ⟨y,hy,rfl⟩:=List.mem_map.mp hx
  obtain ⟨i,hi,rfl⟩:=List.mem_iff_getElem.mp hy
  have:=xb (xs[i],359) (List.mem_iff_getElem.mpr ⟨i,by simp;omega,by simp⟩)
  simp at this;omega
theorem zp {sizes:List Int} (S:Sz sizes) (c:Int):iF (fP [.int c,lI sizes]) fun p=>∃ xs:List Int,p=lI xs/\xs.length=sizes.length/\Bd 200 xs:=by
 have l6:=S.h6
 obtain ⟨_,es,xs,rfl,xl,xb⟩:=mW c sizes.length (by omega)
 unfold fP d_
 dsimp? [e6,es,fy (p:=lI xs) (q:=lI sizes) xs sizes rfl rfl]
 refine iF.loop (xs:=xs.zip sizes) (inj:=fun z=>.tup [.int z.1,.int z.2]) (fun zs env=>∃ (ss:List Int) (y1 y2 y3:Option SV),env=[some (.sh (.int c)),some (.sh (lI sizes)),some (.ow (ss.map PV.int)),y1,y2,y3]/\ss.length+zs.length=sizes.length/\Bd 200 ss/\∀ z∈zs,z.1∈xs/\z.2∈sizes) ⟨[],none,none,none,rfl,by simp;omega,(fun _ h=>nomatch h),fun z hz=>kF hz⟩ ?_ ?_
 ·rintro ⟨a,s⟩ r env ⟨ss,y1,y2,y3,rfl,hl,hs,hm⟩
  obtain ⟨ma,ms⟩:=hm (a,s) List.mem_cons_self
  have ha:=xb a ma
  have hz:=S.hx s ms
  have hm':∀ z∈r,z.1∈xs/\z.2∈sizes:=fun z hz=>hm z (List.mem_cons_of_mem _ hz)
  have hl':(ss.map PV.int).length<1000:=by simp at hl ⊢;omega
  have fin:∀ v:Int,v.natAbs<2^200->(ss++[v]).length+r.length=sizes.length/\Bd 200 (ss++[v]):=fun v hv=>⟨by simp at hl ⊢;omega,fun s h'=>by
   rcases List.mem_append.mp h' with q | q
   ·exact hs s q
   ·rw [List.mem_singleton.mp q];exact hv⟩
  dsimp? [bC,aI (i:=a) (j:=4) (by decide)]
  by_cases h0:a%4=0
  ·obtain ⟨_,eg,v,rfl,hv⟩:=Bf (a/4) (by omega) (by omega)
   simp only [h0,decide_true]
   dsimp? [aH (i:=a) (j:=4) (by decide) (by decide),eg,ia,ownAt,hZ hl',f_]
   obtain ⟨f1,f2⟩:=fin v (by omega)
   exact ⟨_,rfl,_,_,_,_,rfl,f1,f2,hm'⟩
  ·simp only [h0,decide_false]
   dsimp? [aI (i:=a) (j:=4) (by decide)]
   by_cases h1:a%4=1
   ·simp only [h1,decide_true]
    dsimp? [ia,ownAt,hZ hl',f_]
    obtain ⟨f1,f2⟩:=fin 0 (by decide)
    exact ⟨_,rfl,_,_,_,_,rfl,f1,f2,hm'⟩
   ·simp only [h1,decide_false]
    obtain ⟨v,hv,ev⟩:=pick [1,1,2,3,4,6,12] (a/4) 7 rfl (by decide)
    rw [show ((7:Nat):Int)=7 from rfl] at ev
    simp only [List.map_cons,List.map_nil] at ev
    have hv':1<=v/\v<=12:=by simp at hv;omega
    dsimp? [aH (i:=a) (j:=4) (by decide) (by decide),aI (i:=a/4) (j:=7) (by decide)]
    rw [ev]
    have b1:0<=a/28%s:=Int.emod_nonneg _ (by omega)
    have b2:a/28%s<s:=Int.emod_lt_of_pos _ (by omega)
    have b3:0<=a/28%s*v%s:=Int.emod_nonneg _ (by omega)
    have b4:a/28%s*v%s<s:=Int.emod_lt_of_pos _ (by omega)
    dsimp? [aH (i:=a) (j:=28) (by decide) (by decide),aI (i:=a/28) (j:=s) (by omega),aZ (i:=a/28%s) (j:=v) (k:=31) (l:=31) (by omega) (by omega),aI (i:=a/28%s*v) (j:=s) (by omega),ia,ownAt,hZ hl',f_]
    obtain ⟨f1,f2⟩:=fin (a/28%s*v%s) (by omega)
    exact ⟨_,rfl,_,_,_,_,rfl,f1,f2,hm'⟩
 ·rintro env ⟨ss,y1,y2,y3,rfl,hl,hs,_⟩
  exact ⟨_,rfl,ss,rfl,by simpa using hl,hs⟩
theorem wG (ns:List Int) {sizes:List Int} (S:Sz sizes):iF (fj [.jI (ns.map PV.int),lI sizes]) fun p=>∃ raw:List (List Int),p=.lst (raw.map lI)/\raw.length<=8/\∀ l∈raw,l.length=sizes.length/\Bd 200 l:=by
 have l6:=S.h6
 obtain ⟨c,ec⟩:=tY ns 1
 rw [show ((1:Nat):Int)=1 from rfl] at ec
 have h1:0<=c%9:=by omega
 have h2:c%9<9:=by omega
 unfold fj dC
 dsimp? [e6,ec,aI (i:=c) (j:=9) (by decide),iT h1 (by omega)]
 refine iF.loop (xs:=List.range (c%9).toNat) (inj:=fun (i:Nat)=>.int (i:Int)) (fun zs env=>∃ (raw:List (List Int)) (y1 y2:Option SV),env=[some (.sh (.jI (ns.map PV.int))),some (.sh (lI sizes)),some (.ow (raw.map lI)),y1,y2]/\raw.length+zs.length=(c%9).toNat/\(∀ z∈zs,z<9)/\∀ l∈raw,l.length=sizes.length/\Bd 200 l) ⟨[],none,none,rfl,by simp,(fun z hz=>by rw [List.mem_range] at hz;omega),fun _ h=>nomatch h⟩ ?_ ?_
 ·rintro k r env ⟨raw,y1,y2,rfl,hl,hz,hr⟩
  have hk:=hz k List.mem_cons_self
  have hz':∀ z∈r,z<9:=fun z h=>hz z (List.mem_cons_of_mem _ h)
  obtain ⟨d,ed⟩:=tY ns (2+k)
  rw [show ((2+k:Nat):Int)=2+(k:Int) by omega] at ed
  have hl':(raw.map lI).length<1000:=by simp at hl ⊢;omega
  have fin:∀ v:List Int,v.length=sizes.length->Bd 200 v->(raw++[v]).length+r.length=(c%9).toNat/\∀ l∈raw++[v],l.length=sizes.length/\Bd 200 l:=fun v h1 h2=>⟨by simp at hl ⊢;omega,fun s h'=>by
   rcases List.mem_append.mp h' with q | q
   ·exact hr s q
   ·rw [List.mem_singleton.mp q];exact ⟨h1,h2⟩⟩
  dsimp? [cU,ed,ec,aH (i:=c) (j:=9) (by decide) (by decide),aI (i:=c/9) (j:=2) (by decide)]
  rcases two (c:=c/9) with h2 | h2
  ·simp only [h2,show ¬ (0:Int)=1 by decide,decide_false]
   obtain ⟨_,el,v,rfl,hv1,hv2⟩:=zp S (d+7919*(k:Int))
   dsimp? [aZ (i:=7919) (j:=(k:Int)) (k:=31) (l:=31) (by decide) (by omega),el,ia,ownAt,hZ hl']
   obtain ⟨f1,f2⟩:=fin v hv1 hv2
   exact ⟨_,rfl,raw++[v],_,_,by rw [List.map_append];rfl,f1,hz',f2⟩
  ·simp only [h2,decide_true]
   obtain ⟨v,ev,hv1,hv2⟩:=mS d (lI sizes) sizes rfl (fun b hb=>by have:=S.hx b hb;omega) (by omega)
   dsimp? [ev,ia,ownAt,hZ hl']
   obtain ⟨f1,f2⟩:=fin v hv1 fun x hx=>by
    obtain ⟨i,hi,rfl⟩:=List.mem_iff_getElem.mp hx
    have h3:i<sizes.length:=by omega
    have:=hv2 (v[i],sizes[i]) (List.mem_iff_getElem.mpr ⟨i,by simp;omega,by simp⟩)
    have h4:=S.hx _ (List.getElem_mem h3)
    simp at this
    omega
   exact ⟨_,rfl,raw++[v],_,_,by rw [List.map_append];rfl,f1,hz',f2⟩
 ·rintro env ⟨raw,y1,y2,rfl,hl,_,hr⟩
  exact ⟨_,rfl,raw,rfl,by simp at hl;omega,hr⟩
theorem xB {xs:List Int} {i:Nat} (h:i<xs.length):aJ (lI xs) (.int (i:Int))=M.ok (.int (vf xs i)) :=
 bF (p:=lI xs) rfl (by rw [List.getElem?_map,List.getElem?_eq_getElem h,aR h];rfl)
theorem getD_at {α β:Type} (f:α->β) {xs:List α} {a:α} {b:β} {l:Nat} (h:l<xs.length):(xs.map f).getD l b=f (xs.getD l a):=by
 rw [List.getD_eq_getElem?_getD,List.getD_eq_getElem?_getD,List.getElem?_map,List.getElem?_eq_getElem h];rfl
theorem getD_mem {α:Type} {xs:List α} {a:α} {l:Nat} (h:l<xs.length):xs.getD l a∈xs:=by
 rw [List.getD_eq_getElem?_getD,List.getElem?_eq_getElem h];exact List.getElem_mem h
theorem Cd {sizes:List Int} {raw:List (List Int)} (S:Sz sizes) (hr:∀ l∈raw,l.length=sizes.length/\Bd 200 l):I_ sizes.length raw.length sizes (raw.map fun l=>An l sizes)/\∀ l,l<raw.length->∀ i,i<sizes.length->AA (raw.map fun l=>An l sizes) l i=vf (raw.getD l []) i%vf sizes i:=by
 have e:∀ l,l<raw.length->∀ i,i<sizes.length->AA (raw.map fun l=>An l sizes) l i=vf (raw.getD l []) i%vf sizes i:=fun l hl i hi=>by
  unfold AA
  rw [getD_at (a:=[]) _ hl,CZ,kE (by rw [(hr _ (getD_mem hl)).1];exact hi) hi]
 refine ⟨⟨by simp,fun l hl=>?_,fun l hl i hi=>?_⟩,e⟩
 ·rw [getD_at (a:=[]) _ hl,CZ,jZ,(hr _ (getD_mem hl)).1];omega
 ·rw [e l hl i hi]
  have:=S.hx _ (List.getElem_mem hi)
  rw [← aR hi] at this
  exact ⟨Int.emod_nonneg _ (by omega),Int.emod_lt_of_pos _ (by omega)⟩
theorem n6 {sizes:List Int} (S:Sz sizes):∀ i,i<sizes.length->0<vf sizes i/\vf sizes i<=360:=fun i hi=>by
 have:=S.hx _ (List.getElem_mem hi)
 rw [← aR hi] at this
 omega
theorem xt {sizes xs:List Int} (h:xs.length=sizes.length) (h0:∀ i,i<sizes.length->0<=vf xs i/\vf xs i<vf sizes i):Iv sizes xs:=⟨h,fun z hz=>by
 obtain ⟨i,hi,rfl⟩:=List.mem_iff_getElem.mp hz
 rw [List.length_zip] at hi
 have:=h0 i (by omega)
 rw [aR (by omega),aR (by omega)] at this
 simpa using this⟩
def pN (ns:List Int) (a b:Nat):List Int:=(ns.drop (HT.c_ ns.length 0 (some (a:Int)))).take (HT.c_ ns.length ns.length (some (b:Int))-HT.c_ ns.length 0 (some (a:Int)))
theorem DH (ns:List Int) (a b:Nat):Kn (.jI (ns.map PV.int)) (some (a:Int)) (some (b:Int))=M.ok (.lst ((pN ns a b).map PV.int)):=by
 show M.ok (PV.lst (rm (ns.map PV.int) _ _))=_
 rw [rm,pN,List.map_take,List.map_drop,List.length_map]
theorem sH (ns:List Int) (a b:Nat):(pN ns a b).length<=b-a:=by
 unfold pN
 rw [List.length_take,List.length_drop,HT.yh,HT.yh]
 omega
theorem zy (xs:List Int) (h:xs.length<=100):fT (.lst (xs.map PV.int)) (.lst [.int 0])=M.ok (lI (xs++[0])):=by
 rw [fT,ax (aP (by simp;omega)),lI,List.map_append];rfl
theorem pH {xs:List Int} {z:Int×Nat} (h:z∈xs.zipIdx):z.2<xs.length:=by
 obtain ⟨i,hi,rfl⟩:=List.mem_iff_getElem.mp h
 simp at hi ⊢;exact hi
theorem Hw (Ls:List (List Int)) (i:Nat):AA Ls Ls.length i=0:=by
 unfold AA
 rw [List.getD_eq_getElem?_getD,List.getElem?_eq_none (Nat.le_refl _)]
 exact xf (Nat.zero_le _)
section
variable {sizes:List Int} {Ls:List (List Int)} {R:List Row} {idle:List (List Int)} {A:Nat->cj} {k:Nat}
theorem xj {m:Str} {sem:List PV->M PV} {x:M (List PV)} (h:(zP (iZ sizes Ls) R idle).lookup m=none):vQ aA m sem (mP sizes Ls R idle) x=x.bind fun ps=>sem (mP sizes Ls R idle::ps):=nN h
theorem Kg:D_ (fun c=>c==aA) "vault" (mP sizes Ls R idle)=M.ok (iZ sizes Ls):=v8 (beq_self_eq_true _) IV
theorem QC:D_ (fun c=>c==aA) "made_rows" (mP sizes Ls R idle)=M.ok (.lst (R.map mk)):=v8 (beq_self_eq_true _) Jl
theorem Kb:vQ aB "sizes" aT (iZ sizes Ls) (M.ok [])=M.ok (tI sizes):=(nN (fl:=qZ sizes Ls) rfl).trans (uY sizes Ls)
def lst (sizes:List Int) (Ls:List (List Int)) (R:List Row) (xs:List Int):List Int:=(bj sizes R (xs,List.replicate Ls.length 0) 0 sizes.length).1
theorem sQ (h:St sizes.length Ls.length sizes A k R) {xs:List Int} (hl:xs.length=sizes.length) (h0:∀ i,i<sizes.length->0<=vf xs i/\vf xs i<vf sizes i) :
  (lst sizes Ls R xs).length=sizes.length/\(∀ i,i<sizes.length->0<=vf (lst sizes Ls R xs) i/\vf (lst sizes Ls R xs) i<aQ (vf sizes) (DD R) i)/\(∀ i,i<sizes.length->0<=vf (lst sizes Ls R xs) i/\vf (lst sizes Ls R xs) i<vf sizes i)/\G sizes.length (vf sizes) (DD R) sizes.length 0 (fun i=>vf xs i-vf (lst sizes Ls R xs) i):=by
 have r2:(List.replicate Ls.length (0:Int)).length=Ls.length:=by simp
 have ll:=ja h (f:=0) (r:=(xs,List.replicate Ls.length 0)) hl r2 sizes.length (by omega)
 have dn:=p9 h (f:=0) (r:=(xs,List.replicate Ls.length 0)) hl r2 h0
 exact ⟨ll.1,fun i hi=>dn.low h.gd sizes.length (Nat.zero_le _) (Nat.le_refl _) i (Nat.zero_le _) hi,fun i hi=>dn.kept h.gd sizes.length (Nat.zero_le _) (Nat.le_refl _) i hi,dn.away h.gd sizes.length (Nat.zero_le _) (Nat.le_refl _) sizes.length (by omega)⟩
theorem u_ (S:Sz sizes) (hm:Ls.length<=8) (h:St sizes.length Ls.length sizes A k R) (hk:k<=9) {xs:List Int} (hl:xs.length=sizes.length) (h0:∀ i,i<sizes.length->0<=vf xs i/\vf xs i<vf sizes i) :
  dw [mP sizes Ls R idle,tI xs]=M.ok (tI (lst sizes Ls R xs)):=by
 have dk:=Ei (idle:=idle) S hm h hk (xt hl h0) h0
 unfold dw cN
 dsimp? [cZ,xj (m := "brought_down") rfl,dk,sI]
 rfl
def jh (sizes:List Int) (R:List Row):List Int:=(List.range sizes.length).map fun d=>aQ (vf sizes) (DD R) d
theorem iO:(jh sizes R).length=sizes.length:=by simp [jh]
theorem tJ {i:Nat} (h:i<sizes.length):vf (jh sizes R) i=aQ (vf sizes) (DD R) i:=by
 rw [aR (by rw [iO];exact h)];simp [jh]
theorem wo (S:Sz sizes) (h:St sizes.length Ls.length sizes A k R):dD [mP sizes Ls R idle]=M.ok (tI (jh sizes R)):=by
 have l6:=S.h6
 have key:cB (cU 0) none (ai cV (ae (aa 2) (ae (fm (fun c=>c==aA) "made_rows" (aa 1)) (ae (aa 0) aq)))) ((List.range sizes.length).map fun (i:Nat)=>.int (i:Int)) [none,some (.sh (mP sizes Ls R idle)),some (.sh (tI sizes))]=M.ok ((List.range sizes.length).map fun d=>.int (aQ (vf sizes) (DD R) d)):=by
  refine lU (inj:=fun (i:Nat)=>PV.int (i:Int)) (List.range sizes.length) fun i hi=>?_
  dsimp? [mE,QC,sW h.wf h.hs (List.mem_range.mp hi)]
 unfold dD cO
 dsimp? [mE,Kg,cZ,Kb,iT (n:=(sizes.length:Int)) (by omega) (by omega),Int.toNat_natCast,List.length_map,List.length_range,ax (aP (show sizes.length<=1000 by omega)),key]
 rw [tI,jh,List.map_map];rfl
end
section
variable {sizes:List Int} {raw Ls:List (List Int)} {R:List Row} {k:Nat}
theorem Cp (S:Sz sizes):∀ s∈sizes,0<s:=fun s hs=>by have:=S.hx s hs;omega
theorem qN (S:Sz sizes) {F:List Int} (h:F.length=sizes.length) (k:∀ i,i<sizes.length->0<=vf F i/\vf F i<vf sizes i):Bd 200 F:=fun x hx=>by
 obtain ⟨i,hi,rfl⟩:=List.mem_iff_getElem.mp hx
 have h2:=k i (by omega)
 rw [aR hi] at h2
 have:=n6 S i (by omega)
 omega
theorem wN (S:Sz sizes) {xs ys:List Int} {t:Int} (h1:xs.length=sizes.length) (h2:ys.length=sizes.length):(qW sizes xs ys t).length=sizes.length/\(∀ i,i<sizes.length->0<=vf (qW sizes xs ys t) i/\vf (qW sizes xs ys t) i<vf sizes i)/\∀ i,i<sizes.length->vf sizes i∣vf (qW sizes xs ys t) i-(vf xs i+t*vf ys i) :=
 ⟨vB h1 h2,fun i hi=>by
  rw [C_ h1 h2 hi]
  have:=n6 S i hi
  exact ⟨Int.emod_nonneg _ (by omega),Int.emod_lt_of_pos _ (by omega)⟩,fun i hi=>by rw [C_ h1 h2 hi];exact eh _ _⟩
structure Ee (ns:List Int) (sizes:List Int) (raw Ls:List (List Int)) (R:List Row) (idle:List (List Int)):Prop where
 S:Sz sizes
 hr:∀ l∈raw,l.length=sizes.length/\Bd 200 l
 eL:Ls=raw.map fun l=>An l sizes
 hm:raw.length=Ls.length
 m8:Ls.length<=8
 eA:∀ l,l<raw.length->∀ i,i<sizes.length->AA Ls l i=vf (raw.getD l []) i%vf sizes i
 LL:I_ sizes.length Ls.length sizes Ls
 st:St sizes.length Ls.length sizes (AA Ls) (Ls.length+1) R
 I:Bu sizes.length Ls.length (vf sizes) (AA Ls) Ls.length idle
 pr:a0 Ls.length (fun j=>II idle j j)*a0 sizes.length (aQ (vf sizes) (DD R))=a0 sizes.length (vf sizes)
 ord:∀ j,j<Ls.length->∀ P:cj,Zf (j+1) Ls.length P->Led sizes.length (vf sizes) Ls.length (AA Ls) (fun _=>0) P->II idle j j∣P j
 low:∀ d,d<sizes.length->∀ e,d<e->e<sizes.length->DD R d e<aQ (vf sizes) (DD R) e
 nul:∀ d,d<sizes.length->DD R d d=0->∀ i,i<sizes.length->DD R d i=0
 K2:jP aB hV [.cS] [lI sizes,.lst (raw.map lI)]=M.ok (iZ sizes Ls)
 Nn:jP aA ib [] [iZ sizes Ls]=M.ok (mP sizes Ls R idle)
theorem Ee.get (ns:List Int) {sizes:List Int} (S:Sz sizes) {raw:List (List Int)} (r8:raw.length<=8) (hr:∀ l∈raw,l.length=sizes.length/\Bd 200 l):∃ Ls R idle,Ee ns sizes raw Ls R idle:=by
 have l6:=S.h6
 have sp:=n6 S
 obtain ⟨LL,eA⟩:=Cd S hr
 have K2:=DL sizes raw S r8 fun l h=>(hr l h).1
 have hm:raw.length=(raw.map fun l=>An l sizes).length:=by simp
 generalize hLs:(raw.map fun l=>An l sizes)=Ls at *
 rw [hm] at LL r8
 have K:=B7.all (c:=cf) rfl sp LL AD l6 Ls.length (Nat.le_refl _)
 have Nn:=BC S.h1 l6 r8 sp LL
 generalize RK cf sizes Ls sizes.length Ls.length Ls.length=rk at *
 have h:=K.st
 have hl:∀ d,d<sizes.length->(bj sizes rk.1 (row rk.1 d) (d+1) (sizes.length-(d+1))).1.length=sizes.length:=fun d hd=>(ja h (h.wf.qS hd) (h.wf.at2 hd) _ (by omega)).1
 have lg:=vn (D':=DD (ny sizes rk.1 sizes.length)) h.gd (fun d e=>vf (bj sizes rk.1 (row rk.1 d) (d+1) (e-(d+1))).1) (fun d hd=>p9 h (h.wf.qS hd) (h.wf.at2 hd) fun i hi=>h.gd.kz d hd i hi) (fun d hd i hi=>by
  show vf (bj sizes rk.1 (row rk.1 d) (d+1) (d+1-(d+1))).1 i=_
  rw [Nat.sub_self];rfl) (fun d hd i hi=>by unfold DD;rw [mF hd])
 refine ⟨Ls,ny sizes rk.1 sizes.length,rk.2,S,hr,hLs.symm,hm,r8,eA,LL,F4 K.st l6 (Hw Ls),K.uL,?_,K.ord,?_,?_,K2,Nn⟩
 ·rw [iW (f:=aQ (vf sizes) (DD (ny sizes rk.1 sizes.length))) (g:=aQ (vf sizes) (DD rk.1)) lg.2.1]
  exact K.pr
 ·intro d hd e h1 h2
  rw [lg.2.1 e h2]
  exact lg.2.2.1 d hd e h1 h2
 ·exact lg.2.2.2.1
end
theorem va {sizes:List Int} (S:Sz sizes) (c:Int):iF (dS [.int c,lI sizes]) fun p=>∃ xs:List Int,p=tI xs/\xs.length=sizes.length/\∀ i,i<sizes.length->0<=vf xs i/\vf xs i<vf sizes i:=by
 have l6:=S.h6
 unfold dS c8
 dsimp? [aI (i:=c) (j:=2) (by decide)]
 rcases two (c:=c) with h | h
 ·simp only [h,show ¬ (0:Int)=1 by decide,decide_false]
  obtain ⟨_,es,xs,rfl,xl,xb⟩:=mW (c/2) sizes.length (by omega)
  have key:cB (bC 0 1) none (aj cR (aa 0) (aa 1)) ((xs.zip sizes).map fun z=>.tup [.int z.1,.int z.2]) [none,none]=M.ok ((xs.zip sizes).map fun z=>.int (z.1%z.2)):=by
   refine j_ (p:=fun z:Int×Int=>PV.int z.1) (q:=fun z:Int×Int=>PV.int z.2) (xs.zip sizes) fun z hz=>?_
   dsimp? [aI (i:=z.1) (Cp S _ (kF hz).2)]
  have hz:(xs.zip sizes).length<=sizeLine:=by rw [List.length_zip];exact aP (Nat.le_trans (Nat.min_le_left _ _) (by omega))
  dsimp? [aH (i:=c) (j:=2) (by decide) (by decide),es,fy (p:=lI xs) (q:=lI sizes) xs sizes rfl rfl,List.length_map,ax hz,key]
  refine ⟨_,rfl,(xs.zip sizes).map fun z=>z.1%z.2,by rw [tI,List.map_map];rfl,by simp;omega,fun i hi=>?_⟩
  have:=n6 S i hi
  rw [aR (by simp;omega)]
  simp only [List.getElem_map,List.getElem_zip]
  rw [aR hi] at this ⊢
  exact ⟨Int.emod_nonneg _ (by omega),Int.emod_lt_of_pos _ (by omega)⟩
 ·simp only [h,decide_true]
  obtain ⟨xs,ex,xl,xb⟩:=mS (c/2) (lI sizes) sizes rfl (fun b hb=>by have:=S.hx b hb;omega) (by omega)
  dsimp? [aH (i:=c) (j:=2) (by decide) (by decide),ex]
  refine ⟨_,rfl,xs,rfl,xl,fun i hi=>?_⟩
  have:=xb (xs[i]'(by omega),sizes[i]) (List.mem_iff_getElem.mpr ⟨i,by simp;omega,by simp⟩)
  rw [aR (by omega),aR hi]
  exact this
theorem zj (sizes:List Int) (levers:List (List Int)):cA [iZ sizes levers]=M.ok (.int (R sizes)):=by
 unfold cA cv
 dsimp? [fm,iZ,beq_self_eq_true,CS]
theorem QA {sizes:List Int} {Ls:List (List Int)}:vQ aB "around" cA (iZ sizes Ls) (M.ok [])=M.ok (.int (R sizes)):=(nN (fl:=qZ sizes Ls) rfl).trans (zj sizes Ls)
def Kh (sizes ws xs:List Int):Int:=((((ws.zip sizes).map fun z=>z.1*(R sizes/z.2)).zip xs).map fun z=>z.1*z.2).sum%R sizes
theorem p8 {sizes:List Int} (h:Sz sizes) {s:Int} (hs:s∈sizes):0<=R sizes/s/\R sizes/s<2^60:=by
 have h1:=uP h;have h2:=JA h;have h3:=h.hx s hs
 refine ⟨Int.ediv_nonneg (by omega) (by omega),Int.lt_of_le_of_lt (Int.ediv_le_self s (by omega)) h2⟩
theorem Cn {sizes:List Int} (h:Sz sizes) {w s:Int} (hw:0<=w/\w<360) (hs:s∈sizes):(w*(R sizes/s)).natAbs<2^80:=by
 have h1:=p8 h hs
 rw [Int.natAbs_mul]
 have:w.natAbs*(R sizes/s).natAbs<=2^9*2^60:=Nat.mul_le_mul (by omega) (by omega)
 exact Nat.lt_of_le_of_lt this (by decide)
theorem C5 {sizes:List Int} {levers:List (List Int)} (h:Sz sizes) {ws xs:List Int} (hw:Iv sizes ws) (hs:Iv sizes xs):oS [iZ sizes levers,tI ws,tI xs]=M.ok (.int (Kh sizes ws xs)):=by
 have l6:=h.h6
 have k1:cB (bC 0 1) none (aj cD (aa 0) (aj bo (aa 2) (aa 1))) ((ws.zip sizes).map fun z=>.tup [.int z.1,.int z.2]) [none,none,some (.sh (.int (R sizes)))]=M.ok ((ws.zip sizes).map fun z=>.int (z.1*(R sizes/z.2))):=by
  refine j_ (p:=fun z:Int×Int=>PV.int z.1) (q:=fun z:Int×Int=>PV.int z.2) (ws.zip sizes) fun z hz=>?_
  obtain ⟨m1,m2⟩:=kF hz
  have a1:=h.hx z.2 m2;have a2:=uE h hw m1;have a3:=p8 h m2
  dsimp? [aH (i:=R sizes) (show 0<z.2 by omega) (show z.2<2^64 by omega),aZ (k:=64) (l:=64) (show z.1.natAbs<2^64 by omega) (show (R sizes/z.2).natAbs<2^64 by omega)]
 have z1:(ws.zip sizes).length<=sizeLine:=by rw [List.length_zip];exact aP (Nat.le_trans (Nat.min_le_right _ _) (by omega))
 let us:=(ws.zip sizes).map fun z=>z.1*(R sizes/z.2)
 have k2:cB (bC 0 1) none (aj cD (aa 0) (aa 1)) ((us.zip xs).map fun z=>.tup [.int z.1,.int z.2]) [none,none]=M.ok ((us.zip xs).map fun z=>.int (z.1*z.2)):=by
  refine j_ (p:=fun z:Int×Int=>PV.int z.1) (q:=fun z:Int×Int=>PV.int z.2) (us.zip xs) fun z hz=>?_
  obtain ⟨m1,m2⟩:=kF hz
  obtain ⟨y,hy,e⟩:=List.mem_map.mp m1
  obtain ⟨n1,n2⟩:=kF hy
  have a1:=Cn h (uE h hw n1) n2
  rw [e] at a1
  have a2:=uE h hs m2
  dsimp? [aZ (k:=80) (l:=64) a1 (show z.2.natAbs<2^64 by omega)]
 have z2:(us.zip xs).length<=sizeLine:=by rw [List.length_zip];exact aP (Nat.le_trans (Nat.min_le_right _ _) (by rw [hs.len];omega))
 have k3:jc [.lst ((ws.zip sizes).map fun z=>.int (z.1*(R sizes/z.2))),tI xs,.int (R sizes)]=M.ok (.int (Kh sizes ws xs)):=by
  have e0:bS (.lst ((ws.zip sizes).map fun z=>PV.int (z.1*(R sizes/z.2))))=some (us.map PV.int):=by
   rw [vM,List.map_map];rfl
  have e1:z_ [.lst ((us.zip xs).map fun z=>PV.int (z.1*z.2))]=M.ok (.int ((us.zip xs).map fun z=>z.1*z.2).sum):=by
   have:=Bb ((us.zip xs).map fun z=>z.1*z.2)
   rw [List.map_map] at this
   exact this
  unfold jc gC
  dsimp? [fy (q:=tI xs) us xs e0 rfl,List.length_map,ax z2,k2,e1,aI (uP h)]
  rfl
 unfold oS mx
 dsimp? [tQ (levers:=levers) h hw,tQ (levers:=levers) h hs,cZ,QA,Kb,fy (p:=tI ws) (q:=tI sizes) ws sizes rfl rfl,List.length_map,ax z1,k1,k3]
theorem uW (xs:List Int):∀ m,m<=xs.length->(xs.take m).sum=dh m (vf xs)
 | 0,_=>by simp [dh]
 | m+1,h=>by
  rw [dh,← uW xs m (by omega),List.take_succ_eq_append_getElem (by omega),List.sum_append,aR (by omega)];simp
theorem vY (xs:List Int):xs.sum=dh xs.length (vf xs):=by
 rw [← uW xs _ (Nat.le_refl _),List.take_length]
theorem EM {sizes ws xs:List Int} (h1:ws.length=sizes.length) (h2:xs.length=sizes.length):Kh sizes ws xs=hG sizes.length (vf sizes) (R sizes) (vf ws) (vf xs)%R sizes:=by
 unfold Kh hG
 rw [vY]
 have hl:((((ws.zip sizes).map fun z=>z.1*(R sizes/z.2)).zip xs).map fun z=>z.1*z.2).length=sizes.length:=by simp;omega
 rw [hl]
 congr 1
 refine gL fun i hi=>?_
 rw [aR (by rw [hl];exact hi),aR (by omega),aR (by omega),aR (by omega)]
 simp only [List.getElem_map,List.getElem_zip]
 rw [Int.mul_assoc,Int.mul_comm (R sizes/_),← Int.mul_assoc]
section
variable {ns:List Int} {sizes:List Int} {raw Ls:List (List Int)} {T:List Row} {idle:List (List Int)}
theorem Hl (S:Sz sizes):∀ i,i<sizes.length->vf sizes i∣R sizes:=fun i hi=>by rw [aR hi];exact Jo S (List.getElem_mem hi)
def t9 (sizes:List Int) (T:List Row):List Int:=(sizes.zip (jh sizes T)).map fun z=>z.1/z.2
theorem pT:(t9 sizes T).length=sizes.length:=by simp [t9,iO]
theorem xT {i:Nat} (h:i<sizes.length):vf (t9 sizes T) i=gg (vf sizes) (DD T) i:=by
 have e:=tJ (R:=T) h
 rw [aR (by rw [iO];exact h)] at e
 rw [aR (by rw [pT];exact h)]
 simp only [t9,List.getElem_map,List.getElem_zip]
 rw [e,← aR h];rfl
theorem Gk {n j:Nat} (h:j<n):Am n (j:Int)=some j:=by
 unfold Am;rw [if_pos (by omega),if_pos (by omega)];simp
theorem vO {i j:Nat} {xs:List Int} {v:Int} {env:af} (h:j<xs.length):Fx i (xs.map PV.int) (.int v) env (.int (j:Int))=M.ok (.nx (env.set i (some (.ow ((xs.set j v).map PV.int))))):=by
 show (match Am (xs.map PV.int).length (j:Int) with | some j=>_ | none=>_)=_
 rw [List.length_map,Gk h,List.map_set]
theorem qz {xs:List Int} {j i:Nat} {v:Int} (h:i<xs.length):vf (xs.set j v) i=if i=j then v else vf xs i:=by
 rw [aR (by rw [List.length_set];exact h),List.getElem_set,aR h]
 by_cases z:i=j
 ·rw [if_pos z,if_pos z.symm]
 ·rw [if_neg z,if_neg (Ne.symm z)]
theorem A1 (x:Int):Cg (M.ok (.int x))=M.ok (.int x):=Eq.trans rfl rfl
theorem xa (Q:Ee ns sizes raw Ls T idle) {d:Nat} (hd:d<sizes.length):iF (aO [mP sizes Ls T idle,.int (d:Int)]) fun p=>∃ W:List Int,p=tI W/\W.length=sizes.length/\(∀ i,i<sizes.length->0<=vf W i/\vf W i<vf sizes i)/\Wk sizes.length (vf sizes) (DD T) (R sizes) d 0 (vf W):=by
 have l6:=Q.S.h6
 have l1:=Q.S.h1
 have g:=Q.st.gd
 have rl:=Q.st.wf.len
 have qd:=Hl Q.S
 have q0:=uP Q.S
 have q1:=JA Q.S
 have so:=wo (idle:=idle) Q.S Q.st
 have fl:∀ i,i<sizes.length->0<gg (vf sizes) (DD T) i/\gg (vf sizes) (DD T) i<=vf sizes i/\vf sizes i<=360:=fun i hi=>⟨(jg g hi).2.1,(jg g hi).2.2,(n6 Q.S i hi).2⟩
 have key:cB (bC 0 1) none (aj bo (aa 0) (aa 1)) ((sizes.zip (jh sizes T)).map fun z=>.tup [.int z.1,.int z.2]) [none,none]=M.ok ((sizes.zip (jh sizes T)).map fun z=>.int (z.1/z.2)):=by
  refine j_ (p:=fun z:Int×Int=>PV.int z.1) (q:=fun z:Int×Int=>PV.int z.2) (sizes.zip (jh sizes T)) fun z hz=>?_
  obtain ⟨i,hi,e⟩:=List.mem_iff_getElem.mp (kF hz).2
  rw [iO] at hi
  have e2:=tJ (R:=T) hi
  rw [aR (by rw [iO];exact hi),e] at e2
  have p:=g.pos hi
  have:=n6 Q.S i hi
  dsimp? [aH (i:=z.1) (j:=z.2) (by omega) (by omega)]
 have zl:(sizes.zip (jh sizes T)).length<=sizeLine:=by rw [List.length_zip];exact aP (Nat.le_trans (Nat.min_le_left _ _) (by omega))
 have ef:PV.lst ((sizes.zip (jh sizes T)).map fun z=>PV.int (z.1/z.2))=lI (t9 sizes T):=by rw [lI,t9,List.map_map];rfl
 have wi:bx [.int (d:Int),.int 0,.int ((sizes.length:Int)-1)]=M.ok (.bl true):=by
  rw [within_int,decide_eq_true (by omega)]
 have e0:C2 (.lst [.int 0]) (.int (sizes.length:Int))=M.ok ((List.replicate sizes.length 0).map PV.int):=by
  rw [C2,ax ⟨by omega,by omega,by rw [Int.toNat_natCast];exact aP (by show 1*sizes.length<=1000;omega)⟩,Int.toNat_natCast,qK,List.map_replicate]
 unfold aO aX
 dsimp? [mE,Kg,cZ,Kb,wi,xj (m := "steps") rfl,so,fy (p:=tI sizes) (q:=tI (jh sizes T)) sizes (jh sizes T) rfl rfl,List.length_map,ax zl,key,ef,HC,e0,Jq,ownAt,xB (xs:=t9 sizes T) (i:=d) (by rw [pT];exact hd),xT hd,jL (xs:=sizes) (i:=d) hd,aI (i:=gg (vf sizes) (DD T) d) (j:=vf sizes d) (by have:=fl d hd;omega),vO (i:=4) (xs:=List.replicate sizes.length 0) (j:=d) (by simp;exact hd),vS d (by omega)]
 refine iF.loop (xs:=List.range d) (inj:=fun (i:Nat)=>.int ((d:Int)-1+(i:Int)*-1)) (fun zs env=>∃ (c:Nat) (W:List Int) (y5 y6 y7:Option SV),env=[some (.sh (mP sizes Ls T idle)),some (.sh (.int (d:Int))),some (.sh (tI sizes)),some (.sh (lI (t9 sizes T))),some (.ow (W.map PV.int)),y5,y6,y7]/\c<=d/\zs=(List.range d).drop c/\W.length=sizes.length/\(∀ i,i<sizes.length->0<=vf W i/\vf W i<vf sizes i)/\Wk sizes.length (vf sizes) (DD T) (R sizes) d (d-c) (vf W)) ⟨0,_,_,_,_,rfl,by omega,rfl,by simp,fun i hi=>?_,Wk.start g qd hd fun i hi=>?_⟩ ?_ ?_
 ·rw [qz (by simp;exact hi),uA]
  have:=fl i hi
  split
  ·rename_i z;subst z;exact ⟨Int.emod_nonneg _ (by omega),Int.emod_lt_of_pos _ (by omega)⟩
  ·omega
 ·rw [qz (by simp;exact hi),uA]
 ·rintro k r env ⟨c,W,y5,y6,y7,rfl,hc,hz,Wl,W0,Wt⟩
  obtain ⟨c1,c2,c3⟩:=drop_cons hz.symm
  rw [List.length_range] at c1
  have ek:k=c:=by rw [List.getElem?_range c1] at c2;exact (Option.some.inj c2).symm
  subst ek
  obtain ⟨a,ha⟩:∃ a,a=d-1-k:=⟨_,rfl⟩
  have ea:((d:Int)-1+(k:Int)*-1)=(a:Int):=by omega
  have an:a<sizes.length:=by omega
  have fa:=fl a an
  have r1:=Q.st.wf.qS an
  have rk:∀ i,i<sizes.length->0<=vf (row T a).1 i/\vf (row T a).1 i<vf sizes i:=fun i hi=>g.kz a an i hi
  have we:=C5 (levers:=Ls) Q.S (xt Wl W0) (xt r1 rk)
  rw [EM Wl r1] at we
  have eq:vf (row T a).1=DD T a:=rfl
  rw [eq] at we
  have p0:0<=hG sizes.length (vf sizes) (R sizes) (vf W) (DD T a)%R sizes:=Int.emod_nonneg _ (by omega)
  have p1:hG sizes.length (vf sizes) (R sizes) (vf W) (DD T a)%R sizes<R sizes:=Int.emod_lt_of_pos _ q0
  have fR:gg (vf sizes) (DD T) a∣R sizes:=Int.dvd_trans ⟨_,(jg g an).1.symm⟩ (qd a an)
  have s0:0<R sizes/gg (vf sizes) (DD T) a:=by
   obtain ⟨x,hx⟩:=fR
   rw [hx,Int.mul_ediv_cancel_left _ (by omega)]
   rcases Int.lt_trichotomy x 0 with q | q | q
   ·have:=Int.mul_neg_of_pos_of_neg fa.1 q;omega
   ·rw [q] at hx;omega
   ·exact q
  have s1:R sizes/gg (vf sizes) (DD T) a<=R sizes:=Int.ediv_le_self _ (by omega)
  have tw:PV.tup (W.map PV.int)=tI W:=rfl
  dsimp? [cU,ea,vR,ownAt,tR,mE,Kg,tw,QC,qh (rows:=T) (d:=a) (by omega),sI,we,A1,cZ,QA,xB (xs:=t9 sizes T) (i:=a) (by rw [pT];exact an),xT an,aH (i:=R sizes) (j:=gg (vf sizes) (DD T) a) (by omega) (by omega),aH (i:=hG sizes.length (vf sizes) (R sizes) (vf W) (DD T a)%R sizes) (j:=R sizes/gg (vf sizes) (DD T) a) (by omega) (by omega),aI (i:=-(hG sizes.length (vf sizes) (R sizes) (vf W) (DD T a)%R sizes/(R sizes/gg (vf sizes) (DD T) a))) (j:=gg (vf sizes) (DD T) a) (by omega),Jq,vO (i:=4) (xs:=W) (j:=a) (by omega)]
  refine ⟨_,rfl,k+1,_,_,_,_,rfl,by omega,c3.symm,by simpa using Wl,fun i hi=>?_,?_⟩
  ·rw [qz (by omega)]
   split
   ·rename_i z;subst z
    have h1:=Int.emod_nonneg (-(hG sizes.length (vf sizes) (R sizes) (vf W) (DD T i)%R sizes/(R sizes/gg (vf sizes) (DD T) i))) (show gg (vf sizes) (DD T) i≠0 by omega)
    have h2:=Int.emod_lt_of_pos (-(hG sizes.length (vf sizes) (R sizes) (vf W) (DD T i)%R sizes/(R sizes/gg (vf sizes) (DD T) i))) fa.1
    omega
   ·exact W0 i hi
  ·rw [show d-(k+1)=a by omega]
   refine Wk.next g q0 qd hd (w:=vf W) (by rw [show a+1=d-k by omega];exact Wt) (by omega) ?_ fun i hi hne=>?_
   ·rw [qz (by omega),if_pos rfl]
   ·rw [qz (by omega),if_neg hne]
 ·rintro env ⟨c,W,y5,y6,y7,rfl,hc,hz,Wl,W0,Wt⟩
  have:c=d:=by
   have:=congrArg List.length hz
   rw [List.length_drop,List.length_range] at this
   simp at this;omega
  subst this
  rw [Nat.sub_self] at Wt
  exact ⟨_,rfl,W,rfl,Wl,W0,Wt⟩
end
theorem xZ (i j:Nat) (env:af) (p q:PV):Jd i j env [p,q]=M.ok (.nx ((env.set i (some (.sh p))).set j (some (.sh q)))):=rfl
theorem Bj (sizes:List Int) (h:Sz sizes):fX [lI sizes]=M.ok (.int (R sizes)):=by
 unfold fX dU
 dsimp? []
 refine dM sizes (fun r env=>∃ acc x y z,env=[some (.sh (lI sizes)),some (.sh (.int (acc:Nat))),x,y,z]/\Acc sizes r acc) ⟨1,_,_,_,rfl,.start h⟩ ?_ ?_
 ·rintro a r env ⟨acc,x,y,z,rfl,A⟩
  obtain ⟨A2,e1,e2,e3⟩:=A.turn
  have l1:=A.lt
  have ha:=A.kz a List.mem_cons_self
  have g1:Int.gcd acc a<=acc:=Nat.le_of_dvd A.pos (Int.ofNat_dvd.mp (Int.gcd_dvd_left ..))
  have d0:0<=(acc:Int)/(Int.gcd acc a:Nat):=Int.ediv_nonneg (by omega) (by omega)
  refine ⟨_,[some (.sh (lI sizes)),some (.sh (.int (Nat.lcm acc a.toNat:Nat))),some (.sh (.int a)),some (.sh (.int (Int.gcd acc a:Nat))),some (.sh (.int 0))],rfl,?_,_,_,_,_,rfl,A2⟩
  dsimp? [AQ,xZ]
  refine w4 (fun env=>∃ p q:Nat,env=[some (.sh (lI sizes)),some (.sh (.int (acc:Nat))),some (.sh (.int a)),some (.sh (.int p)),some (.sh (.int q))]/\Nat.gcd p q=Int.gcd acc a) (fun env=>match env with
   | [_,_,_,_,some (.sh (.int q))]=>q.toNat
   | _=>0) ⟨acc,a.toNat,by rw [Int.toNat_of_nonneg (by omega)],?_⟩ ?_ ?_
  ·obtain ⟨n,rfl⟩:=Int.eq_ofNat_of_zero_le (show 0<=a by omega)
   rfl
  ·rintro env ⟨p,q,rfl,hg⟩
   by_cases h0:(q:Int)=0
   ·exact .inl (by dsimp? [h0,decide_true])
   ·have h0':(0:Int)<q:=by omega
    refine .inr ⟨by dsimp? [h0,decide_false],[some (.sh (lI sizes)),some (.sh (.int (acc:Nat))),some (.sh (.int a)),some (.sh (.int q)),some (.sh (.int ((p%q:Nat):Int)))],?_,⟨q,p%q,rfl,?_⟩,?_⟩
    ·dsimp? [AQ,xZ,aI (i:=(p:Int)) h0']
     rfl
    ·rw [← hg,Nat.gcd_comm p q,Nat.gcd_rec q p,Nat.gcd_comm]
    ·show ((p%q:Nat):Int).toNat<(q:Int).toNat
     have:=Nat.mod_lt p (show 0<q by omega)
     omega
  ·rintro env' ⟨p,q,rfl,hg⟩ hu
   have hq:q=0:=by
    revert hu
    dsimp? []
    intro hu
    have:(!decide ((q:Int)=0))=false:=by injection hu with hu;injection hu
    simp at this
    exact this
   subst hq
   rw [Nat.gcd_zero_right] at hg
   subst hg
   dsimp? [aH (i:=(acc:Int)) (show (0:Int)<(Int.gcd acc a:Nat) by omega) (show ((Int.gcd acc a:Nat):Int)<2^64 by omega),aZ (k:=64) (l:=64) (show ((acc:Int)/(Int.gcd acc a:Nat)).natAbs<2^64 by omega) (show a.natAbs<2^64 by omega),e1]
   rfl
 ·rintro env' ⟨acc,x,y,z,rfl,A⟩
  dsimp? []
  have:=A.val
  rw [R,← this];rfl
theorem oa {sizes W ys:List Int} {q:PV} (S:Sz sizes) (Wl:W.length=sizes.length) (W0:∀ x∈W,0<=x/\x<360) (yl:ys.length=sizes.length) (yb:Bd 200 ys) (hq:bS q=some (ys.map PV.int)):bM [lI sizes,tI W,q]=M.ok (.int (hG sizes.length (vf sizes) (R sizes) (vf W) (vf ys)%R sizes)):=by
 have l6:=S.h6
 let tm:Int×Int×Int->Int:=fun z=>z.1*z.2.1*(R sizes/z.2.2)
 have et:((W.zip (ys.zip sizes)).map tm).sum=hG sizes.length (vf sizes) (R sizes) (vf W) (vf ys):=by
  have hl:((W.zip (ys.zip sizes)).map tm).length=sizes.length:=by simp;omega
  rw [vY,hl]
  refine gL fun i hi=>?_
  rw [aR (by rw [hl];exact hi),aR (by omega),aR (by omega),aR (by omega)]
  simp [tm]
 rw [← et]
 refine iF.eq ?_
 unfold bM cq
 dsimp? [Bj sizes S,vz (p:=tI W) (q:=q) (r:=lI sizes) W ys sizes rfl hq rfl]
 refine iF.loop (xs:=W.zip (ys.zip sizes)) (inj:=fun z=>.tup [.int z.1,.int z.2.1,.int z.2.2]) (fun zs env=>∃ (t:Int) (y5 y6 y7:Option SV),env=[some (.sh (lI sizes)),some (.sh (tI W)),some (.sh q),some (.sh (.int (R sizes))),some (.sh (.int t)),y5,y6,y7]/\t+(zs.map tm).sum=((W.zip (ys.zip sizes)).map tm).sum/\∀ z∈zs,z∈W.zip (ys.zip sizes)) ⟨0,_,_,_,rfl,by omega,fun z h=>h⟩ ?_ ?_
 ·rintro z r env ⟨t,y5,y6,y7,rfl,ht,hz⟩
  obtain ⟨m1,m2⟩:=List.of_mem_zip (a:=z.1) (b:=z.2) (hz z List.mem_cons_self)
  obtain ⟨m3,m4⟩:=List.of_mem_zip (a:=z.2.1) (b:=z.2.2) m2
  have a1:=W0 _ m1;have a2:=yb _ m3;have a3:=p8 S m4;have a4:=S.hx _ m4
  have a5:(z.1*z.2.1).natAbs<2^210:=by
   rw [Int.natAbs_mul]
   have:z.1.natAbs*z.2.1.natAbs<=2^9*2^200:=Nat.mul_le_mul (by omega) (by omega)
   exact Nat.lt_of_le_of_lt this (by decide)
  dsimp? [n9,aH (i:=R sizes) (j:=z.2.2) (by omega) (by omega),aZ (k:=64) (l:=200) (show z.1.natAbs<2^64 by omega) a2,aZ (k:=210) (l:=64) a5 (show (R sizes/z.2.2).natAbs<2^64 by omega)]
  refine ⟨_,rfl,t+tm z,_,_,_,rfl,?_,fun z h=>hz z (List.mem_cons_of_mem _ h)⟩
  rw [← ht,List.map_cons,List.sum_cons];omega
 ·rintro env ⟨t,y5,y6,y7,rfl,ht,_⟩
  dsimp? [aI (i:=t) (j:=R sizes) (uP S)]
  simp at ht
  subst ht
  exact ⟨_,rfl,rfl⟩
section
variable {ns:List Int} {sizes:List Int} {raw Ls:List (List Int)} {T:List Row} {idle:List (List Int)}
structure Ws (sizes:List Int) (T:List Row) (d:Nat) (W:List Int):Prop where
 len:W.length=sizes.length
 kz:∀ i,i<sizes.length->0<=vf W i/\vf W i<vf sizes i
 wk:Wk sizes.length (vf sizes) (DD T) (R sizes) d 0 (vf W)
theorem Ws.sm {d:Nat} {W:List Int} (S:Sz sizes) (h:Ws sizes T d W):∀ x∈W,0<=x/\x<360:=fun x hx=>by
 obtain ⟨i,hi,rfl⟩:=List.mem_iff_getElem.mp hx
 have hi':i<sizes.length:=by have:=h.len;omega
 have a:=h.kz i hi'
 have b:=n6 S i hi'
 rw [aR hi] at a
 omega
theorem s_ (Q:Ee ns sizes raw Ls T idle) {d:Nat} (hd:d<sizes.length) {W:List Int} (h:Ws sizes T d W):de [lI sizes,tI (jh sizes T),tI W,.int (d:Int)]=M.ok (.bl true):=by
 have g:=Q.st.gd
 have Wl:=h.len
 refine iF.eq ?_
 unfold de cz
 dsimp? [Wl,decide_true,Ba]
 refine iF.loop (xs:=W.zipIdx) (inj:=fun z=>.tup [.int (z.2:Int),.int z.1]) (fun zs env=>∃ (y4 y5:Option SV),env=[some (.sh (lI sizes)),some (.sh (tI (jh sizes T))),some (.sh (tI W)),some (.sh (.int (d:Int))),y4,y5]/\∀ z∈zs,z∈W.zipIdx) ⟨_,_,rfl,fun z h=>h⟩ ?_ ?_
 ·rintro ⟨x,i⟩ r env ⟨y4,y5,rfl,hz⟩
  have hm:=hz (x,i) List.mem_cons_self
  have hi0:i<W.length:=pH hm
  have hi:i<sizes.length:=by omega
  have ex:x=vf W i:=by
   have:=List.mem_zipIdx hm
   rw [aR hi0]
   simpa using this.2.2
  have p1:=g.pos hi
  have p2:=n6 Q.S i hi
  have f:=jg g hi
  have e1:=xB (xs:=sizes) hi
  have e2:=jL (xs:=jh sizes T) (i:=i) (by rw [iO];exact hi)
  rw [tJ hi] at e2
  have e3:bo (.int (vf sizes i)) (.int (aQ (vf sizes) (DD T) i))=M.ok (.int (gg (vf sizes) (DD T) i)):=aH (by omega) (by omega)
  have e4:=aI (i:=gg (vf sizes) (DD T) i) (j:=vf sizes i) (by omega)
  dsimp? [bC,e1,e2,e3,e4]
  rcases Nat.lt_trichotomy i d with q | q | q
  ·have w:=h.wk.ah i (Nat.zero_le _) q
   have z1:¬ (d:Int)<i:=by omega
   have z2:¬ (i:Int)=d:=by omega
   have z3:(i:Int)<d:=by omega
   rw [← ex] at w
   dsimp? [z1,z2,z3,decide_true,decide_false,e1,e2,e3,w.1,w.2]
   exact ⟨_,rfl,_,_,rfl,fun z h=>hz z (List.mem_cons_of_mem _ h)⟩
  ·subst q
   have w:=h.wk.at_
   have z1:¬ (i:Int)<i:=by omega
   rw [← ex] at w
   dsimp? [z1,decide_true,decide_false,e1,e2,e3,e4,w]
   exact ⟨_,rfl,_,_,rfl,fun z h=>hz z (List.mem_cons_of_mem _ h)⟩
  ·have w:=h.wk.Kl i q hi
   have z1:(d:Int)<i:=by omega
   have z2:¬ (i:Int)=d:=by omega
   have z3:¬ (i:Int)<d:=by omega
   rw [← ex] at w
   dsimp? [z1,z2,z3,decide_true,decide_false,w]
   exact ⟨_,rfl,_,_,rfl,fun z h=>hz z (List.mem_cons_of_mem _ h)⟩
 ·rintro env ⟨y4,y5,rfl,_⟩
  dsimp? []
  exact ⟨_,rfl,rfl⟩
theorem Ws.kill (Q:Ee ns sizes raw Ls T idle) {d:Nat} {W:List Int} (h:Ws sizes T d W) {v:cj} (g:G sizes.length (vf sizes) (DD T) sizes.length 0 v):R sizes∣hG sizes.length (vf sizes) (R sizes) (vf W) v :=
 BG (Hl Q.S) sizes.length 0 v (by omega) (fun b _ hb=>h.wk.kill b (Nat.zero_le _) hb) g
theorem t5 (Q:Ee ns sizes raw Ls T idle) {d:Nat} {W:List Int} (h:Ws sizes T d W):dc [lI sizes,.lst (raw.map lI),tI W]=M.ok (.bl true):=by
 refine iF.eq ?_
 unfold dc cu
 dsimp? []
 refine iF.loop (xs:=raw) (inj:=lI) (fun zs env=>∃ (y3:Option SV),env=[some (.sh (lI sizes)),some (.sh (.lst (raw.map lI))),some (.sh (tI W)),y3]/\∀ z∈zs,z∈raw) ⟨_,rfl,fun z h=>h⟩ ?_ ?_
 ·rintro z r env ⟨y3,rfl,hz⟩
  have hm:=hz z List.mem_cons_self
  obtain ⟨l1,l2⟩:=Q.hr z hm
  obtain ⟨l,hl,el⟩:=List.mem_iff_getElem.mp hm
  have eA:=Q.eA l hl
  have hml:=Q.hm
  have gz:G sizes.length (vf sizes) (DD T) sizes.length 0 (vf z):=Q.st.gd.wt (by omega) (fun i hi=>by
   have e:=eA i hi
   rw [List.getD_eq_getElem?_getD,List.getElem?_eq_getElem hl,Option.getD_some,el] at e
   exact ⟨vf z i/vf sizes i,by rw [e];have:=Int.emod_def (vf z i) (vf sizes i);omega⟩) (Q.st.cl l (by omega))
  have w0:=Int.emod_eq_zero_of_dvd (h.kill Q gz)
  have lw:=oa (q:=lI z) Q.S h.len (h.sm Q.S) l1 l2 rfl
  rw [w0] at lw
  dsimp? [cU,lw,decide_true]
  exact ⟨_,rfl,_,rfl,fun z h=>hz z (List.mem_cons_of_mem _ h)⟩
 ·rintro env ⟨y3,rfl,_⟩
  dsimp? []
  exact ⟨_,rfl,rfl⟩
end
section
variable {ns:List Int} {sizes:List Int} {raw Ls:List (List Int)} {T:List Row} {idle:List (List Int)}
structure Wa (sizes:List Int) (T:List Row) (Wd:List (List Int)):Prop where
 len:Wd.length=sizes.length
 at_:∀ d,d<sizes.length->Ws sizes T d (Wd.getD d [])
theorem Wa.mem {Wd:List (List Int)} (h:Wa sizes T Wd) {W:List Int} (hm:W∈Wd):∃ d,d<sizes.length/\Ws sizes T d W:=by
 obtain ⟨d,hd,e⟩:=List.mem_iff_getElem.mp hm
 have hl:=h.len
 refine ⟨d,by omega,?_⟩
 have:=h.at_ d (by omega)
 rw [List.getD_eq_getElem?_getD,List.getElem?_eq_getElem hd,Option.getD_some,e] at this
 exact this
theorem yY {W:List Int} {v u:cj}:hG sizes.length (vf sizes) (R sizes) (vf W) v=hG sizes.length (vf sizes) (R sizes) (vf W) (fun i=>v i-u i)+hG sizes.length (vf sizes) (R sizes) (vf W) u:=by
 have:=uf (n:=sizes.length) (s:=vf sizes) (Q:=R sizes) (w:=vf W) 1 1 (x:=v) (v:=fun i=>v i-u i) (u:=u) fun i _=>by omega
 omega
theorem sA (Q:Ee ns sizes raw Ls T idle) {Wd:List (List Int)} (h:Wa sizes T Wd) {xs:List Int} (hl:xs.length=sizes.length) (h0:∀ i,i<sizes.length->0<=vf xs i/\vf xs i<vf sizes i):bh [mP sizes Ls T idle,lI sizes,.lst (Wd.map tI),tI xs]=M.ok (.bl true):=by
 obtain ⟨a1,a2,a3,a4⟩:=sQ Q.st hl h0
 have m8:=Q.m8
 have lo:=u_ (idle:=idle) Q.S Q.m8 Q.st (by omega) hl h0
 have xb:=qN Q.S hl h0
 have Wl:=h.len
 have lw:∀ d W,Ws sizes T d W->bM [lI sizes,tI W,tI xs]=M.ok (.int (hG sizes.length (vf sizes) (R sizes) (vf W) (vf xs)%R sizes)):=fun d W w=>oa (q:=tI xs) Q.S w.len (w.sm Q.S) hl xb rfl
 refine iF.eq ?_
 unfold bh bg
 dsimp? [cZ,xj (m := "least") rfl,lo,Ba]
 generalize hL:lst sizes Ls T xs=L at *
 refine iF.IH (xs:=L.zipIdx) (inj:=fun z=>.tup [.int (z.2:Int),.int z.1]) (fun zs env=>∃ (c:Nat) (y5 y6 y7:Option SV),env=[some (.sh (mP sizes Ls T idle)),some (.sh (lI sizes)),some (.sh (.lst (Wd.map tI))),some (.sh (tI xs)),some (.sh (tI L)),y5,y6,y7]/\zs=L.zipIdx.drop c/\c<=sizes.length/\∀ i,i<c->vf L i=0) ⟨0,_,_,_,rfl,rfl,by omega,fun i hi=>by omega⟩ ?_ ?_
 ·rintro z r env ⟨c,y5,y6,y7,rfl,hz,hc,hn⟩
  obtain ⟨c1,c2,c3⟩:=drop_cons hz.symm
  rw [List.length_zipIdx] at c1
  rw [List.getElem?_eq_getElem (by rw [List.length_zipIdx];exact c1)] at c2
  have c2:=Option.some.inj c2
  rw [List.getElem_zipIdx,Nat.zero_add] at c2
  subst c2
  have cn:c<sizes.length:=by omega
  have hv:L[c]=vf L c:=(aR c1).symm
  rw [hv]
  have b2:=a2 c cn
  by_cases z0:0<vf L c
  ·have w:=h.at_ c cn
   have nd:¬ R sizes∣hG sizes.length (vf sizes) (R sizes) (vf (Wd.getD c [])) (vf xs):=fun hd=>by
    rw [yY (u:=vf L)] at hd
    exact Wk.first Q.st.gd (uP Q.S) (Hl Q.S) cn w.wk hn z0 b2.2 ((Int.dvd_add_right (w.kill Q a4)).mp hd)
   have ne:¬ hG sizes.length (vf sizes) (R sizes) (vf (Wd.getD c [])) (vf xs)%R sizes=0:=fun e=>nd (Int.dvd_of_emod_eq_zero e)
   dsimp? [bC,z0,decide_true,yG (idle:=Wd) (j:=c) (by omega),lw c _ w,ne,decide_false]
   exact ⟨_,rfl,⟨_,rfl,rfl⟩⟩
  ·dsimp? [bC,z0,decide_false]
   refine ⟨_,rfl,c+1,_,_,_,rfl,c3.symm,by omega,fun i hi=>?_⟩
   rcases Nat.lt_succ_iff_lt_or_eq.mp hi with q | q
   ·exact hn i q
   ·subst q;omega
 ·rintro env ⟨c,y5,y6,y7,rfl,hz,hc,hn⟩
  have ec:c=sizes.length:=by
   have:=congrArg List.length hz
   rw [List.length_drop,List.length_zipIdx] at this
   simp at this;omega
  subst ec
  have gx:G sizes.length (vf sizes) (DD T) sizes.length 0 (vf xs):=G.ext (by omega) (fun i hi=>by rw [hn i hi];omega) a4
  dsimp? []
  refine iF.loop (xs:=Wd) (inj:=tI) (fun zs env=>∃ (y7:Option SV),env=[some (.sh (mP sizes Ls T idle)),some (.sh (lI sizes)),some (.sh (.lst (Wd.map tI))),some (.sh (tI xs)),some (.sh (tI L)),y5,y6,y7]/\∀ z∈zs,z∈Wd) ⟨_,rfl,fun z h=>h⟩ ?_ ?_
  ·rintro W r env ⟨y7,rfl,hz⟩
   obtain ⟨d,hd,w⟩:=h.mem (hz W List.mem_cons_self)
   have w0:=Int.emod_eq_zero_of_dvd (w.kill Q gx)
   have e:=lw d W w
   rw [w0] at e
   dsimp? [cU,e,decide_true]
   exact ⟨_,rfl,_,rfl,fun z h=>hz z (List.mem_cons_of_mem _ h)⟩
  ·rintro env ⟨y7,rfl,_⟩
   dsimp? []
   exact ⟨_,rfl,rfl⟩
theorem QY:Iy kW kJ bG=some true:=by decide
theorem u4 {p:PV} (h:bx [p,.int 0,.int ((sizes.length:Int)-1)]=M.ok (.bl false)):aO [mP sizes Ls T idle,p]=some (.error (bG,some [("dial", p)])):=by
 unfold aO aX
 dsimp? [mE,Kg,cZ,Kb,h,iu]
theorem gP {p:PV} (h:bx [p,.int 0,.int ((sizes.length:Int)-1)]=M.ok (.bl false)) (ne:l7 (.lst [p]) (.lst [p])=M.ok (.bl false)) {b:Bool} (hb:Al (fun a=>a == "bool") nv nv p=M.ok (.bl b)):cm [mP sizes Ls T idle,p]=M.ok (.bl true):=by
 have x1:QE tU "dial" (.exc bG (some [("dial", p)]))=M.ok p:=rfl
 have i0:aJ (.lst [p]) (.int 0)=M.ok p:=bF (p:=.lst [p]) (j:=0) rfl rfl
 unfold cm c9
 dsimp? [Ds,cZ,xj (m := "weights_at") rfl,u4 (T:=T) (idle:=idle) h,wM,wL,QY,Gr,BK,MK,x1,uz,xh,u5,ne,i0,hb,decide_true]
theorem yK {p:PV} {x y:Int} (h:cI [p]=M.ok (.bl false)):bx [p,.int x,.int y]=M.ok (.bl false):=by
 unfold bx cF
 dsimp? [h]
theorem Ib:l7 (.lst [.cS]) (.lst [.cS])=M.ok (.bl false):=by
 simp only [l7,mT,dat,lM,Option.map_some,Option.bind_some,Dm]
 rw [ax (by simp [SeqAt.shaped,PyData.canLay0,PyData.canLayAll0,PyData.depth,PyData.depthAll,SeqAt.noMix,SeqAt.noMixAll])]
 rfl
theorem JZ:l7 (.lst [.bl true]) (.lst [.bl true])=M.ok (.bl false):=by
 simp only [l7,mT,dat,lM,Option.map_some,Option.bind_some,Dm]
 rw [ax (by simp [SeqAt.shaped,PyData.canLay0,PyData.canLayAll0,PyData.depth,PyData.depthAll,SeqAt.noMix,SeqAt.noMixAll])]
 rfl
theorem ne_str:l7 (.lst [.str "0"]) (.lst [.str "0"])=M.ok (.bl false):=by
 simp only [l7,mT,dat,lM,Option.map_some,Option.bind_some,Dm]
 rw [ax (by simp [SeqAt.shaped,PyData.canLay0,PyData.canLayAll0,PyData.depth,PyData.depthAll,SeqAt.noMix,SeqAt.noMixAll];unfold PyData.strOk;rw [← Array.all_toList];rfl)]
 rfl
theorem G8:l7 (.lst [.tup [.int 0]]) (.lst [.tup [.int 0]])=M.ok (.bl false):=by
 simp only [l7,mT,dat,lM,Option.map_some,Option.bind_some,Dm]
 rw [ax (by simp [SeqAt.shaped,PyData.canLay0,PyData.canLayAll0,PyData.depth,PyData.depthAll,SeqAt.noMix,SeqAt.noMixAll])]
 rfl
theorem ne_int (i:Int):l7 (.lst [.int i]) (.lst [.int i])=M.ok (.bl false):=by
 have:=G2 [i] [i]
 rw [decide_eq_true rfl] at this
 exact this
theorem kD (i:Int) (h:¬ (0<=i/\i<=(sizes.length:Int)-1)):cm [mP sizes Ls T idle,.int i]=M.ok (.bl true) :=
 gP (by rw [within_int,decide_eq_false h]) (ne_int i) (yA i)
theorem E9:u6 (.int 10) (.int 20)=M.ok (.int (10^20)):=by
 unfold u6
 rfl
theorem B0 (a b c d e f g:PV):lstK [a,b,c,d,e,f,g]=M.ok (.lst [a,b,c,d,e,f,g]):=ax (aP (show 7<=1000 by decide))
theorem J0 {l:List PV} {c:Int} (h:l.length=7):∃ (i:Nat) (hi:i<7),c%7=(i:Int)/\aJ (.lst l) (.int (c%7))=M.ok (l[i]'(by omega)):=by
 obtain ⟨j,hj⟩:=Int.eq_ofNat_of_zero_le (show 0<=c%7 by omega)
 have hj':j<7:=by omega
 exact ⟨j,hj',hj,by rw [hj];exact bF (p:=.lst l) (j:=j) rfl (List.getElem?_eq_getElem _)⟩
theorem vC (Q:Ee ns sizes raw Ls T idle):∃ Wd,Wa sizes T Wd/\cB (cU 0) none (bH aA "weights_at" aO (aa 1) (ae (aa 0) aq)) ((List.range sizes.length).map fun (i:Nat)=>.int (i:Int)) [none,some (.sh (mP sizes Ls T idle))]=M.ok (Wd.map tI):=by
 have ex:∀ d:Nat,∃ W:List Int,d<sizes.length->aO [mP sizes Ls T idle,.int (d:Int)]=M.ok (tI W)/\Ws sizes T d W:=fun d=>by
  by_cases hd:d<sizes.length
  ·obtain ⟨_,e,W,rfl,w1,w2,w3⟩:=xa Q hd
   exact ⟨W,fun _=>⟨e,w1,w2,w3⟩⟩
  ·exact ⟨[],fun h=>(hd h).elim⟩
 obtain ⟨f,hf⟩:=Classical.skolem.mp ex
 refine ⟨(List.range sizes.length).map f,⟨by simp,fun d hd=>?_⟩,?_⟩
 ·rw [List.getD_eq_getElem?_getD,List.getElem?_map,List.getElem?_range hd]
  exact (hf d hd).2
 ·rw [List.map_map]
  refine lU (inj:=fun (i:Nat)=>PV.int (i:Int)) (List.range sizes.length) fun i hi=>?_
  dsimp? [cZ,xj (m := "weights_at") rfl,(hf i (List.mem_range.mp hi)).1]
  rfl
theorem G_ (ns:List Int):sJ [.jI (ns.map PV.int)]=M.ok (.bl true):=by
 obtain ⟨c0,ec⟩:=tY ns 0
 rw [show ((0:Nat):Int)=0 from rfl] at ec
 obtain ⟨_,es,sizes,rfl,S⟩:=zt c0
 obtain ⟨_,el,raw,rfl,r8,hr⟩:=wG ns S
 obtain ⟨Ls,T,idle,Q⟩:=Ee.get ns S r8 hr
 obtain ⟨Wd,wa,ew⟩:=vC Q
 have l6:=S.h6
 have l1:=S.h1
 have m8:=Q.m8
 have so:=wo (idle:=idle) S Q.st
 refine iF.eq ?_
 unfold sJ AI
 dsimp? [ec,es,el,Q.K2,Q.Nn,cZ,xj (m := "steps") rfl,so,iT (n:=(sizes.length:Int)) (by omega) (by omega),Int.toNat_natCast,List.length_map,List.length_range,ax (aP (show sizes.length<=1000 by omega)),ew,oX]
 refine iF.loop (xs:=Wd.zipIdx) (inj:=fun z=>.tup [.int (z.2:Int),tI z.1]) (fun zs env=>∃ (y6 y7 y8 y9 y10 y11:Option SV),env=[some (.sh (.jI (ns.map PV.int))),some (.sh (lI sizes)),some (.sh (.lst (raw.map lI))),some (.sh (mP sizes Ls T idle)),some (.sh (tI (jh sizes T))),some (.sh (.lst (Wd.map tI))),y6,y7,y8,y9,y10,y11]/\∀ z∈zs,z∈Wd.zipIdx) ⟨_,_,_,_,_,_,rfl,fun z h=>h⟩ ?_ ?_
 ·rintro ⟨W,d⟩ r env ⟨y6,y7,y8,y9,y10,y11,rfl,hz⟩
  have hm:=List.mem_zipIdx (hz (W,d) List.mem_cons_self)
  have wl:=wa.len
  have hd:d<Wd.length:=by omega
  have w:=wa.at_ d (by omega)
  have e:Wd.getD d []=W:=by
   rw [List.getD_eq_getElem?_getD,List.getElem?_eq_getElem hd,Option.getD_some]
   simpa using hm.2.2.symm
  rw [e] at w
  dsimp? [bC,s_ Q (by omega) w,t5 Q w]
  exact ⟨_,rfl,_,_,_,_,_,_,rfl,fun z h=>hz z (List.mem_cons_of_mem _ h)⟩
 rintro env ⟨y6,y7,y8,y9,y10,y11,rfl,_⟩
 dsimp? [wK,ug,JO,show Kn (.jI (ns.map PV.int)) (some 10) (some 40)=M.ok (.lst ((pN ns 10 40).map PV.int)) from DH ns 10 40,zy (pN ns 10 40) (by have:=sH ns 10 40;omega),BU]
 refine iF.loop (xs:=(pN ns 10 40++[0]).zipIdx) (inj:=fun z=>.tup [.int (z.2:Int),.int z.1]) (fun zs env=>∃ (y8 y9 y10 y11:Option SV),env=[some (.sh (.jI (ns.map PV.int))),some (.sh (lI sizes)),some (.sh (.lst (raw.map lI))),some (.sh (mP sizes Ls T idle)),some (.sh (tI (jh sizes T))),some (.sh (.lst (Wd.map tI))),y6,y7,y8,y9,y10,y11]/\∀ z∈zs,z.2<100) ⟨_,_,_,_,rfl,fun z hz=>by have:=pH hz;have:=sH ns 10 40;simp at *;omega⟩ ?_ ?_
 ·rintro ⟨a,k⟩ r env ⟨y8,y9,y10,y11,rfl,hz⟩
  have hk:=hz (a,k) List.mem_cons_self
  have hz':∀ z∈r,z.2<100:=fun z h=>hz z (List.mem_cons_of_mem _ h)
  simp only at hk
  obtain ⟨_,ex,xs,rfl,xl,x0⟩:=va S (a/3+48271*(k:Int))
  obtain ⟨b1,b2,b3,b4⟩:=sQ Q.st xl x0
  have lo:=u_ (idle:=idle) S m8 Q.st (by omega) xl x0
  have lb:=qN S b1 b3
  have eg:=C1 (sizes:=sizes) (xs:=xs) (ys:=lst sizes Ls T xs) (t:=-1) (q:=tI (lst sizes Ls T xs)) (Cp S) l6 xl rfl lb (by decide)
  obtain ⟨gl,g0,gd⟩:=wN S (t:=-1) xl b1
  obtain ⟨j,hj,_,ej⟩:=J0 (l:=[.int (sizes.length:Int),.int (-1),.cS,.bl true,.str "0", .tup [.int 0],.int (10^20+a%7)]) (c:=a) rfl
  have bad:cm [mP sizes Ls T idle,[.int (sizes.length:Int),.int (-1),.cS,.bl true,.str "0", .tup [.int 0],.int (10^20+a%7)][j]]=M.ok (.bl true):=by
   have:j=0\/j=1\/j=2\/j=3\/j=4\/j=5\/j=6:=by omega
   rcases this with rfl | rfl | rfl | rfl | rfl | rfl | rfl
   ·exact kD _ (by omega)
   ·exact kD _ (by omega)
   ·exact gP (yK zg) Ib ya
   ·exact gP (yK (Cz true)) JZ (Cq true)
   ·exact gP (yK rfl) ne_str (yg _)
   ·exact gP (yK rfl) G8 (yE _)
   ·exact kD _ (by omega)
  generalize [PV.int (sizes.length:Int),.int (-1),.cS,.bl true,.str "0", .tup [.int 0],.int (10^20+a%7)][j]=pb at *
  have fin:∀ {zs:List Int},bh [mP sizes Ls T idle,lI sizes,.lst (Wd.map tI),tI zs]=M.ok (.bl true)->True:=fun _=>trivial
  have w1:=sA Q wa xl x0
  have w2:=sA Q wa gl g0
  dsimp? [bC,aH (i:=a) (j:=3) (by decide) (by decide),aZ (i:=48271) (j:=(k:Int)) (k:=31) (l:=31) (by decide) (by omega),ex,aI (i:=a) (j:=3) (by decide)]
  by_cases h3:a%3=0
  ·dsimp? [h3,decide_true,cZ,xj (m := "least") rfl,lo,eg,w2,List.length_map,E9,B0,aI (i:=a) (j:=7) (by decide),ej,bad]
   exact ⟨_,rfl,_,_,_,_,rfl,hz'⟩
  ·dsimp? [h3,decide_false,w1,List.length_map,E9,B0,aI (i:=a) (j:=7) (by decide),ej,bad]
   exact ⟨_,rfl,_,_,_,_,rfl,hz'⟩
 ·rintro env ⟨y8,y9,y10,y11,rfl,_⟩
  dsimp? []
  exact ⟨_,rfl,rfl⟩
end
end wx
theorem PySem.Challenge.cw_dialvault_k25_step_weights_holds : PySem.Challenge.rw_dialvault_k25_step_weights.Holds :=
  wx.hold HD.said fun ns _ _ => wx.G_ ns
end