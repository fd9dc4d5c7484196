import PyProof.Rows.All
import Wide.All
import OpenK.AllK
import Wide.FinOn
import Lean
import PyProof.EqAt
import PyProof.EqKinds
import PyProof.TupleCall
import PySem.Challenge.RW_dialvault_k15_numbers_as_texts
set_option Elab.async false
set_option linter.all false
set_option maxRecDepth 100000
set_option maxHeartbeats 0
open PySem renaming wpAny_bind->Ck,wpAny_pure->Cp,wpAny_field->CM,wpAny_mono->CO,wpAny_newObj_type->C8,wpAny_callSpecial?_slot->De,wpAny_holding->Df,wpAny_truthy_bool->Dh,wpAny_seqItems->Dv,wpAny_setField_rec->Dy,wpAny_call_entry->DK,call_meets->DP,wpAny_standAt->D9,wpAny_passesOwn->Eb,wpAny_Call_Name_kw->Ec,wpAny_setField->El,typeIs_str->Er,wpAny_attempt->Ey,wpAny_updateSeq_pair->EB,wpAny_binaryOp_repeat_ref->EW,wpAny_pyIter_list->EZ,wpAny_onRaise->E3,noFill_tuple_add->E5,typeIs_int->Fb,codeAny_mono->Fd,codeAny_compStart_list->Fe,wpAny_execs_nil->Fl,wpAny_ite_false->Fp,codeAny_handlers_test->Fv,wpAny_newFunctionEnv->Fy,wpAny_loadPart->Fz,wpAny_handleBy_cons->FL,seq_tuple_add->FQ,wpAny_rule->FU,wpAny_pyIter_tuple->FW,wpAny_assign_Name->F0,concat_meets->F1,wpAny_sequenceKey->F2,wpAny_typeOf->F3,slot_list_getitem->F4,wpAny_of_eq->Ge,wpAny_letGo->Gf,wpAny_Name->Gq,wpAny_call->Gu
open PySem.Heap renaming get?_push_of_some->Cm,lt_size->Cq,get?_push_size->Cy,get?_update_other->Dq,size_push->Du,get?_update_self->DU,SameBut->D0
open PySem.Str renaming ofString->Cn,join->Dz,length->Gr
open List renaming getElem?_eq_getElem->Co,size_toArray->Ct,getElem?_set->Cu,length_map->Cv,replicate->Cw,mem_cons_self->Cz,mem_cons_of_mem->CB,all_eq_true->CD,getElem?_append_right->CF,mem_append_right->CH,mem_cons->CK,getElem?_map->CL,getElem?_append_left->CP,length_append->CU,mem_singleton->CW,map_cons->CZ,append_nil->C1,length_cons->C2,getElem?_replicate->C3,lookup_cons->C6,replicate_succ->C7,getElem?_eq_some_iff->Dj,flatten_cons->Dm,length_set->Dp,drop_eq_getElem_cons->DB,mem_append_left->DE,mem_nil_iff->DL,range->DN,mem_map->DR,cons_ne_nil->D4,set_cons_zero->Ed,append_assoc->Ek,drop_eq_nil_of_le->Em,length_take->Eo,length_drop->Ep,getElem_mem->Et,all_cons->Ew,getElem?_set_ne->EA,mem_filter->EC,mem_append->ED,nodup_cons->EE,filterMap_cons->EH,length_zipWith->EI,map_map->EK,mem_range->EL,mem_filterMap->EO,foldl->ET,exists_cons_of_ne_nil->EV,any_cons->E4,not_mem_nil->E8,getElem?_set_self->E9,zipWith->Ff,take_of_length_le->Fi,of_mem_zip->Fo,map_append->Fq,length_replicate->Ft,mem_of_getElem?->Fx,map_congr_left->FP,map_nil->F6,zipIdx_cons->F_,foldl_cons->Gg,nil_append->Gh,zipIdx_nil->Gi,forIn_cons->Gj,length_nil->Gp,forIn_nil->Gs,drop_zero->Gv,sum_cons->Gx
open Nat renaming lt_of_lt_of_le->Cr,le_refl->Cs,ne_of_lt->CC,le_trans->CN,lt_succ_self->Dk,lt_irrefl->Ds,zero_le->DF,le_of_lt->DZ,ne_of_gt->Ei,le_add_right->Es,lt_trans->Fc,toDigits->Fj,log2_lt->FA,mul_comm->F5,le_succ->Gd
open PySem.Value renaming ref->CA,none->CV,bool->DH,type->DM,builtin->Ez,int->FE,str->FG,float->Gb
open Option.some renaming inj->CG
open Option renaming map_eq_some_iff->CI,isSome_iff_exists->DI,bind_eq_some_iff->Ef,getD_some->E6,getD_none->F9,bind_some->Ga,map_some->Gn
open PySem.Builtin.Str renaming strSliceIndices->CJ,occurrences->CT,partsBetween->Ea,subAt->E0,strKind->FN,tooLong->FO
open PySem.Builtin.SmallTypes renaming nextOf->CQ,ownedTupleIsFree->C9,ownedTupleHandOut->D7
open Eq renaming trans->CS
open Array renaming getElem?_eq_some_iff->CY,length_toList->D6,getElem?_eq_getElem->EY,getElem?_eq_none->Fg,getElem?_toList->Fw,toList->Gy
open PyProof.Rows renaming slot_tuple_getitem->C0,callWith_type1->DW,subscriptTail_builtinR->E_,entry_tuple_getitem->FH,args_tuple_getitem->FT
open Bool renaming false_ne_true->C4,and_eq_true->C5,and_eq_true_iff->DG,false_and->EN,false_eq_true->FZ,eq_iff_iff->Gk
open PySem.AutoSeq1 renaming wpAny_loadPart'->C_,sub_tuple_tuple->D_,idx_int->E7
open PySem.PyData renaming canLay0->Di,depth->Dr,eqv->DY,int->Eu,canLayAll0->F7,depthAll->Gm,strOk->GA,list->GC
open Int renaming emod_lt_of_pos->Dl,eq_ofNat_of_zero_le->Dn,emod_nonneg->DC,toNat_natCast->Ej
open PySem.Obj renaming mapFields->Dt,data_mapFields->Dw,isFreed_of_fields->DV
open PySem.Builtin.Slice renaming slicePlaces->DA,sliceAdjust->D5,sliceApplied->ER
open PySem.Builtin.Tuple renaming tupleExact->DJ,tupleItemsOf->ES,tupleTooMany->EU
open True renaming intro->DO
open PySem.SeqAt renaming canLay_of_shaped->DQ,shaped->D3,noMix->GD
open PySem.NameKind renaming free->DS,cell->E1
open List.cons renaming inj->DT
open False renaming elim->DX
open PySem.Builtin.List renaming listTooLong->D8
open Classical renaming propDecidable->Eg
open Ne renaming symm->Eh
open PySem.NumText renaming digitsVal->En
open ForInStep renaming yield->EG
open PySem.Builtin.Int renaming intBits->EJ
open PySem.Calls renaming Name_function_global->EM
open Sum renaming inl->FD,inr->FF
open PySem.Heap.SameBut renaming update->FI
open PySem.EntryCells renaming newEntry->FJ
open PySem.StrLaws renaming join_split->FY
open PyProof.Rows.IsTup renaming new->F8
open PySem.W.KIN renaming val_back->Gw
open Nat.succ renaming inj->Gz
open PySem.Shared renaming heap->GB
open PySem.Heap.IsSliceOf renaming new->GF
noncomputable section
theorem aR(h:True:=by rfl):True:=h
theorem aD(h:True:=by decide):True:=h
theorem aI(h:True:=by intro _;rfl):True:=h
theorem aK(h:True:=by kernel_rfl):True:=h
theorem aF(h:True:=by first | exact .inl rfl | exact .inr rfl | assumption):True:=h
theorem aU(h:True:=by with_unfolding_all rfl):True:=h
theorem aN(h:True:=by decide +kernel):True:=h
theorem aG(h:True:=by first | exact .inl rfl | exact .inr rfl):True:=h
namespace L2
open PySem PySem.Spec PyProof.Rows
abbrev Key:=Sum Int Str
def ui:Key->Value->Bool
 | .inl k,v=>Value.isInt k v
 | .inr x,v=>Value.isStrOf x v
def zf(w:World):Key->Int
 | .inl k=>hashInt k
 | .inr x=>hashStr w x
theorem aV:∀ {k:Key} {v:Value},ui k v=true->(∃ i t,k=FD i/\v=FE i t)\/(∃ x t,k=FF x/\v=FG x t)
 | .inl i,v,h=>by
  obtain⟨t,e⟩:=Value.isInt_shape (k:=i) (v:=v) h;exact .inl ⟨i,t,rfl,e⟩
 | .inr x,v,h=>by
  obtain⟨t,e⟩:=Value.isStrOf_shape (x:=x) (v:=v) h;exact .inr ⟨x,t,rfl,e⟩
theorem wg(a b:Int):decide ((FD a:Key)=FD b)=(a==b):=by
 by_cases e:a=b
 .subst e;simp
 .have h:¬ (FD a:Key)=FD b:=λq=>e (Sum.inl.inj q);rw[decide_eq_false h];exact(beq_eq_false_iff_ne.mpr e).symm
theorem vg(a b:Str):decide ((FF a:Key)=FF b)=decide (a=b):=by
 by_cases e:a=b
 .subst e;simp
 .have h:¬ (FF a:Key)=FF b:=λq=>e (Sum.inr.inj q);rw[decide_eq_false h,decide_eq_false e]
theorem vG(a:Int)(b:Str):decide ((FD a:Key)=FF b)=false:=decide_eq_false (λq=>nomatch q)
theorem wq(a:Str)(b:Int):decide ((FF a:Key)=FD b)=false:=decide_eq_false (λq=>nomatch q)
def mi(prog:Program)(w:World):PySem.KeyKind prog w Key where
 is:=ui
 hash:=zf w
 inj:=λv a b ha hb=>by
  rcases aV ha with ⟨i,t,rfl,rfl⟩ | ⟨x,t,rfl,rfl⟩
  .rcases aV hb with ⟨j,u,rfl,e⟩ | ⟨y,u,rfl,e⟩
   .injection e with e1 _;rw[e1]
   .exact nomatch e
  .rcases aV hb with ⟨j,u,rfl,e⟩ | ⟨y,u,rfl,e⟩
   .exact nomatch e
   .injection e with e1 _;rw[e1]
 byValue:=λk v h=>by
  rcases aV h with ⟨i,t,rfl,rfl⟩ | ⟨x,t,rfl,rfl⟩ <;> rfl
 pyHash:=λhv h=>by
  rcases aV hv with ⟨i,t,rfl,rfl⟩ | ⟨x,t,rfl,rfl⟩
  .exact wpAny_pyHash_int h
  .exact wpAny_pyHash_str h
 eqBool:=λhu hv h=>by
  rcases aV hu with ⟨i,t,rfl,rfl⟩ | ⟨x,t,rfl,rfl⟩
  .rcases aV hv with ⟨j,u,rfl,rfl⟩ | ⟨y,u,rfl,rfl⟩
   .rw[wg] at h;exact wpAny_eqBool_int h
   .rw[vG] at h;exact SeqAt.EqAt.int_str i t y u _ _ _ _ h
  .rcases aV hv with ⟨j,u,rfl,rfl⟩ | ⟨y,u,rfl,rfl⟩
   .rw[wq] at h;exact SeqAt.EqAt.str_int x t j u _ _ _ _ h
   .rw[vg] at h;exact wpAny_eqBool_str h
 «strs»:=λk x t v h=>by
  rcases aV h with ⟨i,u,rfl,e⟩ | ⟨y,u,rfl,e⟩
  .exact nomatch e
  .injection e with e1 _
   subst e1;cases v <;> rfl
inductive V where
 | bL | bl (b:Bool) | int (i:Int) | str (x:Str) | byt (b:Array UInt8) | uK (b:UInt64) | ref (a:Addr) | ty (n:String)
 deriving DecidableEq
def RelV:V->Value->Prop
 | .bL,u=>u=CV
 | .bl b,u=>u=DH b
 | .int i,u=>∃ t,u=FE i t
 | .str x,u=>∃ t,u=FG x t
 | .byt b,u=>∃ t,u=Value.bytes b t
 | .uK b,u=>∃ t,u=Gb b t
 | .ref a,u=>u=CA a
 | .ty n,u=>u=DM n
abbrev Vals:List V->List Value->Prop:=Paired RelV
theorem Vals.length{xs:List V}{us:List Value}(r:Vals xs us):xs.length=us.length:=Paired.length r
theorem Vals.get:∀ {xs:List V} {us:List Value} {i:Nat} {x:V},Vals xs us->xs[i]?=some x->∃ u,us[i]?=some u/\RelV x u
 | _,_,_,_,.nil,e=>by simp at e
 | _,_,0,_,.cons r _,e=>by simp at e;subst e;exact⟨_,rfl,r⟩
 | _,_,i+1,x,.cons _ t,e=>by
  obtain⟨u,h1,h2⟩:=Vals.get (i:=i) (x:=x) t (by simpa using e);exact⟨u,by simpa using h1,h2⟩
theorem Vals.append:∀ {xs ys:List V} {us ws:List Value},Vals xs us->Vals ys ws->Vals (xs++ys) (us++ws)
 | _,_,_,_,.nil,s=>s
 | _,_,_,_,.cons r t,s=>.cons r (Vals.append t s)
theorem Vals.take:∀ {xs:List V} {us:List Value} (n:Nat),Vals xs us->Vals (xs.take n) (us.take n)
 | _,_,0,_=>.nil
 | _,_,_+1,.nil=>.nil
 | _,_,n+1,.cons r t=>.cons r (Vals.take n t)
theorem Vals.drop:∀ {xs:List V} {us:List Value} (n:Nat),Vals xs us->Vals (xs.drop n) (us.drop n)
 | _,_,0,r=>r
 | _,_,_+1,.nil=>.nil
 | _,_,n+1,.cons _ t=>Vals.drop n t
def o9:Option V->Option Value->Prop
 | some v,some u=>RelV v u
 | none,none=>True
 | _,_=>False
def KV{κ:Type}:List (κ×V)->List (κ×Value)->Prop:=Paired λ(p:κ×V) (q:κ×Value)=>p.1=q.1/\RelV p.2 q.2
def kV:Key->V
 | .inl i=>.int i
 | .inr x=>.str x
inductive HO where
 | lst (xs:List V)
 | tup (xs:List V)
 | dK (Ar:List (Key×V)) | dT (Ar:List (List Key×V))
 | set (S:Int->Bool) (n:Nat)
 | ins (C dx:Addr) (fs:List (Str×V))
 | own (x:Addr)
 | xd (fs:List (Str×V))
 | met (f x:Addr)
 | yy (lo hi:Int)
 | iK (o:Obj) (u:HO)
 | uc (ps:Array Value)
 | ext (φ:Heap->Prop)
abbrev Hp:=Addr->Option HO
def upd(H:Hp)(a:Addr)(o:HO):Hp:=λb=>if b=a then some o else H b
variable{a:Addr}{H:Hp}
theorem au{o:HO}:upd H a o a=some o:=by unfold upd;rw[if_pos rfl]
variable{b:Addr}
theorem ai{o:HO}(h:b≠a):upd H a o b=H b:=by unfold upd;rw[if_neg h]
theorem rF{o u:HO}:upd (upd H a o) a u=upd H a u:=by
 funext b;unfold upd;split <;> rfl
theorem aC{o:HO}(h:H a=some o)(h':H b=none):a≠b:=by
 intro e;subst e;rw[h] at h';cases h'
section
variable(P:Program)(w:World)
def aP(H:Hp)(h:Heap)(a:Addr):HO->Prop
 | .lst xs=>xs.length<=sizeLine/\∃ (z7:List Value) (n:Nat),Vals xs z7/\h.get? a=some { cls:=.type "list", data:=.seq z7.toArray n }
 | .tup xs=>xs.length<=sizeLine/\∃ z7:List Value,Vals xs z7/\IsTup h a z7.toArray
 | .dK Ar=>Ar.length<=sizeLine/\(a==sysModules)=false/\∃ vs,KV Ar vs/\h.DictOf (mi P w) a vs
 | .dT Ar=>Ar.length<=sizeLine/\(a==sysModules)=false/\∃ xs:List (List Key×Addr×Value),
   Paired (λ(p:List Key×V) (q:List Key×Addr×Value)=>p.1=q.1/\H q.2.1=some (.tup (p.1.map kV))/\RelV p.2 q.2.2) Ar xs ∧
   ∃ o es ep,h.get? a=some o/\o.ExactDict/\o.data=.dict es ep/\es.toList=xs.map (entryOfKey (tupleKind (mi P w)))/\(xs.map (·.1)).Nodup
 | .set S n=>h.SetOf (intKind P w) a S n
 | .ins C dx fs=>H dx=some (.own a)/\fs.length<=1000/\dx≠a/\h.get? a=some (PySem.W.instObj C dx) ∧
   ∃ mA,h.Ns1 dx mA/\(∀ f,o9 (fs.lookup f) (mA f))/\PySem.Within mA (fs.map (·.1))
 | .own _=>∃ o,h.get? a=some o
 | .xd fs=>∃ mA,h.Ns1 a mA/\∀ f,o9 (fs.lookup f) (mA f)
 | .yy lo hi=>∃ t u v,h.get? a=some { cls:=.type "range", data:=.fields #[.int lo t,.int hi u,.int 1 v] }
 | .iK o u=>h.get? a=some o/\aP H h a u
 | .uc ps=>h.get? a=some { cls:=.none,data:=.fields ps }
 | .met f x=>h.get? a=some (PySem.W.methodObj (.ref f) (.ref x))
 | .ext φ=>φ h/\(∃ o,h.get? a=some o)/\∀ h1 h2:Heap,φ h1->(∀ o,h1.get? a=some o->h2.get? a=some o)->φ h2
def fJ(H:Hp)(h:Heap):Prop:=∀ a o,H a=some o->aP P w H h a o
end
variable{h h':Heap}{H':Hp}{w:World}{P:Program}
section
variable{o:HO}
theorem aP.lt(x:aP P w H h a o):a<h.objs.size:=by
 cases o with
 | lst xs=>obtain⟨_,_,_,_,e⟩:=x;exact Cq e
 | tup xs=>obtain⟨_,_,_,p⟩:=x;exact p.lt
 | dK Ar=>obtain⟨_,_,_,_,o,_,_,e,_⟩:=x;exact Cq e
 | dT Ar=>obtain⟨_,_,_,_,o,_,_,e,_⟩:=x;exact Cq e
 | set S n=>obtain⟨o,_,_,_,e,_⟩:=x;exact Cq e
 | ins C dx fs=>obtain⟨_,_,_,e,_⟩:=x;exact Cq e
 | own y=>obtain⟨_,e⟩:=x;exact Cq e
 | xd fs=>obtain⟨_,⟨_,_,_,e,_⟩,_⟩:=x;exact Cq e
 | yy lo hi=>obtain⟨_,_,_,e⟩:=x;exact Cq e
 | iK ob u=>obtain⟨e,_⟩:=x;exact Cq e
 | uc ps=>exact Cq (show h.get? a=some _ from x)
 | met f y=>exact Cq (show h.get? a=some _ from x)
 | ext φ=>obtain⟨_,⟨_,e⟩,_⟩:=x;exact Cq e
theorem Paired.yf{α β:Type}{F G:α->β->Prop}:∀ {l₁:List α} {l₂:List β},Paired F l₁ l₂->(∀ a b,F a b->G a b)->Paired G l₁ l₂
 | _,_,.nil,_=>.nil
 | _,_,.cons r t,f=>.cons (f _ _ r) (Paired.yf t f)
theorem aP.fD(x:aP P w H h a o)(k:∀ b u,(b=a\/H b=some (.own a))->h.get? b=some u->h'.get? b=some u)
  (ho:∀ b,H b=some (.own a)->H' b=some (.own a)) (ht:∀ b xs,H b=some (.tup xs)->H' b=some (.tup xs)):aP P w H' h' a o:=by
 induction o with
 | lst xs=>obtain⟨z,z7,n,r,e⟩:=x;exact⟨z,z7,n,r,k _ _ (.inl rfl) e⟩
 | tup xs=>obtain⟨z,z7,r,ob,e,c⟩:=x;exact⟨z,z7,r,ob,k _ _ (.inl rfl) e,c⟩
 | dK Ar=>obtain⟨z,y,vs,r,ob,es,ep,e,c⟩:=x;exact⟨z,y,vs,r,ob,es,ep,k _ _ (.inl rfl) e,c⟩
 | dT Ar =>
  obtain⟨z,y,xs,r,ob,es,ep,e,c⟩:=x;exact⟨z,y,xs,Paired.yf r λp q z=>⟨z.1,ht _ _ z.2.1,z.2.2⟩,ob,es,ep,k _ _ (.inl rfl) e,c⟩
 | set S n=>obtain⟨ob,es,ep,t,e,c⟩:=x;exact⟨ob,es,ep,t,k _ _ (.inl rfl) e,c⟩
 | ins C dx fs =>
  obtain⟨d,z,ne,e,mA,⟨od,es,ep,e2,c⟩,r⟩:=x;exact⟨ho _ d,z,ne,k _ _ (.inl rfl) e,mA,⟨od,es,ep,k _ _ (.inr d) e2,c⟩,r⟩
 | own y=>obtain⟨ob,e⟩:=x;exact⟨ob,k _ _ (.inl rfl) e⟩
 | xd fs=>obtain⟨mA,⟨od,es,ep,e,c⟩,r⟩:=x;exact⟨mA,⟨od,es,ep,k _ _ (.inl rfl) e,c⟩,r⟩
 | yy lo hi=>obtain⟨t,u,v,e⟩:=x;exact⟨t,u,v,k _ _ (.inl rfl) e⟩
 | iK ob u ih=>obtain⟨e,q⟩:=x;exact⟨k _ _ (.inl rfl) e,ih q⟩
 | uc ps =>
  have e:h.get? a=some { cls:=.none,data:=.fields ps }:=x;show h'.get? a=some { cls:=.none,data:=.fields ps };exact k a _ (.inl rfl) e
 | met f y =>
  have e:h.get? a=some (PySem.W.methodObj (.ref f) (.ref y)):=x;show h'.get? a=some (PySem.W.methodObj (.ref f) (.ref y));exact k a _ (.inl rfl) e
 | ext φ=>obtain⟨p,⟨o,e⟩,st⟩:=x;exact⟨st _ _ p λo q=>k _ _ (.inl rfl) q,⟨o,k _ _ (.inl rfl) e⟩,st⟩
theorem fJ.lt(x:fJ P w H h)(e:H a=some o):a<h.objs.size:=(x a o e).lt
theorem fJ.fresh(x:fJ P w H h)(e:h.objs.size<=a):H a=none:=by
 cases q:H a with
 | none=>rfl
 | some u=>exact absurd (Cr (x.lt q) e) (Ds _)
theorem fJ.kept(x:fJ P w H h)(k:∀ b u,h.get? b=some u->h'.get? b=some u):fJ P w H h':=λa o e =>
 (x a o e).fD (λb u _ q=>k b u q) (λ_ q=>q) λ_ _ q=>q
theorem fJ.laid(x:fJ P w H h)(k:∀ b u,h.get? b=some u->h'.get? b=some u)(hp:h.objs.size<=a)(new:aP P w (upd H a o) h' a o):fJ P w (upd H a o) h':=λb u e=>by
 have hn:=x.fresh hp
 by_cases hb:b=a
 .subst hb;rw[au] at e;cases e;exact new
 .rw[ai hb] at e;exact(x b u e).fD (λc v _ q=>k c v q) (λc q=>by rw[ai (aC q hn)];exact q) λc xs q=>by rw[ai (aC q hn)];exact q
end
def Rd(H:Hp)(a:Addr)(u:HO):Prop:=H a=some u\/∃ o,H a=some (.iK o u)
theorem Rd.ok{u:HO}(r:Rd H a u)(x:fJ P w H h):aP P w H h a u:=by
 rcases r with r | ⟨o,r⟩
 .exact x a u r
 .obtain⟨_,q⟩:=x a _ r;exact q
def yl:Option HO->Prop
 | some (.lst _)=>True
 | some (.dK _)=>True
 | some (.dT _)=>True
 | some (.set _ _)=>True
 | some (.ins _ _ _)=>True
 | some (.ext _)=>True
 | _=>False
section
variable{x e:Addr}{o':HO}
theorem fJ.write(ok:fJ P w H h)(mu:yl (H x))(he:e=x\/H e=some (.own x))(k:∀ b u,b≠e->h.get? b=some u->h'.get? b=some u)(BM:∃ u,h'.get? e=some u)
  (new:aP P w (upd H x o') h' x o'):fJ P w (upd H x o') h':=λb u q=>by
 have Ci:∀ c y,H c=some (.own y)->c≠x:=λc y r z=>by subst z;rw[r] at mu;exact mu
 have ntup:∀ c xs,H c=some (.tup xs)->c≠x:=λc xs r z=>by subst z;rw[r] at mu;exact mu
 by_cases hb:b=x
 .subst hb;rw[au] at q;cases q;exact new
 .rw[ai hb] at q
  by_cases A9:b=e
  .have q':H b=some (.own x):=by
    rcases he with z | z
    .exact absurd (A9.trans z) hb
    .rw[A9];exact z
   rw[q] at q';cases q';obtain⟨v,hv⟩:=BM;exact⟨v,by rw[A9];exact hv⟩
  .refine(ok b u q).fD (λc v hc r=>k c v ?_ r) (λc r=>by rw[ai (Ci c b r)];exact r) λc xs r=>by rw[ai (ntup c xs r)];exact r
   rcases hc with rfl | hc
   .exact A9
   .rintro rfl;rcases he with z | z
    .exact Ci c b hc z
    .rw[hc] at z;cases z;exact hb rfl
end
structure Un (fs ex:List Addr) (H H':Hp) (h h':Heap):Prop where
 keep:∀ b o,h.get? b=some o->H b=none->b ∉ fs->b ∉ ex->h'.get? b=some o
 slot:∀ b o,h.get? b=some o->H b=none->b∈fs->b ∉ ex->∃ sl,h'.get? b=some { o with slots:=sl }
 free:∀ b o,h.get? b=some o->H b=none->b ∉ ex->H' b=none
 there:∀ b o,h.get? b=some o->b ∉ ex->∃ o',h'.get? b=some o'
 fV:∀ b xs,H b=some (.tup xs)->H' b=some (.tup xs)
 dM:∀ b o u,H b=some (.iK o u)->H' b=some (.iK o u)
 fM:∀ b ps,H b=some (.uc ps)->∃ more,H' b=some (.uc (ps++more))
section
variable{fs fs' ex ex':List Addr}{H1 H2:Hp}{h1 h2:Heap}{x e:Addr}{o:HO}
theorem Un.any(u:Un fs ex H H1 h h1){ob:Obj}(q:h.get? b=some ob)(n:H b=none)(hx:b ∉ ex):∃ sl,h1.get? b=some { ob with slots:=sl }:=by
 by_cases hb:b∈fs
 .exact u.slot b ob q n hb hx
 .exact⟨ob.slots,u.keep b ob q n hb hx⟩
theorem Un.kept(k:∀ b u,h.get? b=some u->h'.get? b=some u):Un fs ex H H h h' :=
 ⟨λb ob q _ _ _=>k b ob q,λb ob q _ _ _=>⟨ob.slots,k b ob q⟩,λ_ _ _ n _=>n,λb ob q _=>⟨ob,k b ob q⟩,λ_ _ q=>q,λ_ _ _ q=>q,λ_ ps q=>⟨#[],by rw[q];simp⟩⟩
theorem Un.refl:Un fs ex H H h h:=Un.kept λ_ _ q=>q
theorem Un.laid(k:∀ b u,h.get? b=some u->h'.get? b=some u)(hp:h.objs.size<=a)(hn:H a=none):Un fs ex H (upd H a o) h h' where
 keep:=λb u q _ _ _=>k b u q
 slot:=λb u q _ _ _=>⟨u.slots,k b u q⟩
 free:=λb u q n _=>by rw[ai (CC (Cr (Cq q) hp))];exact n
 there:=λb u q _=>⟨u,k b u q⟩
 fV:=λb xs q=>by rw[ai (aC q hn)];exact q
 dM:=λb u xs q=>by rw[ai (aC q hn)];exact q
 fM:=λb ps q=>⟨#[],by rw[ai (aC q hn),q];simp⟩
theorem Un.write(mu:yl (H x))(he:e=x\/H e=some (.own x))(k:∀ b u,b≠e->h.get? b=some u->h'.get? b=some u)(BM:∃ u,h'.get? e=some u):Un fs ex H (upd H x o) h h':=by
 have hx:∀ b,H b=none->b≠x:=λb n z=>by subst z;rw[n] at mu;exact mu
 have hb:∀ b,H b=none->b≠e:=λb n z=>by
  subst z;rcases he with r | r
  .exact hx b n r
  .rw[n] at r;cases r
 have hm:∀ b u,H b=some u->¬ yl (some u)->b≠x:=λb u q nm z=>by subst z;rw[q] at mu;exact nm mu
 refine⟨λb u q n _ _=>k b u (hb b n) q,λb u q n _ _=>⟨u.slots,k b u (hb b n) q⟩,λb u q n _=>by rw[ai (hx b n)];exact n,λb u q _=>?_,
  λb xs q=>by rw[ai (hm b _ q λz=>z)];exact q,λb u xs q=>by rw[ai (hm b _ q λz=>z)];exact q,λb ps q=>⟨#[],by rw[ai (hm b _ q λz=>z),q];simp⟩⟩
 by_cases A9:b=e
 .subst A9;exact BM
 .exact⟨u,k b u A9 q⟩
end
def yw(h:Heap)(H:Hp):List Addr:=(DN h.objs.size).filter λa=>(H a).isSome
def jC(h:Heap)(H:Hp):Heap:=PySem.W.hideAll h (yw h H)
theorem mV(h:Heap)(H:Hp):(jC h H).objs.size=h.objs.size:=PySem.W.hideAll_size _ _
variable{o:Obj}
theorem pM(e:h.get? b=some o)(n:H b=none):(jC h H).get? b=some o :=
 PySem.W.hideAll_get _ e λhm=>by
  have q:(H b).isSome=true:=(EC.mp hm).2;rw[n] at q;simp at q
theorem sQ(e:(jC h H).get? b=some o):h.get? b=some o/\H b=none:=by
 have e':h.get? b=some o:=PySem.W.of_hideAll (yw h H) e;refine⟨e',?_⟩;cases q:H b with
 | none=>rfl
 | some x =>
  have hm:b∈yw h H:=EC.mpr ⟨EL.mpr (Cq e'),by simp[q]⟩;have z:(jC h H).get? b=none:=PySem.W.hideAll_none (yw h H) hm;rw[z] at e;cases e
def rE(g h:Heap)(L:Addr):List (Addr×Obj):=(DN h.objs.size).filterMap λa=>if a=L\/(g.get? a).isSome=true then none else (h.get? a).map λo=>(a,o)
def rest(g h:Heap)(L d:Addr):List (Addr×Obj):=(rE g h L).filter λp=>decide (p.1≠d)
structure Mod (K:PySem.W.Frag) (mg:Str->Option Value) (base:Heap):Prop where
 xZ:K.In base
 glob:base.Ns mainGlobals mg
 blt:∃ mb,base.Ns builtinsNs mb/\∀ x:Str,x ≠ "__name__" -> mb x=bootBuiltins x
 nolimit:base.NoLimit
structure Cx where
 prog:Program
 w:World
 K:PySem.W.Frag
 mg:Str->Option Value
 base:Heap
 A:Around
 N:List Str
 s₀:Shared
 H₀:Hp
 env:Env
 outer:List Env
 stack:List Env
 ex:List Addr
 fn:Str->Bool
 calm:Bool
 pn:List (Addr×Obj)
 xe:Value->Shared->Prop
def j1(l:List Env):List Addr:=l.filterMap (·.frame)
abbrev Cx.fs(X:Cx):List Addr:=j1 X.outer
def vY(sc:Scope)(x:Str):Prop:=sc.names.lookup x=some .local\/sc.names.lookup x=some .cell\/sc.names.lookup x=some .free
def Loc(sc:Scope)(x:Str):Prop:=sc.names.lookup x=some .local\/sc.names.lookup x=some .cell
def Look(env:Env)(h:Heap)(m:Str->Option Value)(x:Str)(u:Value):Prop :=
 (env.kindOf x=some .local/\m x=some u)\/((env.kindOf x=some .cell\/env.kindOf x=some .free)/\∃ c,env.cells.lookup x=some c/\h.IsCell c (some u))
structure Cx.Ok (X:Cx):Prop where
 mod:Mod X.K X.mg X.base
 kind:X.env.scope.kind=.function
 glob:X.env.globals=mainGlobals
 blt:X.env.builtins=builtinsNs
 above:X.s₀.heap.objs.size<=X.env.locals
 inj:∀ x y c,X.env.cells.lookup x=some c->X.env.cells.lookup y=some c->x=y
 has:∀ x,(X.env.kindOf x=some .cell\/X.env.kindOf x=some .free)->∃ c,X.env.cells.lookup x=some c
 um:∀ x c,X.fn x=true->X.env.cells.lookup x=some c->X.s₀.heap.objs.size<=c
 hd:X.calm=true->X.A.handled=none
 frames:X.A.frames=some X.stack
 wB:X.stack=X.outer\/(X.stack=X.env::X.outer/\X.env.frame=some X.env.locals)
 wQ:∀ b∈X.ex,b≠X.env.locals/\∀ x c,X.env.cells.lookup x=some c->c≠b
 bs:∀ b o,X.base.get? b=some o->X.s₀.heap.get? b=some o/\X.H₀ b=none
 pH:X.base.objs.size<=X.s₀.heap.objs.size
 iJ:∀ b o,X.base.get? b=some o->b ∉ X.ex
 jq:∀ b∈X.ex,b ∉ X.fs
 eS:X.s₀.heap.FunFrames X.base X.outer
 rN:∀ b∈X.fs,X.H₀ b=none
structure Inv (X:Cx) (z0:List (Addr×Obj)) (σ:List (Option V)) (H:Hp) (s:Shared):Prop where
 ok:X.Ok
 os:s.os=X.s₀.os
 bare:AllBare s.gens
 base:Un X.fs X.ex X.H₀ H X.s₀.heap s.heap
 loc:∃ m,s.heap.Ns X.env.locals m/\∀ (i:Nat) (x:Str) (v:V),X.N[i]?=some x->σ[i]?=some (some v)->vY X.env.scope x->∃ u,RelV v u/\Look X.env s.heap m x u
 cell:∀ x c,X.env.cells.lookup x=some c->∃ v,s.heap.IsCell c v
 free:H X.env.locals=none
 cC:∀ x c,X.env.cells.lookup x=some c->H c=none
 pin:∀ p∈X.pn++z0,s.heap.get? p.1=some p.2/\H p.1=none/\p.1≠X.env.locals/\p.1 ∉ X.fs/\∀ v,p.2.data≠.cell v
 aJ:fJ X.prog X.w H s.heap
 len:σ.length=X.N.length
variable{s:Shared}{z0:List (Addr×Obj)}{X:Cx}
variable{ch:List Addr}{d':Drawn}{t':Nat}{g':Array GenState}
variable{it:Addr}
variable{x:Str}{i:Nat}{N:List Str}
variable{u:Value}{v:V}{E:Value->Shared->Prop}{A:Around}
section
variable{σ:List (Option V)}
theorem Cx.Ok.yM(ok:X.Ok)(e:X.base.get? b=some o):b ∉ X.fs:=λhb=>by
 have:=(ok.eS.mem hb).1;rw[e] at this;cases this
theorem Inv.bs(I:Inv X z0 σ H s):∀ b o,X.base.get? b=some o->s.heap.get? b=some o/\H b=none:=λb o e =>
 ⟨I.base.keep b o (I.ok.bs b o e).1 (I.ok.bs b o e).2 (I.ok.yM e) (I.ok.iJ b o e),I.base.free b o (I.ok.bs b o e).1 (I.ok.bs b o e).2 (I.ok.iJ b o e)⟩
theorem Inv.bk(I:Inv X z0 σ H s):∀ b o,X.base.get? b=some o->s.heap.get? b=some o:=λb o e=>(I.bs b o e).1
theorem Inv.mod(I:Inv X z0 σ H s):Mod X.K X.mg X.base:=I.ok.mod
theorem Inv.gx(I:Inv X z0 σ H s):X.K.In s.heap:=I.ok.mod.xZ.keeps I.bk
theorem Inv.lt(I:Inv X z0 σ H s):X.env.locals<s.heap.objs.size:=let ⟨_,hn,_⟩:=I.loc;hn.lt
theorem Inv.sz(I:Inv X z0 σ H s):X.s₀.heap.objs.size<=s.heap.objs.size:=CN I.ok.above (DZ I.lt)
theorem Inv.yU(I:Inv X z0 σ H s)(h:s.heap.objs.size<=a):a ∉ X.fs:=λhb=>by
 obtain⟨_,o,ho,_⟩:=I.ok.eS.mem hb;exact absurd (Cr (Cq ho) (CN I.sz h)) (Ds _)
theorem Inv.pv(I:Inv X z0 σ H s):∀ x c,X.env.cells.lookup x=some c->c≠X.env.locals:=λx c e z=>by
 obtain⟨v,o,ho,hd⟩:=I.cell x c e;obtain⟨m,⟨o',es,ep,Bk,hd',_⟩,_⟩:=I.loc;rw[z,Bk] at ho;cases ho;rw[hd'] at hd;cases hd
theorem Inv.eS(I:Inv X z0 σ H s):s.heap.FunFrames X.base X.outer:=by
 have all:∀ (l:List Env),(∀ b∈j1 l,b∈X.fs)->X.s₀.heap.FunFrames X.base l->s.heap.FunFrames X.base l:=by
  intro l
  induction l with
  | nil=>intro _ _;trivial
  | cons env r ih =>
   intro hs hl;obtain⟨hk,⟨L,o,hf,hn,ho,hd⟩,hr⟩:=hl;have hL:L∈X.fs:=hs L (by unfold j1;rw[EH,hf];exact Cz);obtain⟨sl,e⟩:=I.base.slot L o ho (I.ok.rN L hL) hL λz=>I.ok.jq L z hL;exact⟨hk,⟨L,_,hf,hn,e,hd⟩,ih (λb hb=>hs b (by unfold j1;rw[EH,hf];exact CB _ hb)) hr⟩
 exact all X.outer (λ_ hb=>hb) I.ok.eS
theorem Inv.stack(I:Inv X z0 σ H s):s.heap.FunFrames X.base X.stack:=by
 rcases I.ok.wB with e | ⟨e,hf⟩
 .rw[e];exact I.eS
 .rw[e];obtain⟨m,hn,_⟩:=I.loc;refine .cons (by rw[I.ok.kind];decide) hf hn ?_ I.eS;exact Heap.get?_none_of_le (CN I.ok.pH I.ok.above)
theorem Inv.fZ(I:Inv X z0 σ H s):∀ b∈j1 X.stack,b∈X.env.locals::X.fs:=λb hb=>by
 rcases I.ok.wB with e | ⟨e,hf⟩
 .rw[e] at hb;exact CB _ hb
 .rw[e] at hb;unfold j1 at hb;rw[EH,hf] at hb;exact hb
theorem Inv.eU(I:Inv X z0 σ H s):∀ b∈j1 X.stack,H b=none:=λb hb=>by
 rcases CK.mp (I.fZ b hb) with e | hb
 .rw[e];exact I.free
 .obtain⟨_,o,ho,_⟩:=I.ok.eS.mem hb;exact I.base.free b o ho (I.ok.rN b hb) λz=>I.ok.jq b z hb
theorem Inv.step(I:Inv X z0 σ H s)
  (AN:∀ b∈ch,(b∈X.ex\/X.s₀.heap.objs.size<=b)/\b≠X.env.locals/\(∀ x c,X.env.cells.lookup x=some c->c≠b)/\∀ p∈X.pn++z0,p.1≠b)
  (keep:∀ b o,b≠X.env.locals->b ∉ X.fs->b ∉ ch->s.heap.get? b=some o->H b=none->h'.get? b=some o)
  (slot:∀ b o,b≠X.env.locals->b∈X.fs->b ∉ ch->s.heap.get? b=some o->H b=none->∃ sl,h'.get? b=some { o with slots:=sl }) (free:∀ b o,b ∉ ch->s.heap.get? b=some o->H b=none->H' b=none)
  (there:∀ b o,b ∉ ch->s.heap.get? b=some o->∃ o',h'.get? b=some o')
  (fV:∀ b xs,H b=some (.tup xs)->H' b=some (.tup xs)) (dM:∀ b o u,H b=some (.iK o u)->H' b=some (.iK o u)) (fM:∀ b ps,H b=some (.uc ps)->∃ more,H' b=some (.uc (ps++more)))
  (ns:∀ m,s.heap.Ns X.env.locals m->h'.Ns X.env.locals m) (aJ:fJ X.prog X.w H' h') (hg:AllBare g') :
  Inv X z0 σ H' { s with heap:=h',gens:=g',drawn:=d',toks:=t' }:=by
 have neL:∀ b o,X.s₀.heap.get? b=some o->b≠X.env.locals:=λb o e=>CC (Cr (Cq e) I.ok.above);have neC:∀ b o,X.s₀.heap.get? b=some o->b ∉ X.ex->b ∉ ch:=λb o e hx hb=>by
  rcases(AN b hb).1 with z | z
  .exact hx z
  .exact absurd (Cr (Cq e) z) (Ds _)
 have cellK:∀ x c,X.env.cells.lookup x=some c->∀ v,s.heap.IsCell c v->h'.IsCell c v:=λx c e v ⟨o,ho,hd⟩=>by
  have Cg:c ∉ ch:=λz=>(AN c z).2.2.1 x c e rfl
  by_cases hc:c∈X.fs
  .obtain⟨sl,q⟩:=slot c o (I.pv x c e) hc Cg ho (I.cC x c e);exact⟨_,q,hd⟩
  .exact⟨o,keep c o (I.pv x c e) hc Cg ho (I.cC x c e),hd⟩
 refine⟨I.ok,I.os,hg,⟨λb o e n hb hx=>?_,λb o e n hb hx=>?_,λb o e n hx=>?_,λb o e hx=>?_,λb xs e=>fV b xs (I.base.fV b xs e),λb o xs e=>dM b o xs (I.base.dM b o xs e),λb ps e=>?_⟩,?_,λx c e=>?_,?_,λx c e=>?_,λp hp=>?_,aJ,I.len⟩
 .exact keep b o (neL b o e) hb (neC b o e hx) (I.base.keep b o e n hb hx) (I.base.free b o e n hx)
 .obtain⟨sl,e1⟩:=I.base.slot b o e n hb hx;obtain⟨sl',e2⟩:=slot b _ (neL b o e) hb (neC b o e hx) e1 (I.base.free b o e n hx);exact⟨sl',e2⟩
 .obtain⟨o',e1⟩:=I.base.there b o e hx;exact free b o' (neC b o e hx) e1 (I.base.free b o e n hx)
 .obtain⟨o',e1⟩:=I.base.there b o e hx;exact there b o' (neC b o e hx) e1
 .obtain⟨m1,e1⟩:=I.base.fM b ps e;obtain⟨m2,e2⟩:=fM b _ e1;exact⟨m1++m2,by rw[e2,Array.append_assoc]⟩
 .obtain⟨m,hn,hl⟩:=I.loc;refine⟨m,ns m hn,λi x v e1 e2 e3=>?_⟩;obtain⟨u,r,l⟩:=hl i x v e1 e2 e3;refine⟨u,r,?_⟩;rcases l with l | ⟨k,c,e,z⟩
  .exact .inl l
  .exact .inr ⟨k,c,e,cellK x c e _ z⟩
 .obtain⟨v,z⟩:=I.cell x c e;exact⟨v,cellK x c e v z⟩
 .obtain⟨m,⟨o,_,_,ho,_⟩,_⟩:=I.loc;exact free _ o (λz=>(AN _ z).2.1 rfl) ho I.free
 .obtain⟨v,o,ho,hd⟩:=I.cell x c e;exact free c o (λz=>(AN c z).2.2.1 x c e rfl) ho (I.cC x c e)
 .obtain⟨e,n,ne,nf,d⟩:=I.pin p hp;have Cg:p.1 ∉ ch:=λz=>(AN p.1 z).2.2.2 p hp rfl;exact⟨keep p.1 p.2 ne nf Cg e n,free p.1 p.2 Cg e n,ne,nf,d⟩
theorem Inv.un(I:Inv X z0 σ H s)(u:Un X.fs [] H H' s.heap h')(aJ:fJ X.prog X.w H' h'):Inv X z0 σ H' { s with heap:=h',toks:=t' }:=by
 obtain⟨m,⟨o,es,ep,ho,r⟩,_⟩:=id I.loc;obtain⟨sl,hL⟩:=u.any ho I.free (by simp);exact I.step (g':=s.gens) (d':=s.drawn) (ch:=[]) (λ_ z=>nomatch z) (λb o _ hb _ e n=>u.keep b o e n hb (by simp)) (λb o _ hb _ e n=>u.slot b o e n hb (by simp)) (λb o _ e n=>u.free b o e n (by simp)) (λb o _ e=>u.there b o e (by simp)) u.fV u.dM u.fM (λm' hm=>by
  obtain⟨o',es',BV,Bk,r'⟩:=hm;rw[ho] at Bk;cases Bk;exact⟨_,es',BV,hL,r'⟩) aJ I.bare
theorem Inv.call(I:Inv X z0 σ H s)(u:Un (j1 X.stack) ch H H' s.heap h')(aJ:fJ X.prog X.w H' h')(hg:AllBare g')
  (AN:∀ b∈ch,(b∈X.ex\/X.s₀.heap.objs.size<=b)/\b≠X.env.locals/\(∀ x c,X.env.cells.lookup x=some c->c≠b)/\∀ p∈X.pn++z0,p.1≠b) :
  Inv X z0 σ H' { s with heap:=h',gens:=g',drawn:=d',toks:=t' }:=by
 obtain⟨m,⟨o,es,ep,ho,r⟩,_⟩:=id I.loc;obtain⟨sl,hL⟩:=u.any ho I.free λz=>(AN _ z).2.1 rfl;exact I.step (ch:=ch) AN (λb o hL hb hc e n=>u.keep b o e n (λz=>(CK.mp (I.fZ b z)).elim hL hb) hc) (λb o _ _ hc e n=>u.any e n hc) (λb o hc e n=>u.free b o e n hc) (λb o hc e=>u.there b o e hc) u.fV u.dM u.fM (λm' hm=>by
  obtain⟨o',es',BV,Bk,r'⟩:=hm;rw[ho] at Bk;cases Bk;exact⟨_,es',BV,hL,r'⟩) aJ hg
theorem Inv.turned(I:Inv X z0 σ H s)(k:∀ b o,b≠it->s.heap.get? b=some o->h'.get? b=some o)(hn:H it=none)(hL:it≠X.env.locals)
  (h1:it∈X.ex\/X.s₀.heap.objs.size<=it) (h2:∀ x c,X.env.cells.lookup x=some c->c≠it) (h3:∀ p∈X.pn++z0,p.1≠it):Inv X z0 σ H { s with heap:=h',toks:=t' }:=by
 have nit:∀ b u,H b=some u->b≠it:=λb u e z=>by rw[z,hn] at e;cases e
 refine I.step (g':=s.gens) (d':=s.drawn) (ch:=[it]) (λb hb=>?_) (λb o _ _ hc e _=>k b o (λz=>hc (by simp[z])) e) (λb o _ _ hc e _=>⟨o.slots,k b o (λz=>hc (by simp[z])) e⟩) (λ_ _ _ _ n=>n)
  (λb o hc e=>⟨o,k b o (λz=>hc (by simp[z])) e⟩) (λ_ _ e=>e) (λ_ _ _ e=>e) (λb ps e=>⟨#[],by rw[e];simp⟩) (λm hm=>?_) (λb u e=>?_) I.bare
 .have e:b=it:=by simpa using hb
  subst e;exact⟨h1,hL,h2,h3⟩
 .obtain⟨o,es,ep,ho,r⟩:=hm;exact⟨o,es,ep,k _ o (Eh hL) ho,r⟩
 .refine(I.aJ b u e).fD (λc v hc q=>k c v ?_ q) (λ_ q=>q) λ_ _ q=>q;rcases hc with z | z
  .rw[z];exact nit b u e
  .exact nit c _ z
theorem Inv.tok(I:Inv X z0 σ H s)(t:Nat):Inv X z0 σ H { s with toks:=t }:=I.un (h':=s.heap) (t':=t) Un.refl I.aJ
theorem Inv.kept{t':Nat}(I:Inv X z0 σ H s)(k:∀ b u,s.heap.get? b=some u->h'.get? b=some u):Inv X z0 σ H { s with heap:=h',toks:=t' }:=I.un (Un.kept k) (I.aJ.kept k)
theorem Inv.laid{a:Addr}{o:HO}{t':Nat}(I:Inv X z0 σ H s)(k:∀ b u,s.heap.get? b=some u->h'.get? b=some u)(hp:s.heap.objs.size<=a)(new:aP X.prog X.w (upd H a o) h' a o) :
  Inv X z0 σ (upd H a o) { s with heap:=h',toks:=t' }:=I.un (Un.laid k hp (I.aJ.fresh hp)) (I.aJ.laid k hp new)
theorem Inv.write{x e:Addr}{o:HO}{t':Nat}(I:Inv X z0 σ H s)(mu:yl (H x))(he:e=x\/H e=some (.own x))(k:∀ b u,b≠e->s.heap.get? b=some u->h'.get? b=some u)(BM:∃ u,h'.get? e=some u)
  (new:aP X.prog X.w (upd H x o) h' x o):Inv X z0 σ (upd H x o) { s with heap:=h',toks:=t' }:=I.un (Un.write mu he k BM) (I.aJ.write mu he k BM new)
theorem Inv.lW{AQ:List (Addr×Obj)}(I:Inv X z0 σ H s)(h:∀ p∈AQ,s.heap.get? p.1=some p.2/\H p.1=none/\p.1≠X.env.locals/\p.1 ∉ X.fs/\∀ v,p.2.data≠.cell v):Inv X AQ σ H s :=
 ⟨I.ok,I.os,I.bare,I.base,I.loc,I.cell,I.free,I.cC,λp hp=>(ED.mp hp).elim (λz=>I.pin p (DE _ z)) (h p),I.aJ,I.len⟩
theorem hU(hN:N.Nodup){j:Nat}(a:N[i]?=some x)(b:N[j]?=some x):i=j:=by
 obtain⟨h1,e1⟩:=Dj.mp a;obtain⟨h2,e2⟩:=Dj.mp b;exact(List.getElem_inj hN).mp (e1.trans e2.symm)
theorem iR{M:Model}{Q:Unit->Shared->Prop}(I:Inv X z0 σ H s)(hN:X.N.Nodup)(hi:X.N[i]?=some x)(hx:Loc X.env.scope x)(r:RelV v u)
  (h:∀ s',Inv X z0 (σ.set i (some v)) H s'->(∃ a,D0 a s.heap s'.heap/\(a=X.env.locals\/X.env.cells.lookup x=some a))->Q () s') (hf:autoParam (X.fn x=true\/X.env.scope.names.lookup x=some .local) aF._auto_1):wpAny M A (storeName X.env x u) Q E s:=by
 obtain⟨m,hn,hl⟩:=id I.loc;have hcls:(X.env.scope.kind==.class||(X.env.scope.kind==.module&&X.env.locals != X.env.globals))=false:=by rw[I.ok.kind];rfl
 have hiσ:i<σ.length:=by rw[I.len];exact(Dj.mp hi).1
 have pv:=I.pv;have tracked:∀ {a:Addr} {h':Heap},(∃ o,s.heap.get? a=some o/\H a=none)->D0 a s.heap h'->fJ X.prog X.w H h':=λ{a h'} ha hs b ob e=>by
  obtain⟨_,_,AO⟩:=ha;refine(I.aJ b ob e).fD (λc w' hc q=>(hs.2 c ?_).trans q) (λ_ q=>q) λ_ _ q=>q;rintro rfl;rcases hc with rfl | hc
  .rw[AO] at e;cases e
  .rw[AO] at hc;cases hc
 rcases hx with hk | hk
 .refine wpAny_storeName_local hk hn (λh' hn' hs=>?_) hcls;obtain⟨oL,_,_,hoL,_⟩:=id hn;refine h _ ⟨I.ok,I.os,I.bare,⟨λb o e n hb hx=>?_,λb o e n hb hx=>?_,I.base.free,λb o e hx=>?_,I.base.fV,I.base.dM,I.base.fM⟩,⟨_,hn',λj y v' e1 e2 e3=>?_⟩,λy c e=>?_,I.free,I.cC,λp hp=>?_,tracked ⟨oL,hoL,I.free⟩ hs,by simpa using I.len⟩ ⟨_,hs,.inl rfl⟩
  .exact(hs.2 b (CC (Cr (Cq e) I.ok.above))).trans (I.base.keep b o e n hb hx)
  .obtain⟨sl,e1⟩:=I.base.slot b o e n hb hx;exact⟨sl,(hs.2 b (CC (Cr (Cq e) I.ok.above))).trans e1⟩
  .obtain⟨o',e1⟩:=I.base.there b o e hx;exact⟨o',(hs.2 b (CC (Cr (Cq e) I.ok.above))).trans e1⟩
  .by_cases hj:j=i
   .subst hj;rw[hi] at e1;cases e1;rw[E9 hiσ] at e2;cases e2;exact⟨u,r,.inl ⟨hk,by simp⟩⟩
   .rw[EA (Eh hj)] at e2;obtain⟨u',r',q⟩:=hl j y v' e1 e2 e3;refine⟨u',r',?_⟩;rcases q with ⟨k,e⟩ | ⟨k,c,e,z⟩
    .refine .inl ⟨k,?_⟩;have:y≠x:=λe=>hj (hU hN e1 (e▸hi));simp[this,e]
    .exact .inr ⟨k,c,e,z.sameBut hs (pv y c e)⟩
  .obtain⟨w',z⟩:=I.cell y c e;exact⟨w',z.sameBut hs (pv y c e)⟩
  .obtain⟨e,n,ne,nf,d⟩:=I.pin p hp;exact⟨(hs.2 p.1 ne).trans e,n,ne,nf,d⟩
 .have hfn:X.fn x=true:=by
   rcases hf with z | z
   .exact z
   .rw[z] at hk;cases hk
  obtain⟨c,hc⟩:=I.ok.has x (.inl hk);obtain⟨w',z⟩:=I.cell x c hc;refine wpAny_storeName_cell I.ok.kind hk hc z (λh' Bc hs=>?_);obtain⟨oc,hoc,hocd⟩:=id z;refine h { s with heap:=h' } ⟨I.ok,I.os,I.bare,⟨λb o e n hb hx=>?_,λb o e n hb hx=>?_,I.base.free,λb o e hx=>?_,I.base.fV,I.base.dM,I.base.fM⟩,⟨m,hn.sameBut hs (Eh (pv x c hc)),λj y v' e1 e2 e3=>?_⟩,λy c' e=>?_,I.free,I.cC,λp hp=>?_,tracked ⟨oc,hoc,I.cC x c hc⟩ hs,by simpa using I.len⟩ ⟨c,hs,.inr hc⟩
  .exact(hs.2 b (CC (Cr (Cq e) (I.ok.um x c hfn hc)))).trans (I.base.keep b o e n hb hx)
  .obtain⟨sl,e1⟩:=I.base.slot b o e n hb hx;exact⟨sl,(hs.2 b (CC (Cr (Cq e) (I.ok.um x c hfn hc)))).trans e1⟩
  .obtain⟨o',e1⟩:=I.base.there b o e hx;exact⟨o',(hs.2 b (CC (Cr (Cq e) (I.ok.um x c hfn hc)))).trans e1⟩
  .by_cases hj:j=i
   .subst hj;rw[hi] at e1;cases e1;rw[E9 hiσ] at e2;cases e2;exact⟨u,r,.inr ⟨.inl hk,c,hc,Bc⟩⟩
   .rw[EA (Eh hj)] at e2;obtain⟨u',r',q⟩:=hl j y v' e1 e2 e3;refine⟨u',r',?_⟩;rcases q with q | ⟨k,c',e,z'⟩
    .exact .inl q
    .refine .inr ⟨k,c',e,z'.sameBut hs ?_⟩;rintro rfl;exact hj (hU hN e1 (I.ok.inj _ _ _ e hc▸hi))
  .by_cases hcc:c'=c
   .subst hcc;exact⟨_,Bc⟩
   .obtain⟨w2,z2⟩:=I.cell y c' e;exact⟨w2,z2.sameBut hs hcc⟩
  .obtain⟨e,n,ne,nf,d⟩:=I.pin p hp;refine⟨(hs.2 p.1 ?_).trans e,n,ne,nf,d⟩;intro q;rw[q,hoc] at e;have q':oc=p.2:=CG e;exact d w' (by rw[<- q'];exact hocd)
theorem ig{M:Model}{Q:Unit->Shared->Prop}(I:Inv X z0 σ H s)(hN:X.N.Nodup)(hi:X.N[i]?=some x)(hx:Loc X.env.scope x)(r:RelV v u)
  (h:∀ s',Inv X z0 (σ.set i (some v)) H s'->Q () s') (hf:autoParam (X.fn x=true\/X.env.scope.names.lookup x=some .local) aF._auto_1):wpAny M A (storeName X.env x u) Q E s :=
 iR I hN hi hx r (λs' I' _=>h s' I') hf
theorem Inv.i9{s':Shared}(I:Inv X z0 σ H s)(ho:s'.os=s.os)(u:Un (j1 X.stack) ch H H' s.heap s'.heap)(aJ:fJ X.prog X.w H' s'.heap)(hg:AllBare s'.gens)
  (AN:∀ b∈ch,(b∈X.ex\/X.s₀.heap.objs.size<=b)/\b≠X.env.locals/\(∀ x c,X.env.cells.lookup x=some c->c≠b)/\∀ p∈X.pn++z0,p.1≠b):Inv X z0 σ H' s':=by
 obtain⟨h',g',d',t',o'⟩:=s';have e:o'=s.os:=ho;subst e;exact I.call (g':=g') (t':=t') (d':=d') u aJ hg AN
end
abbrev XK:=Value->Option Addr->Hp->Prop
abbrev St:=List (Option V)
abbrev VK:=V->Hp->Prop
abbrev TE:=St->Hp->VK->Prop
abbrev TT:=St->Hp->(Bool->Hp->Prop)->Prop
abbrev TA:=St->Hp->(List V->Hp->Prop)->Prop
structure Ends where
 nx:St->Hp->Prop
 rt:VK
 bk:St->Hp->Prop:=λ_ _=>False
 ct:St->Hp->Prop:=λ_ _=>False
abbrev TS:=Ends->St->Hp->Prop
def EP(X:Cx)(z0:List (Addr×Obj))(σ:St)(Q:VK)(u:Value)(s':Shared):Prop:=∃ v H',Inv X z0 σ H' s'/\RelV v u/\Q v H'
def TP(X:Cx)(z0:List (Addr×Obj))(σ:St)(Q:Bool->Hp->Prop)(b:Bool)(s':Shared):Prop:=∃ H',Inv X z0 σ H' s'/\Q b H'
def AP(X:Cx)(z0:List (Addr×Obj))(σ:St)(Q:List V->Hp->Prop)(us:List Value)(s':Shared):Prop:=∃ vs H',Inv X z0 σ H' s'/\Vals vs us/\Q vs H'
def SP(X:Cx)(z0:List (Addr×Obj))(D:Ends)(f:Flow)(s':Shared):Prop :=
 match f with
 | .next=>∃ σ' H',Inv X z0 σ' H' s'/\D.nx σ' H'
 | .brk=>∃ σ' H',Inv X z0 σ' H' s'/\D.bk σ' H'
 | .cont=>∃ σ' H',Inv X z0 σ' H' s'/\D.ct σ' H'
 | .ret u=>∃ v σ' H',Inv X z0 σ' H' s'/\RelV v u/\D.rt v H'
def PE(X:Cx)(e:Expr)(t:TE):Prop :=
 ∀ (z0:List (Addr×Obj)) (s:Shared) (σ:St) (H:Hp) (Q:VK),Inv X z0 σ H s->t σ H Q->wpAny (model X.prog X.w) X.A (eval e X.env) (EP X z0 σ Q) X.xe s
def PT(X:Cx)(e:Expr)(t:TT):Prop :=
 ∀ (z0:List (Addr×Obj)) (s:Shared) (σ:St) (H:Hp) (Q:Bool->Hp->Prop),Inv X z0 σ H s->t σ H Q->wpAny (model X.prog X.w) X.A (isTrue e X.env (eval e X.env)) (TP X z0 σ Q) X.xe s
def PW(X:Cx)(e:Expr)(t:TT):Prop :=
 ∀ (whole:Sem Value) (z0:List (Addr×Obj)) (s:Shared) (σ:St) (H:Hp) (Q:Bool->Hp->Prop),Inv X z0 σ H s->t σ H Q->wpAny (model X.prog X.w) X.A (isTrue e X.env whole) (TP X z0 σ Q) X.xe s
variable{e:Expr}
theorem PW.pt{t:TT}(h:PW X e t):PT X e t:=h _
def PA(X:Cx)(es:List Expr)(t:TA):Prop :=
 ∀ (pos:Pos) (z0:List (Addr×Obj)) (s:Shared) (σ:St) (H:Hp) (Q:List V->Hp->Prop),Inv X z0 σ H s->t σ H Q->wpAny (model X.prog X.w) X.A (spliced (backTo pos (starEach es X.env))) (AP X z0 σ Q) X.xe s
def PS(X:Cx)(st:Stmt)(t:TS):Prop :=
 ∀ (z0:List (Addr×Obj)) (s:Shared) (σ:St) (H:Hp) (D:Ends),Inv X z0 σ H s->t D σ H->wpAny (model X.prog X.w) X.A (exec st X.env) (SP X z0 D) X.xe s
def gk(X:Cx)(st:List Stmt)(t:TS):Prop :=
 ∀ (z0:List (Addr×Obj)) (s:Shared) (σ:St) (H:Hp) (D:Ends),Inv X z0 σ H s->t D σ H->wpAny (model X.prog X.w) X.A (execs st X.env) (SP X z0 D) X.xe s
theorem bM{α:Type}{t:Sem α}{Q Q':α->Shared->Prop}{M:Model}(h:wpAny M A t Q E s)(hQ:∀ a s,Q a s->Q' a s):wpAny M A t Q' E s:=CO h hQ λ_ _ x=>x
variable{pos:Pos}
variable{Q:Value->Shared->Prop}{σ:St}
variable{ta:TE}
variable{c:Expr}
section
def y4(i:Nat):TE:=fun σ H Q=>∃ v,σ[i]?=some (some v)/\Q v H
def tC(v:V):TE:=λ_ H Q=>Q v H
theorem n5(hN:X.N[i]?=some x)(hv:vY X.env.scope x)(hd:autoParam ((x==("__debug__" : Str))=false) aD._auto_1)(AY:autoParam ((x==("__classdict__" : Str))=false) aD._auto_1):PE X (.Name x pos) (y4 i):=by
 intro z0 s σ H Q I h;obtain⟨v,e,h⟩:=h;obtain⟨m,hn,hl⟩:=I.loc;obtain⟨u,r,l⟩:=hl i x v hN e hv;have fin:EP X z0 σ Q u s:=⟨v,H,I,r,h⟩
 rcases l with ⟨hk,hm⟩ | ⟨hk,c,hc,AM⟩
 .exact Gq (wpAny_loadName_local I.ok.kind hk hn hm fin) hd
 .rcases hk with hk | hk
  .exact Gq (wpAny_loadName_cell I.ok.kind hk hc AM fin) hd
  .exact Gq (wpAny_loadName_free I.ok.kind hk hc AM fin AY) hd
theorem uC{i j pos}:PE X (.Constant (.int i) j pos) (tC (.int i)):=λ_ _ _ H _ I h=>wpAny_Constant_int ⟨.int i,H,I.tok _,⟨_,rfl⟩,h⟩
theorem xh{b j pos}:PE X (.Constant (.bool b) j pos) (tC (.bl b)):=λ_ _ _ H _ I h=>Constant_bool ⟨.bl b,H,I,rfl,h⟩
theorem uY{j pos}:PE X (.Constant .none j pos) (tC .bL):=λ_ _ _ H _ I h=>Constant_none ⟨.bL,H,I,rfl,h⟩
theorem vq{x j pos}:PE X (.Constant (.str x) j pos) (tC (.str x)):=λ_ _ _ H _ I h=>Calls.Constant_str ⟨.str x,H,I.tok _,⟨_,rfl⟩,h⟩
def Gl(X:Cx)(x:Str):Prop:=X.env.kindOf x=some .globalImplicit
theorem e_(I:Inv X z0 σ H s)(hg:Gl X x)(hm:X.mg x=some u)(h:Q u s)
  (hd:autoParam ((x==("__debug__" : Str))=false) aD._auto_1):wpAny (model X.prog X.w) X.A (eval (.Name x pos) X.env) Q E s :=
 EM I.ok.kind hg (Calls.loadGlobal_global (by rw[I.ok.glob];exact I.mod.glob.keeps I.bk) hm h) hd
theorem ip(I:Inv X z0 σ H s)(hg:Gl X x)(hm:X.mg x=none)(hv:bootBuiltins x=some u)(h:Q u s)
  (hn:autoParam (x ≠ "__name__") aD._auto_1) (hd:autoParam ((x==("__debug__" : Str))=false) aD._auto_1):wpAny (model X.prog X.w) X.A (eval (.Name x pos) X.env) Q E s:=by
 obtain⟨mb,h1,h2⟩:=I.mod.blt;exact EM I.ok.kind hg (Calls.loadGlobal_builtin (by rw[I.ok.glob];exact I.mod.glob.keeps I.bk) hm (by rw[I.ok.blt];exact h1.keeps I.bk) ((h2 x hn).trans hv) h) hd
theorem gN(hg:Gl X x)(hm:X.mg x=some u)(r:RelV v u)(hd:autoParam ((x==("__debug__" : Str))=false) aD._auto_1):PE X (.Name x pos) (tC v) :=
 λ_ _ _ H _ I h=>e_ I hg hm ⟨v,H,I,r,h⟩ hd
theorem bU(hg:Gl X x)(hm:X.mg x=none)(hv:bootBuiltins x=some u)(r:RelV v u)(hn:autoParam (x ≠ "__name__") aD._auto_1)(hd:autoParam ((x==("__debug__" : Str))=false) aD._auto_1):PE X (.Name x pos) (tC v) :=
 λ_ _ _ H _ I h=>ip I hg hm hv ⟨v,H,I,r,h⟩ hn hd
variable{a b:Expr}{tb:TE}
def tB(t:TE):TT:=fun σ H Q=>t σ H λx H1=>∃ c,x=.bl c/\Q c H1
theorem wG{t:TE}(h:PE X e t)(he:autoParam (∀ whole,isTrue e X.env whole=(do let v <- whole;standAt e.pos;holding [v] (truthy v))) aI._auto_1):PT X e (tB t):=by
 intro z0 s σ H Q I hw;refine isTrue_plain (bM (h z0 s σ H _ I hw) λv s1 ⟨x,H1,I1,r1,q1⟩=>?_) (he _);obtain⟨d,rfl,q⟩:=q1;cases r1;exact Dh ⟨H1,I1,q⟩
variable{tA tB':TT}{rest:List Expr}
def yW(t u:TT):TT:=fun σ H Q=>t σ H λc H1=>if c=true then u σ H1 Q else Q false H1
def zp(t u:TT):TT:=fun σ H Q=>t σ H λc H1=>if c=true then Q true H1 else u σ H1 Q
def yD(t:TT):TT:=fun σ H Q=>t σ H λc H1=>Q (!c) H1
theorem pw_and1(ha:PT X a tA):PW X (.BoolOp .And [a] pos) tA:=by
 intro wh z0 s σ H Q I h;refine isTrue_and (bM (ha z0 s σ H Q I h) λc s1 e=>?_);cases c with
 | true=>exact isTrue_and_nil e
 | false=>exact e
theorem pw_or1(ha:PT X a tA):PW X (.BoolOp .Or [a] pos) tA:=by
 intro wh z0 s σ H Q I h;refine isTrue_or (bM (ha z0 s σ H Q I h) λc s1 e=>?_);cases c with
 | false=>exact isTrue_or_nil e
 | true=>exact e
theorem pw_and(ha:PT X a tA)(hb:PW X (.BoolOp .And (b::rest) pos) tB'):PW X (.BoolOp .And (a::b::rest) pos) (yW tA tB'):=by
 intro wh z0 s σ H Q I h;refine isTrue_and (bM (ha z0 s σ H _ I h) λc s1 ⟨H1,I1,q1⟩=>?_);cases c with
 | true=>exact hb wh z0 s1 σ H1 Q I1 q1
 | false=>exact⟨H1,I1,q1⟩
theorem pw_or(ha:PT X a tA)(hb:PW X (.BoolOp .Or (b::rest) pos) tB'):PW X (.BoolOp .Or (a::b::rest) pos) (zp tA tB'):=by
 intro wh z0 s σ H Q I h;refine isTrue_or (bM (ha z0 s σ H _ I h) λc s1 ⟨H1,I1,q1⟩=>?_);cases c with
 | true=>exact⟨H1,I1,q1⟩
 | false=>exact hb wh z0 s1 σ H1 Q I1 q1
theorem uO(ha:PT X a tA):PT X (.UnaryOp .Not a pos) (yD tA):=by
 intro z0 s σ H Q I h;exact isTrue_not (ha z0 s σ H (λc H1=>Q (!c) H1) I h)
def xm(ta tb:TE):TE:=fun σ H Q=>ta σ H λx H1=>∃ c,x=.bl c/\if c=true then tb σ H1 Q else Q (.bl false) H1
def yK(ta tb:TE):TE:=fun σ H Q=>ta σ H λx H1=>∃ c,x=.bl c/\if c=true then Q (.bl true) H1 else tb σ H1 Q
def yd(ta:TE):TE:=fun σ H Q=>ta σ H λx H1=>∃ c,x=.bl c/\Q (.bl (!c)) H1
theorem gc{op}{t:TE}(h:PE X a t):PE X (.BoolOp op [a] pos) t:=λz0 s σ H Q I hw=>BoolOp_one (h z0 s σ H Q I hw)
theorem uv(ha:PE X a ta)(hb:PE X (.BoolOp .And (b::rest) pos) tb):PE X (.BoolOp .And (a::b::rest) pos) (xm ta tb):=by
 intro z0 s σ H Q I h;refine BoolOp_and (bM (ha z0 s σ H _ I h) λv s1 ⟨x,H1,I1,r1,q1⟩=>?_);obtain⟨c,rfl,q1⟩:=q1;cases r1;refine Dh ?_;cases c with
 | true=>exact hb z0 s1 σ H1 Q I1 q1
 | false=>exact⟨.bl false,H1,I1,rfl,q1⟩
theorem xE(ha:PE X a ta)(hb:PE X (.BoolOp .Or (b::rest) pos) tb):PE X (.BoolOp .Or (a::b::rest) pos) (yK ta tb):=by
 intro z0 s σ H Q I h;refine BoolOp_or (bM (ha z0 s σ H _ I h) λv s1 ⟨x,H1,I1,r1,q1⟩=>?_);obtain⟨c,rfl,q1⟩:=q1;cases r1;refine Dh ?_;cases c with
 | false=>exact hb z0 s1 σ H1 Q I1 q1
 | true=>exact⟨.bl true,H1,I1,rfl,q1⟩
theorem vH(ha:PE X a ta):PE X (.UnaryOp .Not a pos) (yd ta):=by
 intro z0 s σ H Q I h;refine UnaryOp_ (bM (ha z0 s σ H _ I h) λv s1 ⟨x,H1,I1,r1,q1⟩=>?_);obtain⟨c,rfl,q1⟩:=q1;cases r1;exact not_of (Dh ⟨.bl (!c),H1,I1,rfl,q1⟩)
def zO(t:TT)(ta tb:TE):TE:=fun σ H Q=>t σ H λc H1=>if c=true then ta σ H1 Q else tb σ H1 Q
theorem oy(hc:PT X c tA)(ha:PE X a ta)(hb:PE X b tb):PE X (.IfExp c a b pos) (zO tA ta tb):=by
 intro z0 s σ H Q I h;refine wpAny_IfExp (bM (hc z0 s σ H _ I h) λd s1 ⟨H1,I1,q1⟩=>?_);cases d with
 | true=>exact ha z0 s1 σ H1 Q I1 q1
 | false=>exact hb z0 s1 σ H1 Q I1 q1
end
def dF(K:PySem.W.Frag)(H:Hp)(a:Addr)(xs:List V):Prop :=
 Rd H a (.lst xs) ∨
  ∃ (o:Obj) (z7:Array Value) (n:Nat),K.lookup a=some o/\o.cls=.type "list" /\ o.dict=none/\o.data=.seq z7 n/\z7.size<=sizeLine/\Vals xs z7.toList
def dg(K:PySem.W.Frag)(H:Hp)(a:Addr)(xs:List V):Prop :=
 Rd H a (.tup xs) ∨
  ∃ (o:Obj) (z7:Array Value) (n:Nat),K.lookup a=some o/\o.cls=.type "tuple" /\ o.data=.seq z7 n/\z7.size<=sizeLine/\Vals xs z7.toList
def yP:Value->Option V
 | .none=>some .bL
 | .bool b=>some (.bl b)
 | .int i _=>some (.int i)
 | .str x _=>some (.str x)
 | .bytes b _=>some (.byt b)
 | .float b _=>some (.uK b)
 | .ref a=>some (.ref a)
 | .type n=>some (.ty n)
 | _=>none
theorem RelV.abs{x:V}(r:RelV x u):yP u=some x:=by
 cases x with
 | bL=>cases r;rfl
 | bl _=>cases r;rfl
 | int _=>obtain⟨t,rfl⟩:=r;rfl
 | str _=>obtain⟨t,rfl⟩:=r;rfl
 | byt _=>obtain⟨t,rfl⟩:=r;rfl
 | uK _=>obtain⟨t,rfl⟩:=r;rfl
 | ref _=>cases r;rfl
 | ty _=>cases r;rfl
theorem RelV.inj{x y:V}{u:Value}(r:RelV x u)(q:RelV y u):x=y:=CG (r.abs.symm.trans q.abs)
theorem Vals.inj:∀ {xs ys:List V} {us:List Value},Vals xs us->Vals ys us->xs=ys
 | _,_,_,.nil,.nil=>rfl
 | _,_,_,.cons r t,.cons r' t'=>by rw[r.inj r',Vals.inj t t']
section
variable{xs ys:List V}
theorem dF.of{K:PySem.W.Frag}(h:H a=some (.lst xs)):dF K H a xs:=.inl (.inl h)
theorem dg.of{K:PySem.W.Frag}(h:H a=some (.tup xs)):dg K H a xs:=.inl (.inl h)
theorem Inv.list(I:Inv X z0 σ H s)(h:dF X.K H a xs):∃ z7:List Value,Vals xs z7/\PlainL s.heap a z7.toArray/\xs.length<=sizeLine:=by
 rcases h with h | ⟨o,z7,n,hk,hc,hd,hs,hz,r⟩
 .obtain⟨z,z7,n,r,e⟩:=h.ok I.aJ;exact⟨z7,r,⟨_,n,e,rfl,rfl,rfl⟩,z⟩
 .refine⟨z7.toList,r,⟨o,n,I.gx a o hk,hc,hd,by simpa using hs⟩,?_⟩;have e:=r.length;simp only[D6] at e;lia
theorem Inv.tuple(I:Inv X z0 σ H s)(h:dg X.K H a xs):∃ z7:List Value,Vals xs z7/\IsTup s.heap a z7.toArray/\xs.length<=sizeLine:=by
 rcases h with h | ⟨o,z7,n,hk,hc,hs,hz,r⟩
 .obtain⟨z,z7,r,p⟩:=h.ok I.aJ;exact⟨z7,r,p,z⟩
 .refine⟨z7.toList,r,⟨o,I.gx a o hk,hc,n,by simpa using hs⟩,?_⟩;have e:=r.length;simp only[D6] at e;lia
theorem Inv.j7(I:Inv X z0 σ H s)(h:dF X.K H a xs)(h':dF X.K H a ys):xs=ys:=by
 obtain⟨z7,r,⟨o,n,e,_,_,d⟩,_⟩:=I.list h;obtain⟨its',r',⟨o',n',e',_,_,d'⟩,_⟩:=I.list h';rw[e] at e';cases e';rw[d] at d';injection d' with d1 _
 have:z7=its':=by simpa using congrArg Gy d1
 subst this;exact r.inj r'
theorem Inv.jc(I:Inv X z0 σ H s)(h:dg X.K H a xs)(h':dg X.K H a ys):xs=ys:=by
 obtain⟨z7,r,⟨o,e,_,n,d⟩,_⟩:=I.tuple h;obtain⟨its',r',⟨o',e',_,n',d'⟩,_⟩:=I.tuple h';rw[e] at e';cases e';rw[d] at d';injection d' with d1 _
 have:z7=its':=by simpa using congrArg Gy d1
 subst this;exact r.inj r'
end
abbrev Cx.fX(X:Cx)(E:Value->Shared->Prop):Cx:={ X with xe:=E }
theorem Cx.Ok.fX{X:Cx}(ok:X.Ok)(E:Value->Shared->Prop):(X.fX E).Ok :=
 ⟨ok.mod,ok.kind,ok.glob,ok.blt,ok.above,ok.inj,ok.has,ok.um,ok.hd,ok.frames,ok.wB,ok.wQ,ok.bs,ok.pH,ok.iJ,ok.jq,ok.eS,ok.rN⟩
theorem Cx.Ok.bg(ok:(X.fX E).Ok):X.Ok :=
 ⟨ok.mod,ok.kind,ok.glob,ok.blt,ok.above,ok.inj,ok.has,ok.um,ok.hd,ok.frames,ok.wB,ok.wQ,ok.bs,ok.pH,ok.iJ,ok.jq,ok.eS,ok.rN⟩
theorem Inv.fX(I:Inv X z0 σ H s)(E:Value->Shared->Prop):Inv (X.fX E) z0 σ H s:=⟨I.ok.fX E,I.os,I.bare,I.base,I.loc,I.cell,I.free,I.cC,I.pin,I.aJ,I.len⟩
theorem Inv.bg(I:Inv (X.fX E) z0 σ H s):Inv X z0 σ H s:=⟨I.ok.bg,I.os,I.bare,I.base,I.loc,I.cell,I.free,I.cC,I.pin,I.aJ,I.len⟩
theorem SP.bg{D:Ends}{f:Flow}{s':Shared}(h:SP (X.fX E) z0 D f s'):SP X z0 D f s':=by
 cases f with
 | next=>obtain⟨σ',H',I,q⟩:=h;exact⟨σ',H',I.bg,q⟩
 | brk=>obtain⟨σ',H',I,q⟩:=h;exact⟨σ',H',I.bg,q⟩
 | cont=>obtain⟨σ',H',I,q⟩:=h;exact⟨σ',H',I.bg,q⟩
 | ret u=>obtain⟨v,σ',H',I,r,q⟩:=h;exact⟨v,σ',H',I.bg,r,q⟩
variable{te:TE}
section
variable{st:Stmt}{rest:List Stmt}{t u:TS}
def xq:TS:=λD σ H=>D.nx σ H
def yQ(t u:TS):TS:=λD σ H=>t { D with nx:=u D } σ H
theorem mv:gk X [] xq:=λ_ _ σ H _ I h=>Fl ⟨σ,H,I,h⟩
theorem kz(h1:PS X st t)(h2:gk X rest u):gk X (st::rest) (yQ t u):=by
 intro z0 s σ H D I h;refine wpAny_execs_cons (bM (h1 z0 s σ H { D with nx:=u D } I h) λf s1 q=>?_);cases f with
 | next =>
  obtain⟨σ',H',I',q⟩:=q;exact h2 z0 s1 σ' H' D I' q
 | ret v=>exact q
 | brk=>exact q
 | cont=>exact q
theorem Inv.quiet(I:Inv X z0 σ H s):interactive X.env=false:=by simp[interactive,I.ok.kind]
def yj(te:TE):TS:=λD σ H=>te σ H λ_ H1=>D.nx σ H1
theorem mD(he:PE X e te)(hs:autoParam (swapsWith e none pos.line X.env=pure false) aR._auto_1):PS X (.Expr e pos) (yj te):=by
 intro z0 s σ H D I h;exact wpAny_Expr_any (bM (he z0 s σ H _ I h) λv s1 ⟨x,H1,I1,r1,q1⟩=>⟨σ,H1,I1,q1⟩) I.quiet hs
def yE(te:TE):TS:=λD σ H=>te σ H D.rt
theorem vB(he:PE X e te):PS X (.Return (some e) pos) (yE te):=by
 intro z0 s σ H D I h;exact wpAny_Return_some (bM (he z0 s σ H _ I h) λv s1 ⟨x,H1,I1,r1,q1⟩=>⟨x,σ,H1,I1,r1,q1⟩)
def yZ(c:TT)(t u:TS):TS:=λD σ H=>c σ H λb H1=>if b=true then t D σ H1 else u D σ H1
theorem xN{a b:List Stmt}{tc:TT}(hc:PT X c tc)(ha:gk X a t)(hb:gk X b u):PS X (.If c a b pos) (yZ tc t u):=by
 intro z0 s σ H D I h;refine wpAny_If (bM (hc z0 s σ H _ I h) λd s1 ⟨H1,I1,q1⟩=>?_);cases d with
 | true=>exact ha z0 s1 σ H1 D I1 q1
 | false=>exact hb z0 s1 σ H1 D I1 q1
end
abbrev TG:=V->St->Hp->(St->Hp->Prop)->Prop
abbrev uN:=List V->St->Hp->(St->Hp->Prop)->Prop
def PG(X:Cx)(target:Expr)(t:TG):Prop :=
 ∀ (z0:List (Addr×Obj)) (s:Shared) (σ:St) (H:Hp) (v:V) (u:Value) (Q:St->Hp->Prop),Inv X z0 σ H s->RelV v u->t v σ H Q ->
  wpAny (model X.prog X.w) X.A (assign target X.env u) (λ_ s'=>∃ σ' H',Inv X z0 σ' H' s'/\Q σ' H') X.xe s
def ym(X:Cx)(ts:List Expr)(t:uN):Prop :=
 ∀ (z0:List (Addr×Obj)) (s:Shared) (σ:St) (H:Hp) (vs:List V) (us:List Value) (Q:St->Hp->Prop),Inv X z0 σ H s->Vals vs us->t vs σ H Q ->
  wpAny (model X.prog X.w) X.A (assignInOrder ((assignEach ts X.env).map (·.2)) us) (λ_ s'=>∃ σ' H',Inv X z0 σ' H' s'/\Q σ' H') X.xe s
variable{es:List Expr}
variable{n k:Nat}
def cB(i:Nat):TG:=λv σ H Q=>Q (σ.set i (some v)) H
theorem sX(hN:X.N.Nodup)(hi:X.N[i]?=some x)(hx:Loc X.env.scope x)(hf:autoParam (X.fn x=true\/X.env.scope.names.lookup x=some .local) aF._auto_1):PG X (.Name x pos) (cB i):=by
 intro z0 s σ H v u Q I r h;exact F0 (ig I hN hi hx r (λs' I'=>⟨_,H,I',h⟩) hf)
def ux:uN:=λvs σ H Q=>vs=[]/\Q σ H
def kj(t:TG)(u:uN):uN:=λvs σ H Q=>∃ v r,vs=v::r/\t v σ H fun σ' H'=>u r σ' H' Q
theorem qZ:ym X [] ux:=by
 intro z0 s σ H vs us Q I r h;obtain⟨e,h⟩:=h;subst e;cases r;exact assignInOrder_nil ⟨σ,H,I,h⟩
theorem j_{t:TG}{u:uN}(h1:PG X e t)(h2:ym X es u)
  (hs:autoParam ((assignEach (e::es) X.env).map (·.2)=assign e X.env::(assignEach es X.env).map (·.2)) aR._auto_1):ym X (e::es) (kj t u):=by
 intro z0 s σ H vs us Q I r h;obtain⟨v,vr,e1,h⟩:=h;subst e1;cases r with
 | cons r rr =>
  rw[hs];refine assignInOrder_cons (bM (h1 z0 s σ H _ _ _ I r h) λ_ s1 ⟨σ1,H1,I1,q1⟩=>?_);exact h2 z0 s1 σ1 H1 _ _ Q I1 rr q1
def vP(K:PySem.W.Frag)(n:Nat)(t:uN):TG:=λv σ H Q=>∃ a xs,v=.ref a/\dg K H a xs/\xs.length=n/\t xs σ H Q
theorem wO{t:uN}(hc:X.calm=true)(h:ym X es t)
  (hn:autoParam ((assignEach es X.env).length=n) aR._auto_1) (Af:autoParam ((assignEach es X.env).findIdx? (·.1)=none) aR._auto_1):PG X (.Tuple es k pos) (vP X.K n t):=by
 intro z0 s σ H v u Q I r hw;obtain⟨a,xs,e1,hq,hl,hw⟩:=hw;subst e1;cases r;obtain⟨z7,rv,ht,hz⟩:=I.tuple hq;refine assign_Tuple_tuple (I.ok.hd hc) ht (by simp[hn,<- hl,rv.length]) Af λh' hx=>?_;have I1:Inv X z0 σ H { s with heap:=h' }:=I.kept (t':=s.toks) λb o e=>hx b o (CC (Cq e)) e;exact h z0 _ σ H xs _ Q I1 (by simpa using rv) hw
def yc(te:TE)(g:TG):TS:=λD σ H=>te σ H λx H1=>g x σ H1 D.nx
theorem lB{pos':Pos}(hN:X.N.Nodup)(hi:X.N[i]?=some x)(hx:Loc X.env.scope x)(he:PE X e te)(hs:autoParam (swapsWith e (some (.Name x pos')) pos.line X.env=pure false) aR._auto_1)(hf:autoParam (X.fn x=true\/X.env.scope.names.lookup x=some .local) aF._auto_1) :
  PS X (.Assign [.Name x pos'] e pos) (yc te (cB i)):=by
 intro z0 s σ H D I h;refine wpAny_Assign_Name (bM (he z0 s σ H _ I h) λv s1 ⟨y,H1,I1,r1,q1⟩=>?_) hs;exact ig I1 hN hi hx r1 (λs2 I2=>⟨_,H1,I2,q1⟩) hf
structure It where
 go:Nat->Hp->Prop
 lK:Nat->Hp->V->Hp->Prop
 stop:Nat->Hp->Prop
def eJ(X:Cx)(z0:List (Addr×Obj))(H:Hp)(b:Addr):Prop :=
 H b=none/\b≠X.env.locals/\b ∉ X.fs/\(b∈X.ex\/X.s₀.heap.objs.size<=b)/\(∀ x c,X.env.cells.lookup x=some c->c≠b)/\∀ p∈X.pn++z0,p.1≠b
theorem Inv.ka(I:Inv X z0 σ H s)(hb:s.heap.objs.size<=b)(hn:H' b=none):eJ X z0 H' b:=by
 refine⟨hn,Ei (Cr I.lt hb),I.yU hb,.inr (CN I.sz hb),λx c e z=>?_,λp hp z=>?_⟩
 .obtain⟨v,q⟩:=I.cell x c e;exact absurd (Cr q.lt (by rw[z];exact hb)) (Ds _)
 .exact absurd (Cr (Cq (I.pin p hp).1) (by rw[z];exact hb)) (Ds _)
structure Turn (P:Program) (w:World) (K:PySem.W.Frag) (tg:Expr) (J:It) (fp:List Addr) (it:Addr) (tn:Nat->Heap->Prop):Prop where
 mem:it∈fp
 obj:∀ i h,tn i h->∀ b∈fp,∃ o,h.get? b=some o/\∀ v,o.data≠.cell v
 keep:∀ i h h',tn i h->(∀ b∈fp,∀ o,h.get? b=some o->h'.get? b=some o)->tn i h'
 item:∀ (X:Cx),X.prog=P->X.w=w->X.K=K->X.calm=true->∀ (i:Nat) (z0:List (Addr×Obj)) (s:Shared) (σ:St) (H:Hp) (E:Value->Shared->Prop),Inv X z0 σ H s->(∀ b∈fp,eJ X z0 H b)->tn i s.heap->J.go i H ->
  wpAny (model P w) X.A (pyNext (.ref it)) (λr s1=>∃ u,r=some u ∧
   wpAny (model P w) X.A (letOwnedTupleGo tg (.ref it) u) (λ_ s2=>∃ x H',Inv X z0 σ H' s2/\RelV x u/\J.lK i H x H'/\tn (i+1) s2.heap/\∀ b∈fp,H' b=none) E s1) E s
 done:∀ (X:Cx),X.prog=P->X.w=w->X.K=K->X.calm=true->∀ (i:Nat) (z0:List (Addr×Obj)) (s:Shared) (σ:St) (H:Hp) (E:Value->Shared->Prop),Inv X z0 σ H s->(∀ b∈fp,eJ X z0 H b)->tn i s.heap->J.stop i H ->
  wpAny (model P w) X.A (pyNext (.ref it)) (λr s1=>r=none/\Inv X z0 σ H s1) E s
 self:∀ (A:Around) (i:Nat) (s:Shared) (Q:Value->Shared->Prop) (E:Value->Shared->Prop),tn i s.heap->Q (.ref it) s->wpAny (model P w) A (pyIter (.ref it)) Q E s
abbrev TI:=St->Hp->(It->Hp->Prop)->Prop
def zj(X:Cx)(z0:List (Addr×Obj))(σ:St)(tg:Expr)(R:It->Hp->Prop)(itv:Value)(s2:Shared):Prop :=
 ∃ (it:Addr) (fp:List Addr) (tn:Nat->Heap->Prop) (J:It) (H':Hp),itv=.ref it/\Inv X z0 σ H' s2/\Turn X.prog X.w X.K tg J fp it tn/\tn 0 s2.heap/\(∀ b∈fp,eJ X z0 H' b)/\R J H'
def PI(X:Cx)(tg iter:Expr)(wi:TI):Prop :=
 ∀ (z0:List (Addr×Obj)) (s:Shared) (σ:St) (H:Hp) (R:It->Hp->Prop),Inv X z0 σ H s->wi σ H R ->
  wpAny (model X.prog X.w) X.A (eval iter X.env) (λv s1=>wpAny (model X.prog X.w) X.A (pyIter v) (zj X z0 σ tg R) X.xe s1) X.xe s
variable{tg:Expr}
theorem kc {M : Model} {n : String} {vs : Array Value} {Q : Unit -> Shared -> Prop} (ho : s.heap.get? it = some o) (hc : o.cls = .type n) (hd : o.data = .fields vs)
    (hn : ["enumerate", "zip", "dict_itemiterator", "dict_reverseitemiterator", "odict_iterator", "itertools.zip_longest", "itertools.pairwise"].contains n = false) (hQ : Q () s) : wpAny M A (letOwnedTupleGo tg (.ref it) u) Q E s := by
  unfold letOwnedTupleGo;cases tg <;> first
    | exact Cp hQ
    | (cases u <;> first
        | exact Cp hQ
        | (refine Ck (wpAny_load ho ?_)
           rw [hc, hd];show wpAny M A (if (["enumerate", "zip", "dict_itemiterator", "dict_reverseitemiterator", "odict_iterator", "itertools.zip_longest", "itertools.pairwise"].contains n && vs[0]? == some (rawInt _)) = true then _ else _) Q E s;rw [if_neg (by intro h; rw [hn, EN] at h; cases h)];exact Cp hQ))
def zi(K:PySem.W.Frag)(a:Addr):It :=
 ⟨λi H=>∃ xs x,dF K H a xs/\xs[i]?=some x,λi H x H'=>H'=H/\∀ xs,dF K H a xs->xs[i]?=some x,λi H=>∃ xs,dF K H a xs/\xs.length<=i⟩
def zm(K:PySem.W.Frag)(a:Addr):It :=
 ⟨λi H=>∃ xs x,dg K H a xs/\xs[i]?=some x,λi H x H'=>H'=H/\∀ xs,dg K H a xs->xs[i]?=some x,λi H=>∃ xs,dg K H a xs/\xs.length<=i⟩
def yn(lo:Int)(n:Nat):It:=⟨λi _=>i<n,λi H x H'=>H'=H/\x=.int (lo+i),λi _=>n<=i⟩
theorem mX{K:PySem.W.Frag}(a it:Addr):Turn P w K tg (zi K a) [it] it (λi h=>h.IsListIter it a i) where
 mem:=by simp
 obj:=λi h st b hb=>by
  have e:b=it:=by simpa using hb
  subst e;obtain⟨o,e,c,d⟩:=st;exact⟨o,e,λv z=>by rw[d] at z;cases z⟩
 keep:=λi h h' st k=>st.at λo e=>k it (by simp) o e
 item:=by
  intro X hP hw hK hc i z0 s σ H E I hf st hg;subst hP hw hK;obtain⟨xs,x,hq,hx⟩:=hg;obtain⟨z7,rv,p,hz⟩:=I.list hq;obtain⟨u,hu,ru⟩:=rv.get hx;obtain⟨f0,f1,f2,f3,f4,f5⟩:=hf it (by simp);refine wpAny_pyNext_list_item st p.isList (x:=u) (by simpa using hu) λh' A8 sb=>?_;have I1:Inv X z0 σ H { s with heap:=h' }:=I.turned (t':=s.toks) (λb o hb e=>(sb.2 b hb).trans e) f0 f1 f3 f4 f5;obtain⟨o,e,c,d⟩:=id A8;exact⟨u,rfl,kc (s:={ s with heap:=h' }) e c d (by decide) ⟨x,H,I1,ru,⟨rfl,λys hy=>by rw[I.j7 hy hq];exact hx⟩,A8,λb hb=>(hf b hb).1⟩⟩
 done:=by
  intro X hP hw hK hc i z0 s σ H E I hf st hg;subst hP hw hK;obtain⟨xs,hq,hx⟩:=hg;obtain⟨z7,rv,p,hz⟩:=I.list hq;obtain⟨f0,f1,f2,f3,f4,f5⟩:=hf it (by simp);have hl:=rv.length;exact wpAny_pyNext_list_end (I.ok.hd hc) st p.isList (by simp;lia) λh' eb=>⟨rfl,I.turned (t':=s.toks) (λb o hb e=>eb b o hb e) f0 f1 f3 f4 f5⟩
 self:=λ_ _ _ _ _ st h=>wpAny_pyIter_listiter st h
theorem lr{K:PySem.W.Frag}(a it:Addr):Turn P w K tg (zm K a) [it] it (λi h=>h.IsTupleIter it a i) where
 mem:=by simp
 obj:=λi h st b hb=>by
  have e:b=it:=by simpa using hb
  subst e;obtain⟨o,e,c,d⟩:=st;exact⟨o,e,λv z=>by rw[d] at z;cases z⟩
 keep:=λi h h' st k=>st.at λo e=>k it (by simp) o e
 item:=by
  intro X hP hw hK hc i z0 s σ H E I hf st hg;subst hP hw hK;obtain⟨xs,x,hq,hx⟩:=hg;obtain⟨z7,rv,p,hz⟩:=I.tuple hq;obtain⟨u,hu,ru⟩:=rv.get hx;obtain⟨f0,f1,f2,f3,f4,f5⟩:=hf it (by simp);refine wpAny_pyNext_tuple_item st (show s.heap.IsTuple a z7.toArray from p) (x:=u) (by simpa using hu) λh' A8 sb=>?_;have I1:Inv X z0 σ H { s with heap:=h' }:=I.turned (t':=s.toks) (λb o hb e=>(sb.2 b hb).trans e) f0 f1 f3 f4 f5;obtain⟨o,e,c,d⟩:=id A8;exact⟨u,rfl,kc (s:={ s with heap:=h' }) e c d (by decide) ⟨x,H,I1,ru,⟨rfl,λys hy=>by rw[I.jc hy hq];exact hx⟩,A8,λb hb=>(hf b hb).1⟩⟩
 done:=by
  intro X hP hw hK hc i z0 s σ H E I hf st hg;subst hP hw hK;obtain⟨xs,hq,hx⟩:=hg;obtain⟨z7,rv,p,hz⟩:=I.tuple hq;obtain⟨f0,f1,f2,f3,f4,f5⟩:=hf it (by simp);have hl:=rv.length;exact wpAny_pyNext_tuple_end (I.ok.hd hc) st (show s.heap.IsTuple a z7.toArray from p) (by simp;lia) λh' eb=>⟨rfl,I.turned (t':=s.toks) (λb o hb e=>eb b o hb e) f0 f1 f3 f4 f5⟩
 self:=λ_ _ _ _ _ st h=>wpAny_pyIter_tupleiter st h
theorem lj{K:PySem.W.Frag}(it:Addr)(lo:Int)(n:Nat):Turn P w K tg (yn lo n) [it] it (λi h=>IsRangeIter h it (lo+(i:Nat)*1) ((n:Int)-(i:Nat)) 1) where
 mem:=by simp
 obj:=λi h st b hb=>by
  have e:b=it:=by simpa using hb
  subst e;exact⟨_,st,λv z=>by
   have z':Data.fields _=Data.cell v:=z;cases z'⟩
 keep:=λi h h' st k=>k it (by simp) _ st
 item:=by
  intro X hP hw hK hc i z0 s σ H E I hf st hg;subst hP hw hK;obtain⟨f0,f1,f2,f3,f4,f5⟩:=hf it (by simp);have W:=Walks.range (prog:=X.prog) (w:=X.w) (I.ok.hd hc) it lo 1 n;refine W.item i s _ _ hg st λv h' tk hv A8 kk=>?_;obtain⟨t,rfl⟩:=hv;have I1:Inv X z0 σ H { s with heap:=h',toks:=tk }:=I.turned (λb o hb e=>kk b o (by simpa using hb) e) f0 f1 f3 f4 f5;refine⟨_,rfl,kc (s:={ s with heap:=h',toks:=tk }) (n := "range_iterator") A8 rfl rfl (by decide) ⟨.int (lo+i),H,I1,⟨t,?_⟩,⟨rfl,rfl⟩,A8,λb hb=>(hf b hb).1⟩⟩;rw[Int.mul_one]
 done:=by
  intro X hP hw hK hc i z0 s σ H E I hf st hg;subst hP hw hK;obtain⟨f0,f1,f2,f3,f4,f5⟩:=hf it (by simp);exact wpAny_pyNext_range_end (I.ok.hd hc) st (by have:n<=i:=hg;lia) λh' eb=>⟨rfl,I.turned (t':=s.toks) (λb o hb e=>eb b o hb e) f0 f1 f3 f4 f5⟩
 self:=λ_ _ _ _ _ st h=>wpAny_pyIter_rangeiter st h
variable{fp:List Addr}
variable{body:List Stmt}
theorem oI{R:It->Hp->Prop}{lo hi:Int}{t u v:Tok}{tk:Nat}(I:Inv X z0 σ H s)(h1:-(2^62)<=lo)(h2:lo<2^62)(h3:-(2^62)<=hi)(h4:hi<2^62)
  (q:R (yn lo (hi-lo).toNat) H):wpAny (model X.prog X.w) X.A (pyIter (.ref s.heap.objs.size)) (zj X z0 σ tg R) E { s with heap:=s.heap.push { cls:=.type "range", data:=.fields #[.int lo t,.int hi u,.int 1 v] },toks:=tk }:=by
 refine wpAny_pyIter_range (IsRange.new ..) (small_one h1 h2 h3 h4) ?_;have I1:Inv X z0 σ H { s with heap:=s.heap.push { cls:=.type "range", data:=.fields #[.int lo t,.int hi u,.int 1 v] },toks:=tk }:=I.kept λb o e=>Cm _ e;refine⟨(s.heap.push { cls:=.type "range", data:=.fields #[.int lo t,.int hi u,.int 1 v] }).objs.size,[(s.heap.push { cls:=.type "range", data:=.fields #[.int lo t,.int hi u,.int 1 v] }).objs.size],_,_,H,rfl,
  I1.kept (t':=tk) λb o e=>Cm _ e,lj _ lo (hi-lo).toNat,?_,λb hb=>?_,q⟩
 .have e1:lo+((0:Nat):Int)*1=lo:=by simp
  have e2:(((hi-lo).toNat:Nat):Int)-((0:Nat):Int)=Builtin.Range.rangeSize lo hi 1:=by rw[rangeSize_one];split <;> lia
  show IsRangeIter _ _ (lo+((0:Nat):Int)*1) ((((hi-lo).toNat:Nat):Int)-((0:Nat):Int)) 1;rw[e1,e2];exact Cy _ rfl
 .have e:b=(s.heap.push { cls:=.type "range", data:=.fields #[.int lo t,.int hi u,.int 1 v] }).objs.size:=by simpa using hb
  subst e;exact I1.ka (Cs _) (I1.aJ.fresh (Cs _))
def ud(ta:TA):TI:=fun σ H R=>ta σ H λvs H1=>∃ j:Int,vs=[.int j]/\-(2^62)<=j/\j<2^62/\R (yn 0 j.toNat) H1
theorem mR{a:Expr}{ta:TA}{p:Pos}(hg:Gl X "range")(hm:X.mg "range" = none)(ha:PA X [a] ta)(hs:autoParam (starEach [a] X.env=[(false,eval a X.env)]) aR._auto_1):PI X tg (.Call (.Name "range" p) [a] [] pos) (ud ta):=by
 intro z0 s σ H R I h;refine Call_ (ip I hg hm boot_range (DW (bM (ha pos z0 s σ H _ I h) λus s1 ⟨vs,H1,I1,r1,q1⟩=>?_) hs rfl));obtain⟨j,e,q1,q2,q⟩:=q1;subst e;cases r1 with
 | cons r rr =>
  cases rr;obtain⟨t,rfl⟩:=r;exact call_range_1 (oI I1 (by lia) (by lia) q1 q2 (by simpa using q))
def yJ(wi:TI)(g:TG)(tb:TS):TS:=λD σ H=>wi σ H λJ H1=>∃ W:Nat->Nat->St->Hp->Prop,(∃ m,W 0 m σ H1)/\∀ i m σ H,W i m σ H ->
 (J.stop i H/\D.nx σ H)\/(J.go i H/\∃ N:St->Hp->Prop,(∀ σ' H',N σ' H'->∃ m',m'<m/\W (i+1) m' σ' H')/\∀ x H',J.lK i H x H'->g x σ H' fun σ2 H2=>tb { D with nx:=N,ct:=N,bk:=D.nx } σ2 H2)
def dQ(fp:List Addr)(h:Heap):List (Addr×Obj):=fp.filterMap λb=>(h.get? b).map λo=>(b,o)
theorem cp(hb:b∈fp)(e:h.get? b=some o):(b,o)∈dQ fp h:=EO.mpr ⟨b,hb,by rw[e];rfl⟩
theorem nE{p:Addr×Obj}(hp:p∈dQ fp h):p.1∈fp/\h.get? p.1=some p.2:=by
 obtain⟨b,hb,e⟩:=EO.mp hp;cases q:h.get? b with
 | none=>rw[q] at e;cases e
 | some o =>
  rw[q] at e;have e':(b,o)=p:=CG e;subst e';exact⟨hb,q⟩
theorem Inv.pinned(I:Inv X z0 σ H s)(hf:∀ b∈fp,eJ X z0 H b)(ho:∀ b∈fp,∃ o,s.heap.get? b=some o/\∀ v,o.data≠.cell v):Inv X (z0++dQ fp s.heap) σ H s :=
 I.lW λp hp=>(ED.mp hp).elim (λz=>I.pin p (CH _ z)) λz=>by
  obtain⟨hb,e⟩:=nE z;obtain⟨f0,f1,f2,_⟩:=hf p.1 hb;obtain⟨o,e',d⟩:=ho p.1 hb;rw[e] at e';cases e';exact⟨e,f0,f1,f2,d⟩
theorem Inv.dW{pl:List (Addr×Obj)}(I:Inv X (z0++pl) σ H s):Inv X z0 σ H s:=I.lW λp hp=>I.pin p (CH _ (DE _ hp))
theorem vW{iter:Expr}{wi:TI}{g:TG}{tb:TS}(hp:PassesOwn (model X.prog X.w) X.A X.env X.xe)(hc:X.calm=true)(hi:PI X tg iter wi)(hg:PG X tg g)(hb:gk X body tb)
  (hs:autoParam (∀ x,foldedSetIterable iter X.env x=pure x) aI._auto_1):PS X (.For tg iter body [] pos) (yJ wi g tb):=by
 intro z0 s σ H D I h;refine wpAny_For (bM (hi z0 s σ H _ I h) λv s1 h1=>bM h1 λitv s2 h2=>?_) hs;obtain⟨it,fp,tn,J,H2,e,I2,T,Br,f2,W,⟨m0,w0⟩,turn⟩:=h2;subst e;have AF:∀ {H':Hp},(∀ b∈fp,H' b=none)->∀ b∈fp,eJ X z0 H' b:=λhn b hb=>⟨hn b hb,(f2 b hb).2⟩
 refine codeAny_forLoop_any (λn s'=>∃ i σ' H',Inv X z0 σ' H' s'/\tn i s'.heap/\(∀ b∈fp,H' b=none)/\W i n σ' H') ?_ m0 ⟨0,σ,H2,I2,Br,λb hb=>(f2 b hb).1,w0⟩;rintro n s3 ⟨i,σ3,H3,I3,st3,fr3,w3⟩;rcases turn i n σ3 H3 w3 with ⟨stop,qn⟩ | ⟨go,N,hN,step⟩
 .refine Eb hp (bM (T.done X rfl rfl rfl hc i z0 s3 σ3 H3 X.xe I3 (AF fr3) st3 stop) λr s4 ⟨hr,I4⟩=>?_);subst hr;exact Fl ⟨σ3,H3,I4,qn⟩
 .refine Eb hp (bM (T.item X rfl rfl rfl hc i z0 s3 σ3 H3 X.xe I3 (AF fr3) st3 go) λr s4 ⟨u,hr,h4⟩=>?_);subst hr;refine Eb hp (bM h4 λ_ s5 ⟨x,H5,I5,r5,y5,st5,fr5⟩=>?_);have BR:=I5.pinned (AF fr5) (T.obj _ _ st5);refine Eb hp (bM (hg _ s5 σ3 H5 x u _ BR r5 (step x H5 y5)) λ_ s6 ⟨σ6,H6,I6,q6⟩=>?_);refine Eb hp (bM (hb _ s6 σ6 H6 _ I6 q6) λf s7 q7=>?_);have again:∀ {σ7:St} {H7:Hp},Inv X (z0++dQ fp s5.heap) σ7 H7 s7->N σ7 H7->∃ m,m<n/\∃ i σ' H',Inv X z0 σ' H' s7/\tn i s7.heap/\(∀ b∈fp,H' b=none)/\W i m σ' H':=λ{σ7 H7} I7 n7=>by
   obtain⟨m',hm,w7⟩:=hN σ7 H7 n7;refine⟨m',hm,i+1,σ7,H7,I7.dW,T.keep _ _ _ st5 λb hb o e=>(I7.pin (b,o) (CH _ (CH _ (cp hb e)))).1,λb hb=>?_,w7⟩;obtain⟨o,e,d⟩:=T.obj _ _ st5 b hb;exact(I7.pin (b,o) (CH _ (CH _ (cp hb e)))).2.1
  cases f with
  | next=>obtain⟨σ7,H7,I7,n7⟩:=q7;exact again I7 n7
  | cont=>obtain⟨σ7,H7,I7,n7⟩:=q7;exact again I7 n7
  | brk=>obtain⟨σ7,H7,I7,q7⟩:=q7;exact⟨σ7,H7,I7.dW,q7⟩
  | ret v=>obtain⟨x7,σ7,H7,I7,r7,q7⟩:=q7;exact⟨x7,σ7,H7,I7.dW,r7,q7⟩
abbrev R2:=V->V->Hp->VK->Prop
def cR(X:Cx)(f:Value->Value->Sem Value)(r:R2):Prop :=
 ∀ (z0:List (Addr×Obj)) (s:Shared) (σ:St) (H:Hp) (x y:V) (v u:Value) (Q:VK),Inv X z0 σ H s->RelV x v->RelV y u->r x y H Q ->
  wpAny (model X.prog X.w) X.A (f v u) (EP X z0 σ Q) X.xe s
def bj(X:Cx)(f:Value)(r:List V->Hp->VK->Prop):Prop :=
 ∀ (z0:List (Addr×Obj)) (s:Shared) (σ:St) (H:Hp) (xs:List V) (us:List Value) (Q:VK),Inv X z0 σ H s->Vals xs us->r xs H Q ->
  wpAny (model X.prog X.w) X.A (call f us) (EP X z0 σ Q) X.xe s
def xb(r:R2)(ta tb:TE):TE:=fun σ H Q=>ta σ H λx H1=>tb σ H1 λy H2=>r x y H2 Q
def rI(C:Int->Int->Prop)(g:Int->Int->V):R2:=λx y H Q=>∃ i j,x=.int i/\y=.int j/\C i j/\Q (g i j) H
def nQ(g:Int->Int->V):R2:=λx y H Q=>∃ i j,x=.int i/\y=.int j/\Q (g i j) H
variable{f:Value->Value->Sem Value}
variable{r:R2}
section
variable{a b:Expr}{tb tc:TE}
theorem vn(ha:PE X a ta)(hb:PE X b tb){R:V->V->Hp->Prop}(I:Inv X z0 σ H s)
  (h:ta σ H λx H1=>tb σ H1 λy H2=>R x y H2)
  (hf:∀ v u s2 x y H2,Inv X z0 σ H2 s2->RelV x v->RelV y u->R x y H2->wpAny (model X.prog X.w) X.A (f v u) Q X.xe s2) :
  wpAny (model X.prog X.w) X.A (eval a X.env) (λv s₁=>wpAny (model X.prog X.w) X.A (eval b X.env) (λu s₂=>wpAny (model X.prog X.w) X.A (f v u) Q X.xe s₂) X.xe s₁) X.xe s:=by
 refine bM (ha z0 s σ H _ I h) λv s1 ⟨x,H1,I1,r1,q1⟩=>?_;refine bM (hb z0 s1 σ H1 _ I1 q1) λu s2 ⟨y,H2,I2,r2,q2⟩=>?_;exact hf v u s2 x y H2 I2 r1 r2 q2
theorem xI{op:Operator}(ho:cR X (binaryOp op) r)(ha:PE X a ta)(hb:PE X b tb):PE X (.BinOp a op b pos) (xb r ta tb):=by
 intro z0 s σ H Q I h;exact wpAny_BinOp (vn ha hb I h λv u s2 x y H2 I2 rx ry q=>ho z0 s2 σ H2 x y v u Q I2 rx ry q)
theorem yr{C:Int->Int->Prop}{g:Int->Int->Int}
  (rule:∀ (i j:Int) (t u:Tok) (s:Shared) (Q:Value->Shared->Prop) (E:Value->Shared->Prop),C i j->Q (.int (g i j) s.toks) { s with toks:=s.toks+1 }->wpAny (model X.prog X.w) X.A (f (.int i t) (.int j u)) Q E s) :
  cR X f (rI C λi j=>.int (g i j)):=by
 intro z0 s σ H x y v u Q I rx ry h;obtain⟨i,j,rfl,rfl,hc,q⟩:=h;obtain⟨t,rfl⟩:=rx;obtain⟨t',rfl⟩:=ry;exact rule i j t t' s _ _ hc ⟨.int (g i j),H,I.tok _,⟨_,rfl⟩,q⟩
theorem x8{g:Int->Int->Int}
  (rule:∀ (i j:Int) (t u:Tok) (s:Shared) (Q:Value->Shared->Prop) (E:Value->Shared->Prop),Q (.int (g i j) s.toks) { s with toks:=s.toks+1 }->wpAny (model X.prog X.w) X.A (f (.int i t) (.int j u)) Q E s) :
  cR X f (nQ λi j=>.int (g i j)):=by
 intro z0 s σ H x y v u Q I rx ry h;obtain⟨i,j,rfl,rfl,q⟩:=h;obtain⟨t,rfl⟩:=rx;obtain⟨t',rfl⟩:=ry;exact rule i j t t' s _ _ ⟨.int (g i j),H,I.tok _,⟨_,rfl⟩,q⟩
theorem uQ{g:Int->Int->Bool}
  (rule:∀ (i j:Int) (t u:Tok) (s:Shared) (Q:Value->Shared->Prop) (E:Value->Shared->Prop),Q (.bool (g i j)) s->wpAny (model X.prog X.w) X.A (f (.int i t) (.int j u)) Q E s) :
  cR X f (nQ λi j=>.bl (g i j)):=by
 intro z0 s σ H x y v u Q I rx ry h;obtain⟨i,j,rfl,rfl,q⟩:=h;obtain⟨t,rfl⟩:=rx;obtain⟨t',rfl⟩:=ry;exact rule i j t t' s _ _ ⟨.bl (g i j),H,I,rfl,q⟩
def uF(i j:Int):Prop:=0<=j/\j<=1000000/\i.natAbs<2^64
theorem wd:cR X (binaryOp .Add) (nQ λi j=>.int (i+j)):=x8 λ_ _ _ _ _ _ _ q=>add_int q
theorem u4:cR X (binaryOp .Sub) (nQ λi j=>.int (i-j)):=x8 λ_ _ _ _ _ _ _ q=>sub_int q
theorem r_:cR X (binaryOp .Mod) (rI (λ_ j=>j≠0) λi j=>.int (i.fmod j)):=yr λ_ _ _ _ _ _ _ hc q=>mod_int' hc q
theorem wc:cR X (binaryOp .Pow) (rI uF λi j=>.int (i^j.toNat)):=yr λ_ _ _ _ _ _ _ hc q=>pow_int_small hc.1 hc.2.1 hc.2.2 q
end
variable{op:CmpOp}
variable{us:List Value}
section
variable{a b:Expr}{tb tc:TE}
theorem jz{Q:VK}{k k':Bool}(I:Inv X z0 σ H s)(q:Q (.bl k) H)(e:k=k'):EP X z0 σ Q (.bool k') s:=by
 subst e;exact⟨.bl k,H,I,rfl,q⟩
theorem uo:cR X (compareOp .Lt) (nQ λi j=>.bl (decide (i<j))):=uQ λ_ _ _ _ _ _ _ q=>lt_int q
theorem mw:cR X (compareOp .LtE) (nQ λi j=>.bl (decide (i<=j))):=uQ λ_ _ _ _ _ _ _ q=>le_int q
theorem tV:cR X (compareOp .Gt) (nQ λi j=>.bl (decide (j<i))):=uQ λ_ _ _ _ _ _ _ q=>gt_int q
theorem ni:cR X (compareOp .In) (λx y H Q=>∃ i j,x=.str i/\y=.str j/\Q (.bl (!(CT j i 0 j.length 1).isEmpty)) H):=by
 intro z0 s σ H x y v u Q I rx ry h;obtain⟨i,j,rfl,rfl,q⟩:=h;obtain⟨t,rfl⟩:=rx;obtain⟨t',rfl⟩:=ry;exact in_str (jz I q rfl)
theorem p3:cR X (compareOp .Is) (λx y H Q=>y=.bL/\Q (.bl (decide (x=.bL))) H):=by
 intro z0 s σ H x y v u Q I rx ry h;obtain⟨rfl,q⟩:=h;cases ry;refine is_none_gen (jz I q ?_);cases x <;> first
  | (cases rx;rfl)
  | (obtain⟨t,rfl⟩:=rx;rfl)
theorem cR.or{r':R2}(h:cR X f r)(h':cR X f r'):cR X f (λx y H Q=>r x y H Q\/r' x y H Q):=by
 intro z0 s σ H x y v u Q I rx ry q;rcases q with q | q
 .exact h z0 s σ H x y v u Q I rx ry q
 .exact h' z0 s σ H x y v u Q I rx ry q
theorem cG(b:Expr)(h:autoParam (op≠.In) aD._auto_1)(h2:autoParam (op≠.NotIn) aD._auto_1):behindInMarks op b=false:=by
 have e1:(op==CmpOp.In)=false:=by cases op <;> first | rfl | exact absurd rfl h
 have e2:(op==CmpOp.NotIn)=false:=by cases op <;> first | rfl | exact absurd rfl h2
 cases b <;> simp[behindInMarks,e1,e2]
theorem sJ(ho:cR X (compareOp op) r)(ha:PE X a ta)(hb:PE X b tb)(hm:behindInMarks op b=false):PE X (.Compare a [op] [b] pos) (xb r ta tb):=by
 intro z0 s σ H Q I h;exact wpAny_Compare1 (vn ha hb I h λv u s2 x y H2 I2 rx ry q=>ho z0 s2 σ H2 x y v u Q I2 rx ry q) hm
def tY(t:TE):TT:=fun σ H Q=>t σ H λx H'=>∃ k,x=.bl k/\Q k H'
theorem qJ(ho:cR X (compareOp op) r)(ha:PE X a ta)(hb:PE X b tb)(hm:behindInMarks op b=false):PT X (.Compare a [op] [b] pos) (tY (xb r ta tb)):=by
 intro z0 s σ H Q I h;refine wpAny_isTrue_Compare1 (bM (ha z0 s σ H _ I h) λv s1 ⟨x,H1,I1,r1,q1⟩=>bM (hb z0 s1 σ H1 _ I1 q1) λu s2 ⟨y,H2,I2,r2,q2⟩ =>
  bM (ho z0 s2 σ H2 x y v u _ I2 r1 r2 q2) λc s3 ⟨z,H3,I3,r3,k,e,q3⟩=>?_) hm
 subst e;cases r3;exact Dh ⟨H3,I3,q3⟩
def p8(r r':R2)(ta tb tc:TE):TE:=fun σ H Q=>ta σ H λx H1=>tb σ H1 λy H2=>r x y H2 λz H3=>∃ k,z=.bl k ∧
 (if k=true then tc σ H3 λw' H4=>r' y w' H4 Q else Q (.bl false) H3)
theorem oS{BI:CmpOp}{r':R2}(ho:cR X (compareOp op) r)(Bk:cR X (compareOp BI) r')(ha:PE X a ta)(hb:PE X b tb)(hc:PE X c tc)
  (hm:autoParam (lastMarks [op,BI] [b,c]=false) aU._auto_1):PT X (.Compare a [op,BI] [b,c] pos) (tY (p8 r r' ta tb tc)):=by
 intro z0 s σ H Q I h;refine isTrue_chain (bM (ha z0 s σ H _ I h) λv s1 ⟨x,H1,I1,r1,q1⟩=>test_link (bM (hb z0 s1 σ H1 _ I1 q1) λu s2 ⟨y,H2,I2,r2,q2⟩ =>
  bM (ho z0 s2 σ H2 x y v u _ I2 r1 r2 q2) λd s3 ⟨z,H3,I3,r3,k,e,q3⟩=>?_)) hm
 subst e;cases r3;refine Dh ?_;cases k with
 | false =>
  obtain⟨k',e',q'⟩:=q3;cases e';exact ite_ff ⟨H3,I3,q'⟩
 | true =>
  refine ite_tt (test_last (bM (hc z0 s3 σ H3 _ I3 q3) λw' s4 ⟨z',H4,I4,r4,q4⟩=>bM (Bk z0 s4 σ H4 y z' u w' _ I4 r2 r4 q4) λd' s5 ⟨z2,H5,I5,r5,k2,e2,q5⟩=>?_));subst e2;cases r5;exact Dh ⟨H5,I5,q5⟩
theorem gP:(sizeLine:Nat)<2^63:=by rw[sizeLine_eq];decide
theorem la:cR X (binaryOp .Add) (λx y H Q=>∃ i j,x=.str i/\y=.str j/\i.length+j.length<=sizeLine/\Q (.str (i++j)) H):=by
 intro z0 s σ H x y v u Q I rx ry h;obtain⟨i,j,rfl,rfl,hz,q⟩:=h;obtain⟨t,rfl⟩:=rx;obtain⟨t',rfl⟩:=ry;exact add_str (λt' tk=>⟨.str (i++j),H,I.tok _,⟨_,rfl⟩,q⟩) hz
theorem vals1{x:V}(r:Vals [x] us):∃ u,us=[u]/\RelV x u:=by
 cases r with
 | cons r1 r2=>cases r2;exact⟨_,rfl,r1⟩
theorem fy:bj X (.type "str") (λxs H Q=>∃ i,xs=[.int i]/\i.natAbs.log2<1920/\Q (.str (toString i)) H):=by
 intro z0 s σ H xs us Q I r h;obtain⟨i,rfl,hz,q⟩:=h;obtain⟨u,rfl,t,rfl⟩:=vals1 r;exact PySem.P.str_of_int hz ⟨.str _,H,I.tok _,⟨_,rfl⟩,q⟩
end
structure uZ (h:Heap) (x dx C:Addr) (mA:Str->Option Value):Prop where
 obj:h.get? x=some (PySem.W.instObj C dx)
 ns:h.Ns1 dx mA
 ne:dx≠x
variable{mA:Str->Option Value}{dx:Addr}
theorem f_(n:h.Ns1 dx mA):∃ od,h.get? dx=some od/\∀ name,PySem.W.lookIn name od=some (mA name):=by
 obtain⟨o,es,ep,ho,hd,hk,_,hm⟩:=n;refine⟨o,ho,λname=>?_⟩;have e:=hm name;unfold nsFind findBy at e;rw[<- Array.find?_toList] at e;unfold PySem.W.lookIn;rw[hd];dsimp only
 split
 .rename_i y q;rw[q] at e;exact congrArg some e
 .rename_i q;rw[q] at e;have a:es.toList.any (·.refKey)=false:=by
   rw[List.any_eq_false];intro y hy;obtain⟨z,t,hkey⟩:=hk y (Array.mem_toList_iff.mp hy);simp[DictEntry.refKey,hkey]
  have a':¬ es.toList.any (·.refKey)=true:=by rw[a];exact C4
  rw[if_neg a'];exact congrArg some e
variable{C:Addr}
theorem uZ.look{x:Addr}(I:uZ h x dx C mA):∃ od,PySem.W.InstAt h x (PySem.W.instObj C dx) C (some od)/\∀ name,PySem.W.lookIn name od=some (mA name) :=
 let ⟨od,ho,hl⟩:=f_ I.ns
 ⟨od,⟨I.obj,rfl,rfl,ho⟩,hl⟩
section
variable{prog:Program}{K:PySem.W.Frag}{x f:Addr}{name:Str}{v:Value}
end
section
variable{fs fs':List (Str×V)}
theorem mF(aJ:fJ P w H h)(e:H a=some (.ins C dx fs)):∃ mA,uZ h a dx C mA/\(∀ f,o9 (fs.lookup f) (mA f))/\PySem.Within mA (fs.map (·.1))/\fs.length<=1000/\H dx=some (.own a):=by
 obtain⟨d,z,ne,ob,mA,n,r,q⟩:=(show aP P w H h a (.ins C dx fs) from aJ a _ e)
 exact⟨mA,⟨ob,n,ne⟩,r,q,z,d⟩
end
structure yu (K:PySem.W.Frag) (C:Addr):Prop where
 pg:PySem.W.plainGet K C Str.empty=true
 hd:PySem.W.hasDictIn K C=true
 po:PySem.W.plainOver K C=true
 sa:PySem.W.findIn K (.ref C) "__setattr__" = some (some (.builtin "object.__setattr__"))
theorem yu.get{K:PySem.W.Frag}(c:yu K C)(f:Str):PySem.W.plainGet K C f=true:=c.pg
section
variable{fs:List (Str×V)}{f:Str}
end
section
variable{o value:Expr}{f:Str}{pos' tpos:Pos}{tv:TE}
end
section
variable{c:Value}{b:Bool}
inductive dE (K:PySem.W.Frag) (H:Hp):V->Value->Prop where
 | bL:dE K H .bL (.type "NoneType")
 | bl (x:Bool):dE K H (.bl x) (.type "bool")
 | int (i:Int):dE K H (.int i) (.type "int")
 | str (x:Str):dE K H (.str x) (.type "str")
 | uK (x:UInt64):dE K H (.uK x) (.type "float")
 | lst {a:Addr} {xs:List V} (e:H a=some (.lst xs)):dE K H (.ref a) (.type "list")
 | iK {a:Addr} {o:Obj} {xs:List V} (e:H a=some (.iK o (.lst xs))):dE K H (.ref a) (.type "list")
 | tup {a:Addr} {xs:List V} (e:H a=some (.tup xs)):dE K H (.ref a) (.type "tuple")
 | dK {a:Addr} {Ar:List (Key×V)} (e:H a=some (.dK Ar)):dE K H (.ref a) (.type "dict")
 | dT {a:Addr} {Ar:List (List Key×V)} (e:H a=some (.dT Ar)):dE K H (.ref a) (.type "dict")
 | ins {a C dx:Addr} {fs:List (Str×V)} (e:H a=some (.ins C dx fs)) (cl:yu K C) (ha:PySem.W.findIn K (.ref C) "__class__" = some (some (.builtin "object.__class__")))
   (hn:PySem.W.specialIn K (.builtin "object.__class__") "__get__" = some (some (.builtin "getset_descriptor.__get__"))) (wX:PySem.W.takesIn K (.builtin "object.__class__")=some true)
   (hm:PySem.W.mroIn K C (.type "object")=some true):dE K H (.ref a) (.ref C)
theorem iU{x:V}{t:Value}(I:Inv X z0 σ H s)(rx:RelV x u)(ty:dE X.K H x t)(e:PySem.W.kitOne X.K t c=some b)(h:∀ tk,Q (.bool b) { s with toks:=tk }) :
  wpAny (model X.prog X.w) A (call (.builtin "isinstance") [u,c]) Q E s:=by
 cases ty with
 | bL=>cases (show u=CV from rx);exact PySem.W.kia_one PySem.W.kitx_none I.gx DO e (λz=>nomatch z) h
 | bl y=>cases (show u=DH y from rx);exact PySem.W.kia_one PySem.W.kitx_bool I.gx DO e (λz=>nomatch z) h
 | int i=>obtain⟨t,q⟩:=(show ∃ t,u=FE i t from rx);cases q;exact PySem.W.kia_one PySem.W.kitx_int I.gx DO e (λz=>nomatch z) h
 | str y=>obtain⟨t,q⟩:=(show ∃ t,u=FG y t from rx);cases q;exact PySem.W.kia_one PySem.W.kitx_str I.gx DO e (λz=>nomatch z) h
 | uK y=>obtain⟨t,q⟩:=(show ∃ t,u=Gb y t from rx);cases q;exact PySem.W.kia_one PySem.W.kitx_float I.gx DO e (λz=>nomatch z) h
 | @lst a xs ea =>
  cases (show u=CA a from rx);obtain⟨_,_,n,_,h1⟩:=(show aP X.prog X.w H s.heap a (.lst xs) from I.aJ a _ ea)
  exact PySem.W.kia_one PySem.W.kitx_list I.gx ⟨_,h1,rfl⟩ e (λz=>nomatch z) h
 | @iK a ob xs ea =>
  cases (show u=CA a from rx);obtain⟨_,_,_,n,_,h1⟩:=(show aP X.prog X.w H s.heap a (.iK ob (.lst xs)) from I.aJ a _ ea)
  exact PySem.W.kia_one PySem.W.kitx_list I.gx ⟨_,h1,rfl⟩ e (λz=>nomatch z) h
 | @tup a xs ea =>
  cases (show u=CA a from rx);obtain⟨_,_,_,p⟩:=(show aP X.prog X.w H s.heap a (.tup xs) from I.aJ a _ ea)
  obtain⟨o,h1,h2,_⟩:=p;exact PySem.W.kia_one PySem.W.kitx_tuple I.gx ⟨o,h1,h2⟩ e (λz=>nomatch z) h
 | @dK a Ar ea =>
  cases (show u=CA a from rx);obtain⟨_,_,vs,_,p⟩:=(show aP X.prog X.w H s.heap a (.dK Ar) from I.aJ a _ ea)
  obtain⟨o,es,ep,h1,h2,_⟩:=p;exact PySem.W.kia_one PySem.W.kitx_dict I.gx ⟨o,h1,h2.1⟩ e (λz=>nomatch z) h
 | @dT a Ar ea =>
  cases (show u=CA a from rx);obtain⟨_,_,xs,_,o,es,ep,h1,h2,_⟩:=(show aP X.prog X.w H s.heap a (.dT Ar) from I.aJ a _ ea)
  exact PySem.W.kia_one PySem.W.kitx_dict I.gx ⟨o,h1,h2.1⟩ e (λz=>nomatch z) h
 | @ins a C dx fs ea cl ha hn wX hm =>
  cases (show u=CA a from rx);obtain⟨mA,O,_⟩:=mF I.aJ ea;obtain⟨od,J,_⟩:=O.look;exact PySem.W.kia_one (PySem.W.kitx_own (cl.get _) cl.hd ha hn wX hm) I.gx J e (λz=>nomatch z) h
end
structure bW (k:Nat) (A:Around):Prop where
 hd:A.handled=none
 dp:A.depth+3*k+5<recursionLimit
 un:A.units+16*k+200<cLine
theorem bW.mono{j:Nat}(r:bW k A)(h:j<=k):bW j A:=⟨r.hd,by have:=r.dp;lia,by have:=r.un;lia⟩
theorem bW.deeper{k:Nat}{A:Around}(r:bW (k+1) A)(env:Env):bW k (A.deeper env) :=
 ⟨r.hd,by have:=r.dp;show A.depth+1+3*k+5<_;lia,by have:=r.un;show A.units+3+16*k+200<_;lia⟩
theorem bW.depth{k:Nat}{A:Around}(r:bW k A):A.depth<recursionLimit:=by have:=r.dp;lia
theorem bW.units{k:Nat}{A:Around}(r:bW k A):A.units+64<cLine:=by have:=r.un;lia
def yB:TA:=λ_ H Q=>Q [] H
def w_(ta:TE)(tr:TA):TA:=fun σ H Q=>ta σ H λx H1=>tr σ H1 λxs H2=>Q (x::xs) H2
variable{t:TA}
theorem c8:PA X [] yB:=λ_ _ _ _ H Q I h=>Calls.spliced_nil ⟨[],H,I,.nil,h⟩
theorem aX(ha:PE X e te)(hr:PA X es t)(hs:autoParam (starEach (e::es) X.env=(false,eval e X.env)::starEach es X.env) aR._auto_1):PA X (e::es) (w_ te t):=by
 intro pos z0 s σ H Q I h;rw[hs];show wpAny _ _ (spliced ((false,eval e X.env)::backTo pos (starEach es X.env))) _ _ s;refine Calls.spliced_cons (bM (ha z0 s σ H _ I h) λu s1 ⟨x,H1,I1,r1,q1⟩=>?_);exact bM (hr pos z0 s1 σ H1 _ I1 q1) λus s2 ⟨xs,H2,I2,r2,q2⟩=>⟨x::xs,H2,I2,.cons r1 r2,q2⟩
def yY(t:TA):TE:=fun σ H Q=>t σ H λxs H1=>xs.length<=sizeLine/\∀ p,H1 p=none->Q (.ref p) (upd H1 p (.tup xs))
def zc(t:TA):TE:=fun σ H Q=>t σ H λxs H1=>xs.length<=sizeLine/\∀ p,H1 p=none->Q (.ref p) (upd H1 p (.lst xs))
theorem jm{x1}(h:PA X es t):PE X (.Tuple es x1 pos) (yY t):=by
 intro z0 s σ H Q I hq;refine wpAny_Tuple_spliced (bM (h pos z0 s σ H _ I hq) λus s1 ⟨xs,H1,I1,r,z,q⟩=>⟨by rw[<- r.length];exact z,?_⟩);have hf:H1 s1.heap.objs.size=none:=I1.aJ.fresh (Cs _);refine⟨.ref s1.heap.objs.size,upd H1 s1.heap.objs.size (.tup xs),I1.laid (t':=s1.toks) (λb u e=>Cm _ e) (Cs _) ?_,rfl,q _ hf⟩;exact⟨z,us,r,⟨_,Cy _ rfl,rfl,_,rfl⟩⟩
theorem oO(h:PA X es t):PE X (.List es pos) (zc t):=by
 intro z0 s σ H Q I hq;refine wpAny_List_spliced (bM (h pos z0 s σ H _ I hq) λus s1 ⟨xs,H1,I1,r,z,q⟩=>⟨by rw[<- r.length];exact z,?_⟩);have hf:H1 s1.heap.objs.size=none:=I1.aJ.fresh (Cs _);refine⟨.ref s1.heap.objs.size,upd H1 s1.heap.objs.size (.lst xs),I1.laid (t':=s1.toks) (λb u e=>Cm _ e) (Cs _) ?_,rfl,q _ hf⟩;exact⟨z,us,0,r,Cy _ rfl⟩
abbrev Sp:=List V->Hp->VK->XK->Prop
abbrev wW:=List Env->Hp->Shared->XK->Value->Shared->Prop
structure rB (P:Program) (w:World) (K:PySem.W.Frag) (mg:Str->Option Value) (base:Heap) (A:Around) (outer:List Env) (s:Shared) (H:Hp):Prop where
 frames:A.frames=some outer
 mod:Mod K mg base
 bs:∀ b o,base.get? b=some o->s.heap.get? b=some o/\H b=none
 pH:base.objs.size<=s.heap.objs.size
 eS:s.heap.FunFrames base outer
 rN:∀ b∈j1 outer,H b=none
 aJ:fJ P w H s.heap
 bare:AllBare s.gens
def CE(outer:List Env)(P:Program)(w:World)(H:Hp)(s:Shared)(Q:VK)(u:Value)(s':Shared):Prop :=
 ∃ v H',s'.os=s.os/\AllBare s'.gens/\Un (j1 outer) [] H H' s.heap s'.heap/\fJ P w H' s'.heap/\RelV v u/\Q v H'
def CR(CX:wW)(outer:List Env)(P:Program)(w:World)(H:Hp)(s:Shared)(Q:VK)(E:XK)(r:Result)(s':Shared):Prop :=
 match r with
 | .ok (.ret u)=>CE outer P w H s Q u s'
 | .ok _=>False
 | .error e=>CX outer H s E e s'
structure bK (P:Program) (w:World) (K:PySem.W.Frag) (mg:Str->Option Value) (base:Heap) (CX:wW) (k:Nat) (f:Addr) (fd:FuncData) (ps:List Str) (sp:Sp):Prop where
 len:∀ vs H Q E,sp vs H Q E->vs.length=ps.length
 run:∀ (A:Around) (outer:List Env) (s:Shared) (H:Hp) (args:Args) (us:List Value) (vs:List V) (Q:VK) (E:XK),bW k A->rB P w K mg base A outer s H->BindsTo s fd args (ps.zip us)->Vals vs us->sp vs H Q E ->
  codeAny (model P w) A (.call (.ref f) args) (CR CX outer P w H s Q E) s
section
variable{s':Shared}
theorem Inv.a_(I:Inv X z0 σ H s):rB X.prog X.w X.K X.mg X.base X.A X.stack s H :=
 ⟨I.ok.frames,I.ok.mod,I.bs,CN I.ok.pH I.sz,I.stack,I.eU,I.aJ,I.bare⟩
theorem Inv.after{Q:VK}(I:Inv X z0 σ H s)(h:CE X.stack X.prog X.w H s Q u s'):EP X z0 σ Q u s':=by
 obtain⟨v,H',os,bare,un,aJ,r,q⟩:=h;obtain⟨hh,g,d,t,os'⟩:=s';obtain rfl:os'=s.os:=os;exact⟨v,H',I.call (h':=hh) (g':=g) (d':=d) (t':=t) (ch:=[]) un aJ bare (λb z=>absurd z (by simp)),r,q⟩
end
def Binds(K:PySem.W.Frag)(fd:FuncData)(ps:List Str)(ds:List Value):Prop :=
 ∀ (s:Shared) (us:List Value),K.In s.heap->(us++ds).length=ps.length->BindsTo s fd ⟨us,[]⟩ (ps.zip (us++ds))
variable{ps:List Str}{fd:FuncData}
theorem Binds.all{K:PySem.W.Frag}(h:∀ us:List Value,us.length=ps.length->bindArgs fd ⟨us,[]⟩=pure (ps.zip us)):Binds K fd ps []:=λs us _ hl=>by
 rw[C1] at hl ⊢;exact .of_eq (h us hl)
variable{sp:Sp}{CX:wW}
section
variable{f:Addr}{Bb:List V}{ds:List Value}{E:XK}{m:Str}{p apos:Pos}{o:Expr}
end
section
variable{f:Addr}{ks:List Str}{E:XK}{m:Str}{p apos kpos:Pos}{o:Expr}{kws:List Keyword}{tk:TA}{nm:Option Str}
variable{g:List Value->List Value->List Value}{gV:List V->List V->List V}
end
structure cX (N P:List Str) (sc:Scope):Prop where
 kind:sc.kind=.function
 co:sc.isCoroutine=false
 gen:sc.isGenerator=false
 nd:N.Nodup
 pre:N.take P.length=P
 par:∀ x∈P,sc.names.lookup x=some .local\/sc.names.lookup x=some .cell
 vh:∀ y∈sc.names,y.2≠.free
theorem iX{kindOf:Str->Option NameKind}{x:Str}:∀ {binds:List (Str×Value)} {m:Str->Option Value},(∀ v,(x,v) ∉ binds)->bindL kindOf binds m x=m x
 | [],_,_=>rfl
 | (n,v)::r,m,h=>by
  unfold bindL;rw[iX λw hw=>h w (CB _ hw)]
  split
  .have:x≠n:=by rintro rfl;exact h v Cz
   simp[this]
  .rfl
theorem jd{kindOf:Str->Option NameKind}{x:Str}:∀ {binds:List (Str×Value)} {m:Str->Option Value},(∀ v,(x,v) ∉ binds)->bindC kindOf binds m x=m x
 | [],_,_=>rfl
 | (n,v)::r,m,h=>by
  unfold bindC;rw[jd λw hw=>h w (CB _ hw)]
  split
  .rfl
  .have:x≠n:=by rintro rfl;exact h v Cz
   simp[this]
theorem je{kindOf:Str->Option NameKind}{x:Str}{v:Value}:∀ {P:List Str} {vs:List Value} {i:Nat} {m:Str->Option Value},P.Nodup->P[i]?=some x->vs[i]?=some v->kindOf x=some .local ->
  bindL kindOf (P.zip vs) m x=some v
 | [],_,_,_,_,h,_,_=>by simp at h
 | _::_,[],_,_,_,_,h,_=>by simp at h
 | p::P,w::vs,0,m,nd,h1,h2,hk=>by
  simp at h1 h2;subst h1;subst h2;show bindL kindOf ((p,w)::P.zip vs) m p=_;unfold bindL;rw[iX λv hv=>(EE.mp nd).1 (Fo hv).1,if_pos hk];simp
 | p::P,w::vs,i+1,m,nd,h1,h2,hk=>by
  show bindL kindOf ((p,w)::P.zip vs) m x=_;unfold bindL;exact je (i:=i) (EE.mp nd).2 (by simpa using h1) (by simpa using h2) hk
theorem i6{kindOf:Str->Option NameKind}{x:Str}{v:Value}:∀ {P:List Str} {vs:List Value} {i:Nat} {m:Str->Option Value},P.Nodup->P[i]?=some x->vs[i]?=some v->kindOf x≠some .local ->
  bindC kindOf (P.zip vs) m x=some v
 | [],_,_,_,_,h,_,_=>by simp at h
 | _::_,[],_,_,_,_,h,_=>by simp at h
 | p::P,w::vs,0,m,nd,h1,h2,hk=>by
  simp at h1 h2;subst h1;subst h2;show bindC kindOf ((p,w)::P.zip vs) m p=_;unfold bindC;rw[jd λv hv=>(EE.mp nd).1 (Fo hv).1,if_neg hk];simp
 | p::P,w::vs,i+1,m,nd,h1,h2,hk=>by
  show bindC kindOf ((p,w)::P.zip vs) m x=_;unfold bindC;exact i6 (i:=i) (EE.mp nd).2 (by simpa using h1) (by simpa using h2) hk
def start(N:List Str)(vs:List V):St:=vs.map some++Cw (N.length-vs.length) none
def iA(CX:wW)(P:Program)(w:World)(K:PySem.W.Frag)(mg:Str->Option Value)(base:Heap)(N:List Str)(qual:Str)(scope:Scope)(f:Addr)(cd:Value)(A:Around)(outer:List Env)(s:Shared)(H:Hp)(E:XK):Cx where
 prog:=P
 w:=w
 K:=K
 mg:=mg
 base:=base
 A:=A.deeper (envOfC qual scope s.heap.objs.size f cd)
 N:=N
 s₀:=s
 H₀:=H
 env:=envOfC qual scope s.heap.objs.size f cd
 outer:=outer
 stack:=envOfC qual scope s.heap.objs.size f cd::outer
 ex:=[]
 calm:=true
 fn:=λ_=>true
 pn:=[]
 xe:=λe s'=>wpAny (model P w) (A.deeper (envOfC qual scope s.heap.objs.size f cd)) (leaving (envOfC qual scope s.heap.objs.size f cd) e) (λ_ s''=>CX outer H s E e s'') (λe' s''=>CX outer H s E e' s'') s'
theorem kd{sc:Scope}(h:sc.names.lookup x=some .cell):∃ c,(cellsFrom n sc.names []).lookup x=some c:=by
 have q:=PySem.W.cellsFrom_some sc.names n [] (.inl h);exact DI.mp q
variable{scope:Scope}{base:Heap}{mg:Str->Option Value}
theorem mZ{K:PySem.W.Frag}{qual:Str}{f:Addr}{cd:Value}{outer:List Env}{s1:Shared}{E:XK}{vs:List V}
  (S:cX N ps scope) (hd:A.handled=none) (e0:rB P w K mg base A outer s H) (hl:vs.length=ps.length) (r:Vals vs us)
  (x:InCallC s s.heap.objs.size (bindL (envOfC qual scope s.heap.objs.size f cd).kindOf (ps.zip us) λ_=>none) (cellsFrom (s.heap.objs.size+1) scope.names []) (bindC (envOfC qual scope s.heap.objs.size f cd).kindOf (ps.zip us) λ_=>none) s1) :
  Inv (iA CX P w K mg base N qual scope f cd A outer s H E) [] (start N vs) H s1:=by
 have Aq:ps.length<=N.length:=by have:=congrArg List.length S.pre;rw[Eo] at this;lia
 obtain⟨h1,tk,rfl,hk⟩:=x.done;have gL:∀ b:Addr,b ∉ (iA CX P w K mg base N qual scope f cd A outer s H E).ex:=λb z=>absurd (show b∈([]:List Addr) from z) (by simp);refine⟨⟨e0.mod,S.kind,rfl,rfl,Cs _,λy z c h1 h2=>?_,λy hy=>?_,λy c _ h=>?_,λ_=>hd,Around.frames_deeper e0.frames,.inr ⟨rfl,rfl⟩,λb z=>absurd z (gL b),e0.bs,e0.pH,λb _ _=>gL b,λb z=>absurd z (gL b),e0.eS,e0.rN⟩,
  rfl,e0.bare,Un.kept hk,⟨_,x.toInCall.ns,λi y v h1 h2 h3=>?_⟩,λy c h=>⟨_,x.cell y c h⟩,e0.aJ.fresh (Cs _),λy c h=>?_,λp hp=>absurd (show p∈([]:List (Addr×Obj)) from hp) (by simp),e0.aJ.kept hk,?_⟩
 .exact name_of_addr x.apart (PySem.mem_of_lookup h1) (PySem.mem_of_lookup h2)
 .have hy:scope.names.lookup y=some .cell\/scope.names.lookup y=some .free:=hy;rcases hy with hy | hy
  .exact kd hy
  .exact absurd rfl (S.vh _ (PySem.mem_of_lookup hy))
 .exact DZ (x.above y c (PySem.mem_of_lookup h))
 .have hi:i<vs.length:=by
   unfold start at h2
   by_cases hi:i<vs.length
   .exact hi
   .rw[CF (by simpa using hi)] at h2;rw[C3] at h2
    split at h2 <;> cases h2
  have ha:vs[i]?=some v:=by
   unfold start at h2;rw[CP (by simpa using hi),CL] at h2;cases e:vs[i]? with
   | none=>rw[e] at h2;cases h2
   | some a=>rw[e] at h2;cases h2;rfl
  obtain⟨u,hu,rv⟩:=r.get ha;have hp:ps[i]?=some y:=by
   rw[<- S.pre,List.getElem?_take_of_lt (by lia)];exact h1
  have ndP:ps.Nodup:=by rw[<- S.pre];exact S.nd.sublist (List.take_sublist _ _)
  refine⟨u,rv,?_⟩;rcases S.par y (Fx hp) with k | k
  .exact .inl ⟨k,je ndP hp hu k⟩
  .obtain⟨c,e⟩:=kd (n:=s.heap.objs.size+1) k;refine .inr ⟨.inl k,c,e,?_⟩;have q:=x.cell y c e;rw[i6 ndP hp hu (by show scope.names.lookup y≠_;rw[k];decide)] at q;exact q
 .exact e0.aJ.fresh (DZ (x.above y c (PySem.mem_of_lookup h)))
 .unfold start;show _=N.length;rw[CU,Cv,Ft];lia
theorem xD{K:PySem.W.Frag}{f:Addr}{name qual:Str}{params:Arguments}{dV kV doc pm Al ct oc:Value}{an od:Option Addr}
  {BJ:Array (Option Value)} (lk:K.lookup f=some ⟨oc,od,.func (PySem.W.fnOf name qual params body scope dV kV doc pm an Al ct),BJ⟩) (AY:PySem.W.codeIn K Al qual=true) (S:cX N ps scope)
  (len:∀ vs H Q E,sp vs H Q E->vs.length=ps.length)
  (Bg:∀ (A:Around) (outer:List Env) (s:Shared) (H:Hp) (vs:List V) (Q:VK) (E:XK),bW k (A.deeper (envOfC qual scope s.heap.objs.size f Al))->sp vs H Q E ->
   ∃ t,gk (iA CX P w K mg base N qual scope f Al A outer s H E) body t/\t { nx:=λ_ H'=>Q .bL H',rt:=Q } (start N vs) H) :
  bK P w K mg base CX (k+1) f (PySem.W.fnOf name qual params body scope dV kV doc pm an Al ct) ps sp:=by
 refine⟨len,λA outer s H args us vs Q E hr e0 hb r hsp=>?_⟩;have hl:=len _ _ _ _ hsp;have KX:K.In s.heap:=e0.mod.xZ.keeps λb o e=>(e0.bs b o e).1;have lim:s.heap.NoLimit:=e0.mod.nolimit.keeps λb o e=>(e0.bs b o e).1;have B4:∀ y∈ps.zip us,scope.names.lookup y.1=some .local\/(scope.names.lookup y.1=some .cell/\((cellsFrom (s.heap.objs.size+1) scope.names []).lookup y.1).isSome=true):=λ⟨n,v⟩ hy=>by
  rcases S.par n (Fo hy).1 with q | q
  .exact .inl q
  .exact .inr ⟨q,PySem.W.cellsFrom_some _ _ _ (.inl q)⟩
 refine codeAny_call_function hr.depth (KX _ _ lk) rfl S.co S.gen rfl (PySem.W.codeRec_of KX AY) (hb _ _ _ _ ?_);refine wpAny_newFunctionEnv_cells S.kind B4 λenv he s1 x=>?_;subst he;refine⟨lim.keeps x.toInCall.keep,codeAny_func ?_⟩;obtain⟨t,ht,hq⟩:=Bg A outer s H vs Q E (hr.deeper _) hsp;have I:Inv (iA CX P w K mg base N qual scope f Al A outer s H E) [] (start N vs) H s1:=mZ S hr.hd e0 hl r x;refine CO (ht [] s1 (start N vs) H _ I hq) (λfl s' hs=>?_) λe s' hs=>hs;have fin:∀ {σ':St} {H':Hp} {v:V} {u:Value},Inv (iA CX P w K mg base N qual scope f Al A outer s H E) [] σ' H' s'->RelV v u->Q v H'->CE outer P w H s Q u s' :=
  λ{σ' H' v u} J rv q=>⟨v,H',J.os,J.bare,J.base,J.aJ,rv,q⟩
 cases fl with
 | ret u =>
  obtain⟨v,σ',H',J,rv,q⟩:=hs;exact fin J rv q
 | next =>
  obtain⟨σ',H',J,q⟩:=hs;exact fin (v:=V.bL) (u:=CV) J rfl q
 | brk =>
  obtain⟨_,_,_,q⟩:=hs;exact DX q
 | cont =>
  obtain⟨_,_,_,q⟩:=hs;exact DX q
section
variable{p:Pos}{id T:String}{r:List V->Hp->VK->Prop}
def yA(r:List V->Hp->VK->Prop)(t:TA):TE:=fun σ H Q=>t σ H λvs H1=>r vs H1 Q
theorem dR(hc:bj X (.builtin id) r)(hg:Gl X x)(hm:X.mg x=none)(hv:bootBuiltins x=some (.builtin id))(ha:PA X (e::es) t)(hn:autoParam (x ≠ "__name__") aD._auto_1)(AR:autoParam ((x==("__debug__" : Str))=false) aD._auto_1)
  (he:autoParam (starEach (e::es) X.env=(false,eval e X.env)::starEach es X.env) aR._auto_1) (Aq:autoParam ((backTo pos (starEach es X.env)).any (·.1)=false) aR._auto_1):PE X (.Call (.Name x p) (e::es) [] pos) (yA r t):=by
 intro z0 s σ H Q I h;refine Ec (ip I hg hm hv ?_ hn AR);exact PyProof.Rows.callWith_builtin1 (bM (ha pos z0 s σ H _ I h) λus s1 ⟨vs,H1,I1,r1,q1⟩=>hc z0 s1 σ H1 vs us Q I1 r1 q1) he Aq
theorem nv(hc:bj X (.type T) r)(hg:Gl X x)(hm:X.mg x=none)(hv:bootBuiltins x=some (.type T))(ha:PA X (e::es) t)(hn:autoParam (x ≠ "__name__") aD._auto_1)(AR:autoParam ((x==("__debug__" : Str))=false) aD._auto_1)
  (he:autoParam (starEach (e::es) X.env=(false,eval e X.env)::starEach es X.env) aR._auto_1) (Aq:autoParam ((backTo pos (starEach es X.env)).any (·.1)=false) aR._auto_1):PE X (.Call (.Name x p) (e::es) [] pos) (yA r t):=by
 intro z0 s σ H Q I h;refine Ec (ip I hg hm hv ?_ hn AR);exact DW (bM (ha pos z0 s σ H _ I h) λus s1 ⟨vs,H1,I1,r1,q1⟩=>hc z0 s1 σ H1 vs us Q I1 r1 q1) he Aq
end
end L2
namespace HT
open PySem PyProof.Rows
section
open PySem.SeqAt
open PySem.AutoSeq1 (wpAny_loadPart')
open PySem.MeetsSeq PySem.MeetsSeq2 PySem.MeetsSeq3
end
variable{Q:Value->Shared->Prop}
section
variable{prog:Program}{w:World}{A:Around}{E:Value->Shared->Prop}{s:Shared}
theorem tm{t b:Addr}{vs ws:List Value}(ht:IsTup s.heap t vs.toArray)(hb:IsTup s.heap b ws.toArray)(hv:vs≠[])
  (h1:ws=[]->Q (.ref t) s) (h2:ws≠[]->Q (.ref s.heap.objs.size) { s with heap:=s.heap.push { cls:=.type "tuple", data:=.seq (vs++ws).toArray } })
  (A1:vs.length+ws.length<=sizeLine):wpAny (model prog w) A (binaryOp .Add (.ref t) (.ref b)) Q E s:=by
 obtain⟨⟨cls,dd,data,sl⟩,ho,hc,n,hd⟩:=id ht;obtain⟨⟨cls2,BS,data2,sl2⟩,BE,B1,n2,hd2⟩:=id hb;simp only at hc hd B1 hd2;subst hc hd B1 hd2;have e:vs.toArray++ws.toArray=(vs++ws).toArray:=by simp
 by_cases hw:ws=[]
 .exact F1 ⟨_,ho,rfl⟩ ⟨_,BE,rfl⟩ E5 FQ PySem.F.slot_tuple_add PySem.F.entry_tuple_add (PySem.F.args_tuple_add_2 _ _)
   (tuple_addW1 t b vs.toArray ws.toArray n n2 dd BS sl sl2 (by simpa using hv) (by simp[hw])) ⟨ho,BE,h1 hw⟩
 .refine F1 ⟨_,ho,rfl⟩ ⟨_,BE,rfl⟩ E5 FQ PySem.F.slot_tuple_add PySem.F.entry_tuple_add (PySem.F.args_tuple_add_2 _ _)
   (tuple_addW2 t b vs.toArray ws.toArray n n2 dd BS sl sl2 (by simpa using hv) (by simpa using hw) (by rw[Ct,Ct];exact A1)) ⟨ho,BE,?_⟩
  rw[e];exact h2 hw
def bC(n d:Nat):Option Int->Nat
 | none=>d
 | some v=>if v<0 then (v+(n:Int)).toNat else min v.toNat n
theorem lN(n d k:Nat):bC n d (some (k:Int))=min k n:=by
 show (if (k:Int)<0 then ((k:Int)+(n:Int)).toNat else min (k:Int).toNat n)=min k n;rw[if_neg (by lia),Ej]
theorem vF(n d:Nat)(hd:d<=n)(o:Option Int):bC n d o<=n:=by
 cases o with
 | none=>exact hd
 | some v =>
  show (if v<0 then (v+(n:Int)).toNat else min v.toNat n)<=n
  by_cases hv:v<0
  .rw[if_pos hv];lia
  .rw[if_neg hv];exact Nat.min_le_right _ _
theorem ml(v:Int)(n d:Nat):(if v<0 then max (v+(n:Int)) 0 else min v (n:Int))=((bC n d (some v):Nat):Int):=by
 show (if v<0 then max (v+(n:Int)) 0 else min v (n:Int))=(((if v<0 then (v+(n:Int)).toNat else min v.toNat n):Nat):Int)
 by_cases hv:v<0
 .simp only[if_pos hv];lia
 .simp only[if_neg hv];lia
theorem lg(lo hi:Option Int)(n:Nat):D5 lo hi 1 (n:Int)=(((bC n 0 lo:Nat):Int),((bC n n hi:Nat):Int)):=by
 have h1:¬ ((1:Int)<0):=by lia
 unfold D5;simp only[h1,if_false];refine Prod.ext ?_ ?_
 .cases lo with
  | none=>rfl
  | some v=>exact ml v n 0
 .cases hi with
  | none=>rfl
  | some v=>exact ml v n n
theorem ly(i j:Nat):DA (i:Int) (j:Int) 1=j-i:=by
 unfold DA;have h1:(1:Int)>0:=by lia
 simp only[h1,if_true,Int.ediv_one]
 split <;> lia
theorem iy{v:Value}{o:Option Int}{Q:Option Int->Shared->Prop}(p:IsPart v o)(h:Q o s):wpAny (model prog w) A (Builtin.Slice.slicePartIndex v) Q E s:=by
 cases p with
 | none=>exact slicePart_none h
 | int i t=>exact slicePart_int h
theorem de{sl:Addr}{vl vu:Value}{lo hi:Option Int}{n:Nat}{Q:Int×Int×Nat->Shared->Prop}(hs:s.heap.IsSliceOf sl vl vu .none)(pl:IsPart vl lo)(pu:IsPart vu hi)
  (h:Q (((bC n 0 lo:Nat):Int),1,bC n n hi-bC n 0 lo) s):wpAny (model prog w) A (ER (.ref sl) (pure (n:Int))) Q E s:=by
 obtain⟨os,BF,Bq,BD⟩:=id hs;unfold ER Builtin.Slice.sliceFields;refine Ck (Ck (CM BF BD (x:=vl) rfl (Ck (CM BF BD (x:=vu) rfl (Ck (CM BF BD (x:=.none) rfl (Cp ?_)))))));refine Ck (slicePart_none ?_);show wpAny _ _ (if ((1:Int)==0)=true then _ else _) _ _ s;rw[if_neg (by decide)];refine Ck (iy pl (Ck (iy pu (Ck (Cp ?_)))));show wpAny _ _ (match D5 lo hi 1 (n:Int) with | (lo,hi)=>pure (lo,(1:Int),DA lo hi 1)) _ _ s;rw[lg lo hi n];show wpAny _ _ (pure (((bC n 0 lo:Nat):Int),(1:Int),DA ((bC n 0 lo:Nat):Int) ((bC n n hi:Nat):Int) 1)) _ _ s;rw[ly];exact Cp h
theorem ql(xs:Array Value)(i k:Nat):((DN k).filterMap λ(m:Nat)=>xs[((i:Int)+(m:Int)*1).toNat]?).toArray=((xs.toList.drop i).take k).toArray:=by
 have e:(λ(m:Nat)=>xs[((i:Int)+(m:Int)*1).toNat]?)=λm=>xs[i+m]?:=by
  funext m
  have:((i:Int)+(m:Int)*1).toNat=i+m:=by lia
  rw[this]
 rw[e];have:=pick_run xs i k;rw[List.filterMap_map] at this;have e2:((λx=>xs[x]?)∘λx=>i+x)=λm=>xs[i+m]?:=rfl;rw[e2] at this;rw[this]
theorem fH{t sl:Addr}{z6:Array Value}{vl vu:Value}{lo hi:Option Int}(ht:IsTup s.heap t z6)(hs:s.heap.IsSliceOf sl vl vu .none)(pl:IsPart vl lo)(pu:IsPart vu hi)
  (hw:¬ (bC z6.size 0 lo=0/\bC z6.size z6.size hi=z6.size))
  (h:Q (.ref s.heap.objs.size) { s with heap:=s.heap.push { cls:=.type "tuple", data:=.seq ((z6.toList.drop (bC z6.size 0 lo)).take (bC z6.size z6.size hi-bC z6.size 0 lo)).toArray } })
  (A1:z6.size<=sizeLine):wpAny (model prog w) A (getItem (.ref t) (.ref sl)) Q E s:=by
 have A7:sizeOk (.seq ((z6.toList.drop (bC z6.size 0 lo)).take (bC z6.size z6.size hi-bC z6.size 0 lo)).toArray):=by
  show ((z6.toList.drop (bC z6.size 0 lo)).take (bC z6.size z6.size hi-bC z6.size 0 lo)).toArray.size<=sizeLine;rw[Ct,Eo,Ep,D6];lia
 have hj:bC z6.size z6.size hi<=z6.size:=vF _ _ (Cs _) hi;obtain⟨os,BF,Bq,BD⟩:=id hs;have hTs:s.TypeIs (.ref sl) "slice" := ⟨os,BF,Bq⟩
 unfold getItem
 try with_reducible refine Df ?_
 first | refine Ck (Cp ?_) | skip
 refine Ck (F2 ht.typeIs (by decide) ?_);refine Ck (De (name:=Cn "__getitem__") ht.typeIs C0
  (DK C0 ht.typeIs FH ?_ (FT _ _)))
 show wpAny _ _ (ES (.ref t) >>= _) _ _ s;refine Ck (tupleItemsOf_ ht ?_);refine Ck (F3 hTs ?_);rw[if_pos (by decide)];refine Ck (de hs pl pu ?_);have hno:¬ ((((bC z6.size 0 lo:Nat):Int)==0&&(1:Int)==1&&(bC z6.size z6.size hi-bC z6.size 0 lo)==z6.size)=true):=by
  intro q;rw[C5,C5] at q;have q1:((bC z6.size 0 lo:Nat):Int)=0:=eq_of_beq q.1.1;have q2:bC z6.size z6.size hi-bC z6.size 0 lo=z6.size:=eq_of_beq q.2;exact hw ⟨by lia,by lia⟩
 show wpAny _ _ (if (((bC z6.size 0 lo:Nat):Int)==0&&(1:Int)==1&&(bC z6.size z6.size hi-bC z6.size 0 lo)==z6.size)=true then _ else _) _ _ s;rw[if_neg hno,ql]
 first
  | exact Ck (m:=DJ _) (C8 (Cp ⟨_,rfl,Cp h⟩) A7)
  | exact Ck (m:=DJ _) (C8 (Ck (Cp (Cp ⟨_,rfl,Cp h⟩))) A7)
  | exact Ck (Ck (m:=DJ _) (C8 (Cp (Cp ⟨_,rfl,Cp h⟩)) A7))
  | exact Ck (Ck (m:=DJ _) (C8 (Cp ⟨_,rfl,Cp h⟩) A7))
end
end HT
namespace L2
open PySem PySem.Spec PyProof.Rows
abbrev TO:=St->Hp->(Option Int->Hp->Prop)->Prop
def PO(X:Cx)(e:Option Expr)(t:TO):Prop :=
 ∀ (z0:List (Addr×Obj)) (s:Shared) (σ:St) (H:Hp) (Q:Option Int->Hp->Prop),Inv X z0 σ H s->t σ H Q ->
  wpAny (model X.prog X.w) X.A (evalPart e X.env) (λu s'=>∃ o H',Inv X z0 σ H' s'/\IsPart u o/\Q o H') X.xe s
def sx:TO:=λ_ H Q=>Q none H
def xG(t:TE):TO:=fun σ H Q=>t σ H λx H1=>∃ i,x=.int i/\Q (some i) H1
variable{pos:Pos}{e:Expr}{X:Cx}
variable{r:V->Option Int->Option Int->Hp->VK->Prop}
section
variable{te:TE}{lo hi:Option Expr}{tl th:TO}{p2:Pos}
theorem sF:PO X none sx:=by
 intro z0 s σ H Q I h;rw[evalPart_none];exact Cp ⟨none,H,I,.none,h⟩
theorem sT(h:PE X e te):PO X (some e) (xG te):=by
 intro z0 s σ H Q I hw;rw[evalPart_some];refine bM (h z0 s σ H _ I hw) λu s1 ⟨x,H1,I1,r1,q1⟩=>?_;obtain⟨i,rfl,q⟩:=q1;obtain⟨t,rfl⟩:=r1;exact⟨some i,H1,I1,.int i t,q⟩
def nU(X:Cx)(r:V->Option Int->Option Int->Hp->VK->Prop):Prop :=
 ∀ (z0:List (Addr×Obj)) (s:Shared) (σ:St) (H:Hp) (x:V) (v vl vu:Value) (lo hi:Option Int) (sl:Addr) (Q:VK),Inv X z0 σ H s->RelV x v->s.heap.IsSliceOf sl vl vu .none->IsPart vl lo->IsPart vu hi->r x lo hi H Q ->
  ∃ T id,typeLookup (.type T) "__getitem__" = pure (some (.builtin id))/\s.TypeIs v T/\wpAny (model X.prog X.w) X.A (getItem v (.ref sl)) (EP X z0 σ Q) X.xe s
theorem nU.or{r':V->Option Int->Option Int->Hp->VK->Prop}(h:nU X r)(h':nU X r'):nU X (λx lo hi H Q=>r x lo hi H Q\/r' x lo hi H Q):=by
 intro z0 s σ H x v vl vu lo hi sl Q I rx hs pl pu q;rcases q with q | q
 .exact h z0 s σ H x v vl vu lo hi sl Q I rx hs pl pu q
 .exact h' z0 s σ H x v vl vu lo hi sl Q I rx hs pl pu q
def zz(r:V->Option Int->Option Int->Hp->VK->Prop)(te:TE)(tl th:TO):TE:=fun σ H Q=>te σ H λx H1=>tl σ H1 λl H2=>th σ H2 λu H3=>r x l u H3 Q
theorem j8(hr:nU X r)(he:PE X e te)(hl:PO X lo tl)(hu:PO X hi th):PE X (.Subscript e (.Slice lo hi none p2) pos) (zz r te tl th):=by
 intro z0 s σ H Q I h;refine Subscript_ (bM (he z0 s σ H _ I h) λv s1 ⟨x,H1,I1,r1,q1⟩=>?_);refine wpAny_Slice (bM (hl z0 s1 σ H1 _ I1 q1) λvl s2 ⟨l,H2,I2,pl,q2⟩=>bM (hu z0 s2 σ H2 _ I2 q2) λvu s3 ⟨u,H3,I3,pu,q3⟩=>?_);rw[evalPart_none];refine Cp ?_;have I4:Inv X z0 σ H3 { s3 with heap:=s3.heap.push { cls:=.type "slice", data:=.fields #[vl,vu,.none] } }:=I3.kept (t':=s3.toks) λb ob q=>Cm _ q;obtain⟨T,id,hT,ht,hg⟩:=hr z0 { s3 with heap:=s3.heap.push { cls:=.type "slice", data:=.fields #[vl,vu,.none] } } σ H3 x v vl vu l u s3.heap.objs.size Q I4 r1 (GF ..) pl pu q3;show wpAny (model X.prog X.w) X.A (subscriptTail e (.Slice lo hi none p2) v (.ref s3.heap.objs.size)) (EP X z0 σ Q) X.xe { s3 with heap:=s3.heap.push { cls:=.type "slice", data:=.fields #[vl,vu,.none] } };exact tail_any (ops:=[.ref s3.heap.objs.size,v]) ht hT hg (by with_unfolding_all rfl)
def kK(xs:List V)(lo hi:Option Int):List V:=(xs.drop (HT.bC xs.length 0 lo)).take (HT.bC xs.length xs.length hi-HT.bC xs.length 0 lo)
theorem gg(xs:List V)(lo hi:Option Int):(kK xs lo hi).length<=xs.length:=by
 unfold kK;rw[Eo,Ep];lia
def yC(K:PySem.W.Frag):V->Option Int->Option Int->Hp->VK->Prop:=λx lo hi H Q=>∃ a xs,x=.ref a/\dg K H a xs ∧
 ¬ (HT.bC xs.length 0 lo=0/\HT.bC xs.length xs.length hi=xs.length)/\∀ p,H p=none->Q (.ref p) (upd H p (.tup (kK xs lo hi)))
theorem ve:nU X (yC X.K):=by
 intro z0 s σ H x v vl vu lo hi sl Q I rx hs pl pu h;obtain⟨a,xs,rfl,hx,hw,q⟩:=h;cases rx;obtain⟨z7,r,ht,hz⟩:=I.tuple hx;have hlen:z7.toArray.size=xs.length:=by rw[Ct];exact r.length.symm
 refine⟨"tuple", _,C0.lookup,ht.typeIs,?_⟩;refine HT.fH ht hs pl pu (by rw[hlen];exact hw) ?_ (by rw[hlen];exact hz);rw[hlen];refine⟨.ref s.heap.objs.size,_,I.laid (t':=s.toks) (o:=.tup (kK xs lo hi)) (λb ob q=>Cm _ q) (Cs _) ?_,rfl,q _ (I.aJ.fresh (Cs _))⟩;exact⟨CN (gg xs lo hi) hz,_,(r.drop (HT.bC xs.length 0 lo)).take (HT.bC xs.length xs.length hi-HT.bC xs.length 0 lo),F8 _ _⟩
def tX(K:PySem.W.Frag):R2:=λx y H Q=>∃ a b xs ys,x=.ref a/\y=.ref b/\dg K H a xs/\dg K H b ys/\xs≠[]/\xs.length+ys.length<=sizeLine ∧
 (ys=[]->Q (.ref a) H)/\(ys≠[]->∀ p,H p=none->Q (.ref p) (upd H p (.tup (xs++ys))))
theorem Vals.fF{xs:List V}{us:List Value}(r:Vals xs us):us=[] ↔ xs=[]:=by
 cases r with
 | nil=>simp
 | cons _ _=>simp
theorem sH:cR X (binaryOp .Add) (tX X.K):=by
 intro z0 s σ H x y v u Q I rx ry h;obtain⟨a,b,xs,ys,rfl,rfl,ha,hb,hx,hz,q1,q2⟩:=h;cases rx;cases ry;obtain⟨z7,r1,p1,_⟩:=I.tuple ha;obtain⟨A2,r2,p2,_⟩:=I.tuple hb;refine HT.tm p1 p2 (λz=>hx (r1.fF.mp z)) (λz=>⟨.ref a,H,I,rfl,q1 (r2.fF.mp z)⟩) (λz=>?_) (by rw[<- r1.length,<- r2.length];exact hz);refine⟨.ref s.heap.objs.size,_,I.laid (t':=s.toks) (o:=.tup (xs++ys)) (λb ob q=>Cm _ q) (Cs _) ?_,rfl,q2 (λw=>z (r2.fF.mpr w)) _ (I.aJ.fresh (Cs _))⟩;exact⟨by rw[CU];exact hz,_,r1.append r2,F8 _ _⟩
end
def sI(n:Nat)(i:Int):Option Nat:=if 0<=i then (if i<n then some i.toNat else none) else if -(n:Int)<=i then some (i+n).toNat else none
variable{α:Type}
def h_(xs:List α)(i:Int):Option α:=(sI xs.length i).bind λj=>xs[j]?
variable{j n:Nat}{i:Int}
theorem rU(h:sI n i=some j):seqIndex? i n=some j/\j<n/\-(n:Int)<=i/\i<n:=by
 unfold sI at h
 by_cases h0:0<=i
 .rw[if_pos h0] at h
  by_cases h1:i<n
  .rw[if_pos h1] at h;have e:i.toNat=j:=CG h;exact⟨by rw[seqIndex_of h0 h1,e],by lia,by lia,h1⟩
  .rw[if_neg h1] at h;cases h
 .rw[if_neg h0] at h
  by_cases h1:-(n:Int)<=i
  .rw[if_pos h1] at h;have e:(i+n).toNat=j:=CG h;exact⟨by rw[seqIndex_neg (by lia) h1,e],by lia,h1,by lia⟩
  .rw[if_neg h1] at h;cases h
theorem jF{xs:List α}{v:α}(h:h_ xs i=some v):∃ j,seqIndex? i xs.length=some j/\xs[j]?=some v/\j<xs.length/\-(xs.length:Int)<=i/\i<xs.length:=by
 unfold h_ at h;cases e:sI xs.length i with
 | none=>rw[e] at h;cases h
 | some j =>
  rw[e] at h;obtain⟨h1,h2,h3,h4⟩:=rU e;exact⟨j,h1,h,h2,h3,h4⟩
theorem jK{xs:List α}{v:α}(h:xs[j]?=some v):h_ xs (j:Int)=some v:=by
 have hj:j<xs.length:=(Dj.mp h).1;have e:sI xs.length (j:Int)=some j:=by
  unfold sI;rw[if_pos (by lia),if_pos (by lia)];simp
 unfold h_;rw[e];exact h
def jY(b:Expr):Prop:=∀ o i,subscripted b false o i=operate [o,i] (getItem o i)
def rJ(X:Cx)(r:R2):Prop :=
 ∀ (value slice:Expr) (z0:List (Addr×Obj)) (s:Shared) (σ:St) (H:Hp) (x y:V) (v u:Value) (Q:VK),Inv X z0 σ H s->RelV x v->RelV y u->r x y H Q ->
  subscripted slice false v u=operate [v,u] (getItem v u)->wpAny (model X.prog X.w) X.A (subscriptTail value slice v u) (EP X z0 σ Q) X.xe s
def xc(X:Cx)(id:String)(r:V->List V->Hp->VK->Prop):Prop :=
 ∀ (z0:List (Addr×Obj)) (s:Shared) (σ:St) (H:Hp) (x:V) (xs:List V) (v:Value) (us:List Value) (Q:VK),Inv X z0 σ H s->RelV x v->Vals xs us->r x xs H Q ->
  wpAny (model X.prog X.w) X.A (call (.builtin id) (v::us)) (EP X z0 σ Q) X.xe s
variable{s:Shared}{H:Hp}{σ:St}{z0:List (Addr×Obj)}
section
variable{a b:Expr}{ta tb:TE}
theorem rJ.or{r r':R2}(h:rJ X r)(h':rJ X r'):rJ X (λx y H Q=>r x y H Q\/r' x y H Q):=by
 intro value slice z0 s σ H x y v u Q I rx ry q hs;rcases q with q | q
 .exact h value slice z0 s σ H x y v u Q I rx ry q hs
 .exact h' value slice z0 s σ H x y v u Q I rx ry q hs
theorem w9{r:R2}(hr:rJ X r)(ha:PE X a ta)(hb:PE X b tb)(hs:jY b):PE X (.Subscript a b pos) (xb r ta tb):=by
 intro z0 s σ H Q I h;exact Subscript_ (vn ha hb I h λv u s2 x y H2 I2 rx ry q=>hr a b z0 s2 σ H2 x y v u Q I2 rx ry q (hs _ _))
def x6(K:PySem.W.Frag):R2:=λx y H Q=>∃ p xs i v,x=.ref p/\y=.int i/\dF K H p xs/\h_ xs i=some v/\Q v H
def w5(K:PySem.W.Frag):R2:=λx y H Q=>∃ p xs i v,x=.ref p/\y=.int i/\dg K H p xs/\h_ xs i=some v/\Q v H
def w8:R2:=λx y H Q=>∃ z i c,x=.str z/\y=.int i/\z.length<=sizeLine/\h_ z.cps.toList i=some c/\Q (.str ⟨#[c]⟩) H
theorem sg:rJ X (x6 X.K):=by
 intro value slice z0 s σ H x y v u Q I rx ry h hs;obtain⟨p,xs,i,z,rfl,rfl,hq,he,q⟩:=h;cases rx;obtain⟨t,rfl⟩:=ry;obtain⟨z7,r,pl,hz⟩:=I.list hq;obtain⟨j,h1,h2,h3,h4,h5⟩:=jF he;obtain⟨w,ew,Bw⟩:=r.get h2;have hl:=r.length;have hn:=gP;have fin:EP X z0 σ Q w s:=⟨z,H,I,Bw,q⟩
 by_cases h0:0<=i
 .have hj:i.toNat=j:=by
   rw[seqIndex_of h0 h5] at h1;exact CG h1
  exact item_listR pl.isList h0 (by lia) (by rw[hj];simpa using ew) fin hs
 .have hj:(i+(z7.toArray.size:Int)).toNat=j:=by
   rw[seqIndex_neg (by lia) h4] at h1;rw[Ct,<- hl];exact CG h1
  exact E_ (x:=w) pl.isList.typeIs F4.lookup
   (wpAny_getItem_list_neg (Q:=λr s'=>r=w/\EP X z0 σ Q r s') pl.isList (by lia) (by rw[Ct] <;> lia) (by lia) (by rw[hj];simpa using ew) ⟨rfl,fin⟩) hs
theorem vQ:rJ X (w5 X.K):=by
 intro value slice z0 s σ H x y v u Q I rx ry h hs;obtain⟨p,xs,i,z,rfl,rfl,hq,he,q⟩:=h;cases rx;obtain⟨t,rfl⟩:=ry;obtain⟨z7,r,pl,hz⟩:=I.tuple hq;obtain⟨j,h1,h2,h3,h4,h5⟩:=jF he;obtain⟨w,ew,Bw⟩:=r.get h2;have hl:=r.length;have hn:=gP;have fin:EP X z0 σ Q w s:=⟨z,H,I,Bw,q⟩
 exact E_ (x:=w) pl.typeIs slot_tuple_getitem.lookup
  (getItem_tuple (j:=j) (Q:=λr s'=>r=w/\EP X z0 σ Q r s') pl (by lia) (by lia) (by rw[Ct,<- hl];exact h1) (by simpa using ew) ⟨rfl,fin⟩) hs
theorem vA:rJ X w8:=by
 intro value slice z0 s σ H x y v u Q I rx ry h hs;obtain⟨z,i,c,rfl,rfl,hz,he,q⟩:=h;obtain⟨t,rfl⟩:=rx;obtain⟨t',rfl⟩:=ry;obtain⟨j,h1,h2,h3,h4,h5⟩:=jF he;have hl:z.cps.toList.length=z.length:=by simp[Gr]
 rw[hl] at h1 h4 h5;have hn:=gP;exact tail_any (Er s z t) slot_str_getitem.lookup (getItem_str (c:=c) (by
  have e1:decide (i < -(2^63:Int))=false:=decide_eq_false (by lia);have e2:decide (i>=2^63)=false:=decide_eq_false (by lia);rw[e1,e2,Bool.or_false]) (by rw[h1];simpa using h2) ⟨.str ⟨#[c]⟩,H,I.tok _,⟨_,rfl⟩,q⟩) hs
def zh(K:PySem.W.Frag):R2:=λx y H Q=>x6 K x y H Q\/w5 K x y H Q\/w8 x y H Q
theorem wj:rJ X (zh X.K):=sg.or (vQ.or vA)
theorem jj(lo hi:Option Int)(n:Nat):(sliceBounds lo hi none n).1=((HT.bC n 0 lo:Nat):Int)/\(sliceBounds lo hi none n).2.1=((HT.bC n n hi:Nat):Int)/\(sliceBounds lo hi none n).2.2=1:=by
 refine⟨?_,?_,rfl⟩
 .cases lo with
  | none=>simp[sliceBounds,HT.bC]
  | some i =>
   simp only[sliceBounds,HT.bC,F9,show (1:Int)>0 by decide,if_true]
   by_cases h:i<0
   .simp only[h,if_true] <;> lia
   .simp only[h,if_false] <;> lia
 .cases hi with
  | none=>simp[sliceBounds,HT.bC]
  | some i =>
   simp only[sliceBounds,HT.bC,F9,show (1:Int)>0 by decide,if_true]
   by_cases h:i<0
   .simp only[h,if_true] <;> lia
   .simp only[h,if_false] <;> lia
theorem iF(z7:List Value)(lo hi:Option Int):slicePick z7.toArray lo hi none=((z7.drop (HT.bC z7.length 0 lo)).take (HT.bC z7.length z7.length hi-HT.bC z7.length 0 lo)).toArray:=by
 obtain⟨h1,h2,h3⟩:=jj lo hi z7.toArray.size;unfold slicePick;rw[h1,h2,h3];simp only[sliceRange_one,pick_run,Ct] <;> rfl
def yR(K:PySem.W.Frag):V->Option Int->Option Int->Hp->VK->Prop:=λx lo hi H Q=>∃ a xs,x=.ref a/\dF K H a xs/\∀ p,H p=none->Q (.ref p) (upd H p (.lst (kK xs lo hi)))
theorem r8:nU X (yR X.K):=by
 intro z0 s σ H x v vl vu lo hi sl Q I rx hs pl pu h;obtain⟨a,xs,rfl,hx,q⟩:=h;cases rx;obtain⟨z7,r,ht,hz⟩:=I.list hx;have hlen:=r.length;refine⟨"list", _,F4.lookup,ht.isList.typeIs,?_⟩;refine wpAny_getItem_list_slice ht.isList hs pl pu .none (by simp) ?_ (by rw[Ct] <;> lia);rw[iF,<- hlen];refine⟨.ref s.heap.objs.size,_,I.laid (t':=s.toks) (o:=.lst (kK xs lo hi)) (λb ob q=>Cm _ q) (Cs _) ?_,rfl,q _ (I.aJ.fresh (Cs _))⟩;exact⟨CN (gg xs lo hi) hz,_,0,(r.drop (HT.bC xs.length 0 lo)).take (HT.bC xs.length xs.length hi-HT.bC xs.length 0 lo),Cy _ rfl⟩
theorem jL:cR X (compareOp .NotIn) (λx y H Q=>∃ i j,x=.str i/\y=.str j/\Q (.bl (!(!(CT j i 0 j.length 1).isEmpty))) H):=by
 intro z0 s σ H x y v u Q I rx ry h;obtain⟨i,j,rfl,rfl,q⟩:=h;obtain⟨t,rfl⟩:=rx;obtain⟨t',rfl⟩:=ry;exact notIn_str ⟨.bl _,H,I,rfl,q⟩
theorem jt:bj X (.builtin "len") (λxs H Q=>∃ p ys,xs=[.ref p]/\(dF X.K H p ys\/dg X.K H p ys)/\Q (.int ys.length) H):=by
 intro z0 s σ H xs us Q I r h;obtain⟨p,ys,rfl,hq,q⟩:=h;obtain⟨u,rfl,rx⟩:=vals1 r;cases rx;have hn:=gP;rcases hq with hq | hq
 .obtain⟨z7,r',pl,hz⟩:=I.list hq;have hlen:=r'.length;exact Calls.call_len_list pl.isList (by simp only[Ct] <;> lia) ⟨.int ys.length,H,I.tok _,⟨s.toks+1,by rw[Ct,hlen]⟩,q⟩
 .obtain⟨z7,r',pl,hz⟩:=I.tuple hq;have hlen:=r'.length;exact len_tuple pl (by simp only[Ct] <;> lia) ⟨.int ys.length,H,I.tok _,⟨s.toks+1,by rw[Ct,hlen]⟩,q⟩
theorem jQ:bj X (.builtin "len") (λxs H Q=>∃ z,xs=[.str z]/\z.length<=sizeLine/\Q (.int z.length) H):=by
 intro z0 s σ H xs us Q I r h;obtain⟨z,rfl,hz,q⟩:=h;obtain⟨u,rfl,t,rfl⟩:=vals1 r;have hn:=gP;exact len_str (by lia) ⟨.int z.length,H,I.tok _,⟨_,rfl⟩,q⟩
theorem bj.or{f:Value}{r r':List V->Hp->VK->Prop}(h:bj X f r)(h':bj X f r'):bj X f (λxs H Q=>r xs H Q\/r' xs H Q):=by
 intro z0 s σ H xs us Q I rs q;rcases q with q | q
 .exact h z0 s σ H xs us Q I rs q
 .exact h' z0 s σ H xs us Q I rs q
theorem jP:bj X (.type "list") (λxs H Q=>∃ p ys,xs=[.ref p]/\(dF X.K H p ys\/dg X.K H p ys)/\∀ l,H l=none->Q (.ref l) (upd H l (.lst ys))):=by
 intro z0 s σ H xs us Q I r h;obtain⟨p,ys,rfl,hq,q⟩:=h;obtain⟨u,rfl,rx⟩:=vals1 r;cases rx;have fin:∀ (z7:List Value),Vals ys z7->ys.length<=sizeLine->∀ (h':Heap) (c':Nat),(∀ b o',s.heap.get? b=some o'->h'.get? b=some o') ->
   h'.get? s.heap.objs.size=some { cls:=.type "list", dict:=none,data:=.seq z7.toArray c',slots:=#[] }->EP X z0 σ Q (.ref s.heap.objs.size) { s with heap:=h' }:=λz7 r' hz h' c' kp e =>
  ⟨.ref s.heap.objs.size,_,I.laid (t':=s.toks) kp (Cs _) (show aP X.prog X.w _ h' _ (.lst ys) from ⟨hz,z7,c',r',e⟩),rfl,q _ (I.aJ.fresh (Cs _))⟩
 rcases hq with hq | hq
 .obtain⟨z7,r',pl,hz⟩:=I.list hq;have hlen:=r'.length;obtain⟨o,ho,hc,n,hd⟩:=pl.isList;exact call_list_seq p (.inl rfl) ho hc hd (λh' c' kp e=>fin z7 r' hz h' c' kp e) (by simp only[Ct] <;> lia)
 .obtain⟨z7,r',pl,hz⟩:=I.tuple hq;have hlen:=r'.length;obtain⟨o,ho,hc,n,hd⟩:=pl;exact call_list_seq p (.inr rfl) ho hc hd (λh' c' kp e=>fin z7 r' hz h' c' kp e) (by simp only[Ct] <;> lia)
theorem iD:bj X (.type "tuple") (λxs H Q=>∃ p ys,xs=[.ref p]/\((dF X.K H p ys/\∀ l,H l=none->Q (.ref l) (upd H l (.tup ys)))\/(dg X.K H p ys/\Q (.ref p) H))):=by
 intro z0 s σ H xs us Q I r h;obtain⟨p,ys,rfl,h⟩:=h;obtain⟨u,rfl,rx⟩:=vals1 r;cases rx;rcases h with ⟨hq,q⟩ | ⟨hq,q⟩
 .obtain⟨z7,r',pl,hz⟩:=I.list hq;have hlen:=r'.length;refine call_tuple_list pl.isList (λh' kp=>?_) (by simp only[Ct] <;> lia);have I1:Inv X z0 σ H { s with heap:=h' }:=I.kept (t':=s.toks) kp;have I2:Inv X z0 σ (upd H h'.objs.size (.tup ys)) { s with heap:=h'.push { cls:=.type "tuple", data:=.seq z7.toArray } } :=
   I1.laid (t':=s.toks) (λb o e=>Cm _ e) (Cs _) (show aP X.prog X.w _ _ _ (.tup ys) from ⟨hz,z7,r',F8 _ _⟩)
  exact⟨.ref h'.objs.size,_,I2,rfl,q _ (I1.aJ.fresh (Cs _))⟩
 .obtain⟨z7,r',pl,hz⟩:=I.tuple hq;exact call_tuple_same pl ⟨.ref p,H,I,rfl,q⟩
def zl(K:PySem.W.Frag)(T:String)(x:V)(H:Hp):Prop:=match x with
 | .str _=>T = "str"
 | .int _=>T = "int"
 | .ref p=>(T = "list" /\ ∃ xs,dF K H p xs)\/(T = "tuple" /\ ∃ o,K.lookup p=some o/\o.cls=.type "tuple" /\ o.dict=none) ∨
   (T = "dict" /\ ((∃ Ar,H p=some (.dK Ar))\/∃ Ar,H p=some (.dT Ar)))\/(T = "set" /\ ∃ S n,H p=some (.set S n))
 | _=>False
theorem wF{T:String}{x:V}{v:Value}(I:Inv X z0 σ H s)(r:RelV x v)(ty:zl X.K T x H) :
  s.TypeIs v T/\∀ a,v=.ref a->∃ ob,s.heap.get? a=some ob/\ob.dict=none:=by
 cases x with
 | str z =>
  obtain⟨t,rfl⟩:=r;cases (show T = "str" from ty);exact⟨Er s z t,λ_ e=>nomatch e⟩
 | int i =>
  obtain⟨t,rfl⟩:=r;cases (show T = "int" from ty);exact⟨Fb s i t,λ_ e=>nomatch e⟩
 | ref p =>
  cases r;rcases ty with ⟨rfl,xs,hq⟩ | ⟨rfl,o,hk,hc,hd⟩ | ⟨rfl,hk⟩ | ⟨rfl,S,n,hk⟩
  .obtain⟨z7,_,pl,_⟩:=I.list hq;refine⟨pl.isList.typeIs,λa e=>?_⟩;cases e;obtain⟨o,n,e,c,hd,_⟩:=pl;exact⟨o,e,hd⟩
  .refine⟨⟨o,I.gx p o hk,hc⟩,λa e=>?_⟩;cases e;exact⟨o,I.gx _ o hk,hd⟩
  .have z:∃ o,s.heap.get? p=some o/\o.ExactDict:=by
    rcases hk with ⟨Ar,hk⟩ | ⟨Ar,hk⟩
    .obtain⟨_,_,_,_,o,_,_,e,ex,_⟩:=I.aJ p _ hk;exact⟨o,e,ex⟩
    .obtain⟨_,_,_,_,o,_,_,e,ex,_⟩:=I.aJ p _ hk;exact⟨o,e,ex⟩
   obtain⟨o,e,ex⟩:=z;refine⟨⟨o,e,ex.1⟩,λa e2=>?_⟩;cases e2;exact⟨o,e,ex.2.1⟩
  .obtain⟨o,_,_,_,e,ex,_⟩:=I.aJ p _ hk;refine⟨⟨o,e,ex.1⟩,λa e2=>?_⟩;cases e2;exact⟨o,e,ex.2.1⟩
 | _=>exact DX ty
def zu(K:PySem.W.Frag)(T:String)(r:V->List V->Hp->VK->Prop)(to:TE)(t:TA):TE:=fun σ H Q=>to σ H λx H1=>zl K T x H1/\t σ H1 λxs H2=>r x xs H2 Q
variable{o:Expr}{es:List Expr}{to:TE}{t:TA}{name:Str}{apos Ac:Pos}{T id:String}{r:V->List V->Hp->VK->Prop}
theorem ub(pa:PlainAttrs T)(slot:Slot T name id)(hty:typeOf (.builtin id)=pure (.type "method_descriptor"))(hm:xc X id r)(ho:PE X o to)(ha:PA X (e::es) t)
  (AW:autoParam (attributeBase o name X.env (eval o X.env)=eval o X.env) aR._auto_1)
  (Bi:autoParam (((backTo Ac (starEach (e::es) X.env)).all (λx=>!x.1)&&(backToKw Ac (keywordEach [] X.env)).all (λx=>x.1.isSome)
   && decide ((e::es).length+([]:List Keyword).length+(if ([]:List Keyword).isEmpty then 0 else 1)<30))=true) aR._auto_1)
  (AX:autoParam ((apos.endLine==Ac.line)=true) aR._auto_1) (hs:autoParam (starEach (e::es) X.env=(false,eval e X.env)::starEach es X.env) aR._auto_1) (AB:autoParam ((backTo Ac (starEach es X.env)).any (·.1)=false) aR._auto_1) :
  PE X (.Call (.Attribute o name apos) (e::es) [] Ac) (zu X.K T r to t):=by
 intro z0 s σ H Q I h;refine wpAny_Call_method_late AW Bi AX rfl (bM (ho z0 s σ H _ I h) λv s1 ⟨x,H1,I1,r1,ty,q1⟩=>?_);obtain⟨h1,h2⟩:=wF I1 r1 ty;refine⟨T,id,pa,slot,hty,h1,h2,?_⟩;have hA:=ha Ac z0 s1 σ H1 _ I1 q1;rw[hs] at hA ⊢;refine Calls.callWith_builtin (by show (false||(backTo Ac (starEach es X.env)).any (·.1))=false;rw[AB] <;> rfl) (Calls.evalArgs_plain ?_);exact bM hA λus s2 ⟨vs,H2,I2,r2,q2⟩=>hm z0 s2 σ H2 x vs v us Q I2 r1 r2 q2
end
def zF(X:Cx)(id:String)(r:V->List V->Hp->VK->Prop):Prop :=
 ∀ (z0:List (Addr×Obj)) (s:Shared) (σ:St) (H:Hp) (x:V) (xs:List V) (v:Value) (us:List Value) (Q:VK),Inv X z0 σ H s->RelV x v->Vals xs us->r x xs H Q ->
  wpAny (model X.prog X.w) X.A (call (.builtin id) (v::us)) (EP X z0 σ Q) X.xe s
theorem Vals.one:∀ {x:V} {us:List Value},Vals [x] us->∃ u,us=[u]/\RelV x u
 | _,_,.cons r .nil=>⟨_,rfl,r⟩
theorem Vals.rep{xs:List V}{us:List Value}(h:Vals xs us):∀ k:Nat,Vals (Cw k xs).flatten (Cw k us).flatten
 | 0=>.nil
 | k+1=>by
  rw[C7,C7,Dm,Dm];exact Vals.append h (Vals.rep h k)
theorem foldl_rep(z7:List Value):∀ (k:Nat) (acc:List Value),
  ET (λx1 x2=>x1++x2) acc.toArray (Cw k z7.toArray)=(acc++(Cw k z7).flatten).toArray
 | 0,acc=>by simp
 | k+1,acc=>by
  have e:acc.toArray++z7.toArray=(acc++z7).toArray:=by simp
  have e2:(acc++z7)++(Cw k z7).flatten=acc++(Cw (k+1) z7).flatten:=by
   rw[C7,Dm,Ek]
  rw[<- e2,<- foldl_rep z7 k (acc++z7),<- e,C7,Gg]
variable{t':Nat}{z7:List Value}
section
variable{l b:Addr}{xs ys zs:List V}
theorem Inv.yF{its':List Value}{f:Array Value->Array Value}(I:Inv X z0 σ H s)(hH:H l=some (.lst xs))
  (e:s.heap.get? l=some { cls:=.type "list", data:=.seq z7.toArray n }) (hf:f z7.toArray=its'.toArray) (hv:Vals ys its') (hz:ys.length<=sizeLine) :
  Inv X z0 σ (upd H l (.lst ys)) { s with heap:=s.heap.update l (Obj.mapSeq f),toks:=t' }:=by
 have q:=PySem.IsL.update e f;rw[hf] at q;refine I.write (x:=l) (e:=l) (by rw[hH];exact trivial) (.inl rfl) (λb' u hb hu=>(Dq s.heap (Obj.mapSeq f) (Eh hb)).trans hu) ⟨_,q⟩ ?_;exact⟨hz,its',_,hv,q⟩
theorem Inv.xf(I:Inv X z0 σ H s)(hv:Vals ys z7)(hz:ys.length<=sizeLine) :
  Inv X z0 σ (upd H s.heap.objs.size (.lst ys)) { s with heap:=s.heap.push { cls:=.type "list", data:=.seq z7.toArray },toks:=t' } :=
 I.laid (λ_ _ q=>Cm _ q) (Cs _) ⟨hz,z7,0,hv,Cy _ rfl⟩
theorem Inv.fresh(I:Inv X z0 σ H s):H s.heap.objs.size=none:=I.aJ.fresh (Cs _)
theorem Inv.qK(I:Inv X z0 σ H s)(hH:H l=some (.lst xs)):xs.length<=sizeLine/\∃ (z7:List Value) (n:Nat),Vals xs z7/\xs.length=z7.length/\s.heap.get? l=some { cls:=.type "list", data:=.seq z7.toArray n }:=by
 obtain⟨z,z7,n,r,e⟩:=I.aJ l _ hH;exact⟨z,z7,n,r,r.length,e⟩
theorem qk(h:n<=sizeLine):D8 n=false:=by
 unfold D8;exact decide_eq_false (by lia)
end
def tF:V->List V->Hp->VK->Prop:=λx vs H Q=>∃ l xs y,x=.ref l/\vs=[y]/\H l=some (.lst xs)/\xs.length<sizeLine/\Q .bL (upd H l (.lst (xs++[y])))
theorem fK:zF X "list.append" tF:=by
 intro z0 s σ H x vs v us Q I rx rv h;obtain⟨l,xs,y,rfl,rfl,hH,hz,q⟩:=h;cases rx;obtain⟨u,rfl,ru⟩:=rv.one;obtain⟨z,z7,n,r,hl,e⟩:=I.qK hH;refine DP F.slot_list_append ⟨_,e,rfl⟩ F.entry_list_append (F.args_list_append_2 _ _) (PySem.list_append l z7.toArray n u (by rw[Ct];lia)) ⟨e,?_⟩;refine⟨.bL,_,I.yF (its':=z7++[u]) hH e (by simp) (r.append (.cons ru .nil)) ?_,rfl,q⟩;rw[CU,List.length_singleton];lia
def xg:R2:=λx y H Q=>∃ l b xs zs,x=.ref l/\y=.ref b/\H l=some (.lst xs)/\H b=some (.lst zs)/\xs.length+zs.length<=sizeLine/\∀ p,H p=none->Q (.ref p) (upd H p (.lst (xs++zs)))
theorem uS:cR X (binaryOp .Add) xg:=by
 intro z0 s σ H x y v u Q I rx ry h;obtain⟨l,b,xs,zs,rfl,rfl,hH,hB,hz,q⟩:=h;cases rx;cases ry;obtain⟨z,z7,n,r,hl,e⟩:=I.qK hH;obtain⟨z2,A2,n2,r2,Be,e2⟩:=I.qK hB;refine PySem.P.add_list e e2 ?_ (by rw[Ct,Ct];lia);have ea:z7.toArray++A2.toArray=(z7++A2).toArray:=by simp
 rw[ea];exact⟨.ref _,_,I.xf (t':=s.toks) (r.append r2) (by rw[CU];lia),rfl,q _ I.fresh⟩
def xB:R2:=λx y H Q=>∃ l k xs,x=.ref l/\y=.int k/\H l=some (.lst xs)/\-(2^63)<=k/\k<2^63/\xs.length*k.toNat<=sizeLine ∧
 ∀ p,H p=none->Q (.ref p) (upd H p (.lst (Cw k.toNat xs).flatten))
theorem len_rep(xs:List α)(k:Nat):(Cw k xs).flatten.length=k*xs.length:=by
 induction k with
 | zero=>simp
 | succ k ih=>rw[C7,Dm,CU,ih,Nat.succ_mul,Nat.add_comm]
theorem uB:cR X (binaryOp .Mult) xB:=by
 intro z0 s σ H x y v u Q I rx ry h;obtain⟨l,k,xs,rfl,rfl,hH,h1,h2,hz,q⟩:=h;cases rx;obtain⟨t,rfl⟩:=ry;obtain⟨z,z7,n,r,hl,e⟩:=I.qK hH;have hlen:z7.toArray.size*k.toNat<=sizeLine:=by rw[Ct,<- hl];exact hz
 have hcap:¬ z7.toArray.size*k.toNat>(2^63-1)/8:=by
  have:(sizeLine:Nat)<=(2^63-1)/8:=by decide
  lia
 have hfit:¬ (!Builtin.List.listFitsIndex k)=true:=by
  rw[fitsIndex_both h1 h2];exact C4
 have B5:¬ D8 (z7.toArray.size*k.toNat)=true:=by
  rw[qk hlen];exact C4
 have A_:ET (λx1 x2=>x1++x2) #[] (Cw (if z7.toArray.isEmpty=true then 0 else k.toNat) z7.toArray)=(Cw k.toNat z7).flatten.toArray:=by
  have f0:∀ m:Nat,ET (λx1 x2=>x1++x2) #[] (Cw m z7.toArray)=(Cw m z7).flatten.toArray:=λm=>by
   have:=foldl_rep z7 m [];rw[Gh] at this;exact this
  rw[f0];cases z7 with
  | nil=>simp
  | cons a r'=>rw[if_neg (by simp)]
 refine EW (T := "list") (U := "int") (by decide) ⟨_,e,rfl⟩ (λs'=>Fb s' k t) noFill_list_mul F.fills_int_mul F.slot_int_rmul repeat_list F.slot_int_index.lookup
  (DP F.slot_int_rmul (Fb s k t) F.entry_int_rmul (F.args_int_rmul_2 _ _) (int___rmul___int_list k t l z7.toArray n)
   ⟨e,rfl,⟨_,e,rfl⟩,DP F.slot_list_mul ⟨_,e,rfl⟩ F.entry_list_mul (F.args_list_mul_2 _ _) (AutoListH.list___mul___list_int_3 l z7.toArray n k t hfit hcap B5) ⟨e,?_⟩⟩)
 rw[A_];exact⟨.ref _,_,I.xf (t':=s.toks) (r.rep k.toNat) (by rw[len_rep,F5];exact hz),rfl,q _ I.fresh⟩
variable{E:Value->Shared->Prop}{A:Around}{w:World}
section
variable{prog:Program}
end
section
variable{κ:Type}[DecidableEq κ]
end
variable{a:Addr}{P:Program}
section
variable{h:Heap}
end
variable{o:Option V}{u:Value}
section
variable{y v:V}{r:Value}
theorem Inv.big(I:Inv X z0 σ H s):sysModules<s.heap.objs.size:=by
 have h:mainGlobals<s.heap.objs.size:=(I.mod.glob.keeps I.bk).lt;exact Fc (by decide) h
end
variable{Ar:List (Key×V)}
section
variable{k:Key}
end
section
variable{o i value:Expr}{pos' tpos:Pos}{td ty tv:TE}
end
theorem oH(h:Heap)(hb:sysModules<h.objs.size):aP P w H (h.push { cls:=.type "dict", data:=.dict #[] }) h.objs.size (.dK []) :=
 ⟨DF _,beq_eq_false_iff_ne.mpr (Eh (CC hb)),[],.nil,Heap.DictOf.new h⟩
def v7:TE:=λ_ H Q=>∀ p,H p=none->Q (.ref p) (upd H p (.dK []))
theorem qD:PE X (.Dict [] [] pos) v7:=λz0 s σ H Q I h =>
 wpAny_Dict_empty ⟨.ref s.heap.objs.size,_,I.laid (a:=s.heap.objs.size) (o:=.dK []) (t':=s.toks) (λ_ _ q=>Cm _ q) (Cs _) (oH s.heap I.big),rfl,h _ (I.aJ.fresh (Cs _))⟩
section
variable{y d:V}{r:Value}
end
section
variable{o f:Expr}{apos Ac:Pos}{td ty tx:TE}
end
section
variable{y:V}
end
end L2
namespace Att
open PySem PySem.W PySem.Calls PyProof.Rows
variable{h:Heap}{P:Params}
theorem gG:∀ (ns:List Int) (vs:List Value),WellAll P h vs (ns.map WData.int)->IntsAre vs ns:=by
 intro ns
 induction ns with
 | nil =>
  intro vs w;rw[F6] at w;cases w;exact .nil
 | cons n ns ih =>
  intro vs w;rw[CZ] at w;cases w with
  | cons a b =>
   cases a;exact .cons _ _ (ih _ b)
theorem mQ{l:OpenLaw}{n:Nat}(hn:l.most=some n){args:List WData}{vals:List Value}
  (ny:l.row.toRowW.claim.pre args=true) (hwl:WellAll P h vals args) :
  ∃ a vs ns,vals=[CA a]/\args=[WData.list (ns.map WData.int)]/\h.get? a=some { cls:=.type "list", data:=.seq vs.toArray }/\IntsAre vs ns/\ns.length<=n:=by
 have hsh:WShape.hasAll [] args [.list .int]=true:=(pre_splitW ny).1;have hc:l.pre.holds [] { args:=args }=true:=(pre_splitW ny).2;obtain⟨d,r,rfl,h1,h2⟩:=hasAllW_cons hsh;obtain rfl:=hasAllW_nil h2;obtain⟨xs,rfl,h3⟩:=hasW_list h1;obtain⟨ns,rfl⟩:=items_int h3;have hlen:ns.length<=n:=by
  unfold OpenLaw.pre at hc;have h4:(WTm.not (.lt (.lit (.int (n:Int))) (.len (.arg 0)))).holds [] { args:=[.list (ns.map .int)] }=true:=by
   have h4:=(holds_andW hc).1;rw[hn] at h4;exact h4
  have h5:=condW_of h4 (w_not (w_lt w_lit (w_len_list (w_arg rfl))));rw[Cv] at h5;refine Nat.le_of_not_lt λq=>?_;have q':(n:Int)<((ns.length:Nat):Int):=by lia
  first
   | (rw[decide_eq_true q'] at h5;exact absurd h5 (by decide))
   | (simp at h5;lia)
 cases hwl with
 | cons w1 w2 =>
  cases w2;cases w1 with
  | list ho hall=>exact⟨_,_,ns,rfl,rfl,ho,gG ns _ hall,hlen⟩
theorem nu(l:OpenLaw)(args:List WData):l.row.toRowW.claim.post args (.bool true) args=true :=
 postW_of (r:=l.row.toRowW) (X:=(true==true))
  (show WShape.has [] (.bool true) .bool=true by first | rfl | decide | simp[WShape.has,WShape.arms,WShape.armsAll])
  (show (WTm.eq .res (.lit (.bool true))).value [] { args:=args,res:=some (.bool true),after:=args }=some (.bool (true==true)) from w_eq_bool (w_res rfl) w_lit) rfl
section
variable{prog:Program}{w:World}{A:Around}{E:Value->Shared->Prop}{s:Shared}{K:Frag}
end
end Att
namespace L2
open PySem PySem.Spec PyProof.Rows
theorem i_:∀ {vs:List Value} {ns:List Int},IntsAre vs ns->Vals (ns.map V.int) vs
 | _,_,.nil=>.nil
 | _,_,.cons n t h=>.cons ⟨t,rfl⟩ (i_ h)
def yk(H:Hp):Prop:=∀ b,H b=none\/∃ o xs,H b=some (.iK o (.lst xs))
variable{mg:Str->Option Value}{w:World}{P:Program}
theorem o8{K:PySem.W.Frag}{mb:Str->Option Value}{CX:wW}{k:Nat}{fa a:Addr}{fd:FuncData}{x:Str}{sp:Sp}{s₁:Shared}{vs:List Value}{ns:List Int}
  (KX:K.In s₁.heap) (hns:s₁.heap.Ns mainGlobals mg) (hb:s₁.heap.Ns builtinsNs mb) (hbb:∀ x:Str,x ≠ "__name__" -> mb x=bootBuiltins x) (hlim:s₁.heap.NoLimit) (hg:s₁.gens=#[])
  (ha:s₁.heap.get? a=some { cls:=.type "list", data:=.seq vs.toArray }) (hi:IntsAre vs ns) (hl:ns.length<=sizeLine) (hr:bW k callerA)
  (F:∀ base:Heap,K.In base->base.Ns mainGlobals mg->bK P w K mg base CX k fa fd [x] sp) (BZ:∀ (s:Shared) (u:Value),BindsTo s fd ⟨[u],[]⟩ [(x,u)])
  (hsp:∀ H:Hp,yk H->dF K H a (ns.map V.int)->sp [.ref a] H (λv _=>v=.bl true) λ_ _ _=>False)
  (hCX:∀ H e s',CX [] H s₁ (λ_ _ _=>False) e s'->False) :
  codeAny (model P w) callerA (.call (.ref fa) ⟨[.ref a],[]⟩) (λr s'=>r=.ok (.ret (.bool true))/\OldK s₁.heap s'.heap/\s'.os=s₁.os/\AllBare s'.gens) s₁:=by
 have rv:=i_ hi;have lenV:=hi.length;have core:∀ H:Hp,yk H->dF K H a (ns.map V.int)->fJ P w H s₁.heap->(∀ b,H b≠none->b=a)->(H a≠none->K.lookup a=none) ->
   codeAny (model P w) callerA (.call (.ref fa) ⟨[.ref a],[]⟩) (λr s'=>r=.ok (.ret (.bool true))/\OldK s₁.heap s'.heap/\s'.os=s₁.os/\AllBare s'.gens) s₁:=by
  intro H hO hS aJ hA hK;have A5:∀ {b:Addr} {o:Obj},s₁.heap.get? b=some o->H b=none->(jC s₁.heap H).get? b=some o:=λe n=>pM e n;have gL:∀ {b:Addr} {o:Obj} {es:Array DictEntry} {ep:Nat},s₁.heap.get? b=some o->o.data=.dict es ep->H b=none:=λ{b o es ep} e d=>by
   cases q:H b with
   | none=>rfl
   | some u =>
    have e':b=a:=hA b (by rw[q];simp);subst e';rw[ha] at e;cases e;have d':Data.seq vs.toArray _=Data.dict es ep:=d;cases d'
  have nsK:∀ {b:Addr} {m:Str->Option Value},s₁.heap.Ns b m->(jC s₁.heap H).Ns b m:=λ{b m} ⟨o,es,ep,e,d,r⟩=>⟨o,es,ep,A5 e (gL e d),d,r⟩
  have hKb:K.In (jC s₁.heap H):=λb o e=>A5 (KX b o e) (by
   cases q:H b with
   | none=>rfl
   | some u =>
    have e':b=a:=hA b (by rw[q];simp);subst e';rw[hK (by rw[q];simp)] at e;cases e)
  have hM:Mod K mg (jC s₁.heap H):=⟨hKb,nsK hns,⟨mb,nsK hb,hbb⟩,let ⟨mc,h1,h2⟩:=hlim;⟨mc,nsK h1,h2⟩⟩
  have e0:rB P w K mg (jC s₁.heap H) callerA [] s₁ H:=⟨rfl,hM,λb o e=>sQ e,Nat.le_of_eq (mV _ _),trivial,λb hb=>absurd (show b∈([]:List Addr) from hb) (by simp),aJ,.of_eq hg⟩
  refine Fd ((F _ hKb (nsK hns)).run callerA [] s₁ H ⟨[.ref a],[]⟩ [.ref a] [.ref a] _ _ hr e0 (BZ s₁ (.ref a)) (.cons rfl .nil) (hsp H hO hS)) λr s' h=>?_;cases r with
  | error e=>exact(hCX H e s' h).elim
  | ok fl =>
   cases fl with
   | next=>exact DX h
   | brk=>exact DX h
   | cont=>exact DX h
   | ret u =>
    obtain⟨v,H',os,bare,un,hok',r',q⟩:=h;have q':v=.bl true:=q;subst q';obtain rfl:u=DH true:=r';refine⟨rfl,OldK.of_keep λb o e=>?_,os,bare⟩;cases q:H b with
    | none=>exact un.keep b o e q (by intro z;exact absurd (show b∈([]:List Addr) from z) (by simp)) (by simp)
    | some u =>
     rcases hO b with z | ⟨ob,xs,z⟩
     .rw[q] at z;cases z
     .have z2:=un.dM b ob _ z;obtain⟨e1,_⟩:=aJ b _ z;obtain⟨e2,_⟩:=hok' b _ z2;rw[e] at e1;cases e1;exact e2
 cases hk:K.lookup a with
 | some o =>
  have e:=KX a o hk;rw[ha] at e;cases e;refine core (λ_=>none) (λ_=>.inl rfl) (.inr ⟨_,vs.toArray,_,hk,rfl,rfl,rfl,by rw[Ct,lenV];exact hl,by simpa using rv⟩) (λb u z=>by have z':(none:Option HO)=some u:=z;cases z') (λb z=>absurd rfl z) λz=>absurd rfl z
 | none =>
  refine core (λb=>if b=a then some (.iK { cls:=.type "list", data:=.seq vs.toArray } (.lst (ns.map V.int))) else none) (λb=>?_) (.inl (.inr ⟨{ cls:=.type "list", data:=.seq vs.toArray },if_pos rfl⟩)) (λb u z=>?_) (λb z=>?_) λ_=>hk
  .by_cases hb:b=a
   .exact .inr ⟨_,_,if_pos hb⟩
   .exact .inl (if_neg hb)
  .by_cases hb:b=a
   .have z':=(if_pos hb).symm.trans z;cases z';subst hb;exact⟨ha,by rw[Cv];exact hl,vs,_,rv,ha⟩
   .have z':=(if_neg hb).symm.trans z;cases z'
  .by_cases hb:b=a
   .exact hb
   .exact absurd (if_neg hb) z
def inClass(s:Stmt)(j:Nat):Stmt:=match s with
 | .ClassDef _ _ _ body _ _ _ _ _ _ _=>body.getD j (.Pass ⟨0,0,0,0⟩)
 | _=>.Pass ⟨0,0,0,0⟩
def d_(s:Stmt):Arguments:=match s with
 | .FunctionDef _ a _ _ _ _ _ _ _ _=>a
 | _=>{ posonlyargs:=[],args:=[],vararg:=none,kwonlyargs:=[],kw_defaults:=[],kwarg:=none,defaults:=[] }
def cU(s:Stmt):List Stmt:=match s with
 | .FunctionDef _ _ b _ _ _ _ _ _ _=>b
 | _=>[]
def aS(s:Stmt):Scope:=match s with
 | .FunctionDef _ _ _ _ _ _ sc _ _ _=>sc
 | _=>{ kind:=.function,names:=[],isGenerator:=false,isCoroutine:=false }
section
variable{K:PySem.W.Frag}{base:Heap}
end
theorem jg{n:Nat}(h:n<=1000):n<sizeLine:=Nat.lt_of_le_of_lt h (by decide)
section
variable{X:Cx}
end
def aO(H H':Hp):Prop:=∀ b o,H b=some o->H' b=some o
end L2
section
namespace HD
open PySem PySem.W L2
abbrev pw:Program:=PySem.Challenge.pw_dialvault_k15_numbers_as_texts
noncomputable section
noncomputable def st(s:String)(t:Nat):Value:=.str (Cn s) t
def en(P:Params)(s:String)(t:Nat)(v:Value):DictEntry:=⟨PyData.keyHash P (Cn s),st s t,v⟩
def tu(xs:List Value):Obj:=⟨.type "tuple", none,.seq ⟨xs⟩ 0,⟨[]⟩⟩
def di(n:Nat)(es:List DictEntry):Obj:=⟨.type "dict", none,.dict ⟨es⟩ n,⟨[]⟩⟩
def tp(i:Nat):Stmt:=pw.main.body.getD i (.Pass ⟨0,0,0,0⟩)
def mp(i j:Nat):Stmt:=inClass (tp i) j
def co(a b:String)(t:Nat)(l n:Int)(x1 x2 x3 x4 x5:Nat)(u:Nat):Obj:=⟨.type "code", none,.fields ⟨[st a t,st b (t+1),st "/claim/cut.py" (t+2),.int l 0,.int n 0,.int 0 0,.int 0 0,.int 3 0,.ref x1,.bool true,.int 181 0,.ref x2,.none,.ref x3,.ref x4,.ref x5,.int u 0,.int l 0,st "/claim/cut.py" (u+1)]⟩,⟨[]⟩⟩
def ft(a b:String)(s:Stmt):Obj:=⟨.none,none,.func ⟨Cn a,Cn b,d_ s,.stmts (cU s),aS s,0,[],.none,.none,.none,.none,none,.none,.none,0⟩,⟨[]⟩⟩
def fo(a b:String)(s:Stmt)(df pm:Value)(cd:Nat):Obj:=⟨.type "function", none,.func ⟨Cn a,Cn b,d_ s,.stmts (cU s),aS s,3,[],df,.none,.none,pm,none,.ref cd,.none,0⟩,⟨[]⟩⟩
def wk:List Obj->List Obj
 | []=>[]
 | [a]=>[a]
 | a::_::r=>a::wk r
def bt:Nat->List Obj->BT
 | 0,_=>.nil
 | _+1,[]=>.nil
 | n+1,a::r=>.node a (bt n (wk r)) (bt n (wk (r.drop 1)))
def S(L:Params->List Obj)(n k:Nat)(w:World)(os:OsState):SharedT:=⟨bt 14 (L w.params),n,{},⟨[]⟩,⟨0,0,0,0⟩,k,os⟩
def F(L:Params->List Obj)(k:Nat)(w:World)(os:OsState):Shared:=⟨⟨⟨L w.params⟩,{}⟩,⟨[]⟩,⟨0,0,0,0⟩,k,os⟩
def cc(a:String)(t:Nat)(l:Int)(x y u:Nat):Obj:=⟨.type "code", none,.fields ⟨[st a t,st a (t+1),st "/claim/cut.py" (t+2),.int l 0,.int 0 0,.int 0 0,.int 0 0,.int 0 0,.ref x,.bool false,.int 181 0,.ref y,.none,.none,.none,.none,.int u 0,.int l 0,st "/claim/cut.py" (u+1)]⟩,⟨[]⟩⟩
def fr(a b:Nat)(s:String)(t:Nat):Obj:=⟨.type "frame", none,.plain,⟨[some (.ref a),some (.ref 3),some (.ref b),none,some (st s t),none,some (.ref 0)]⟩⟩
def su(a:Nat):Obj:=⟨.type "super", none,.fields ⟨[.ref a,.ref a,.ref a]⟩,⟨[]⟩⟩
def ii(a:Nat):Obj:=⟨.type "builtin_function_or_method", none,.fields ⟨[.builtin "object.__init_subclass__", .ref a]⟩,⟨[]⟩⟩
def zo:List Nat->List Value
 | a::b::c::r=>.int a 0::.int b 0::.ref c::zo r
 | _=>[]
def fi(xs:List Nat):Obj:=⟨.none,none,.fields ⟨zo xs⟩,⟨[]⟩⟩
def cl(n:Str)(bs ms:List Value)(k:Nat)(ss:List Value)(sl:List (Option Value)):Obj:=⟨.type "type", none,.cls ⟨n,bs,ms,k,n,true,[],ss,false,none,false⟩,⟨sl⟩⟩
def pt(L:List Obj)(us:List (Nat×Obj))(ns:List Obj):List Obj:=us.foldl (λl u=>l.set u.1 u.2) L++ns
abbrev b0:=boot_o_0
abbrev b1:=boot_o_1
abbrev b2:=boot_o_2
abbrev b3:=boot_o_3
abbrev b4:=boot_o_4
abbrev b5:=boot_o_5
abbrev b6:=boot_o_6
abbrev b7:=boot_o_7
abbrev b8:=boot_o_8
abbrev b9:=boot_o_9
abbrev zB:=boot_o_10
def m0:Value:=st "dialvault.errors" 187
def m1:Value:=st "dialvault.texts" 283
def m2:Value:=st "law_dialvault_k15_numbers_as_texts" 322
def nl:List String->Nat->List Value
 | [],_=>[]
 | x::r,t=>st x t::nl r (t+1)
def fA(P:Params)(a t:Nat)(x q:String)(s:Stmt)(l n:Int)(vs:List String)(df pm:Value):List Obj:=[b7 P,b8 P,tu (nl vs (t+3)),b7 P,ft x q s,co x q t l n a (a+1) (a+2) (a+3) (a+4) (t+3+vs.length),fo x q s df pm (a+5)]
def fT(P:Params)(a t:Nat)(x:String)(s:Stmt)(l n:Int)(vs:List String)(pm:Value):List Obj:=fA P a t x x s l n vs .none pm
def fB(P:Params)(a t:Nat)(x q:String)(s:Stmt)(l n:Int)(df pm:Value):List Obj:=[b7 P,b8 P,ft x q s,⟨.type "code", none,.fields ⟨[st x t,st q (t+1),st "/claim/cut.py" (t+2),.int l 0,.int n 0,.int 0 0,.int 0 0,.int 3 0,.ref a,.bool true,.int 181 0,.ref (a+1),.none,.none,.none,.ref (a+2),.int (t+3) 0,.int l 0,st "/claim/cut.py" (t+4)]⟩,⟨[]⟩⟩,fo x q s df pm (a+3)]
def dB(P:Params)(n t:Nat)(m:Value)(l:Int)(r:List DictEntry):Obj:=di n (en P "__module__" t m::en P "__firstlineno__" (t+4) (.int l (t+3))::r)
def dA(P:Params)(n t:Nat)(m:Value)(x:String)(l:Int)(r:List DictEntry):Obj:=di n (en P "__module__" t m::en P "__qualname__" (t+2) (st x (t+1))::en P "__firstlineno__" (t+4) (.int l (t+3))::r)
def gw(t a:Nat):Obj:=⟨.type "getset_descriptor", none,.fields ⟨[st "__weakref__" t,.ref a,.builtin "ExceptionGroup.__weakref__", .none]⟩,⟨[]⟩⟩
def ce(x:String)(b a k:Nat)(ss:List Value)(d t u:Nat):Obj:=cl x [.ref b] [.ref a,.ref b,.type "ValueError", .type "Exception", .type "BaseException", .type "object"] k ss [some (.ref d),none,some (st x t),some (st x u),some (.builtin "ValueError.__new__"),some (.bool true)]
def gl P:=[en P "__doc__" 166 .none,en P "__package__" 167 .none,en P "__loader__" 168 (.builtin "__main__.__loader__#opaque"),en P "__spec__" 169 .none,en P "__annotations__" 170 (.ref 6),en P "__builtins__" 171 (.ref 4),en P "__file__" 173 (st "/claim/cut.py" 172),en P "__cached__" 174 .none,en P "VaultError" 213 (.ref 31),en P "NoNumber" 236 (.ref 51),en P "NoSetting" 259 (.ref 70),en P "NoText" 282 (.ref 89),en P "FIGURES" 286 (st "0123456789" 285),en P "MOST_FIGURES" 288 (.int 30 287),en P "show_numbers" 294 (.ref 96),en P "is_figures" 300 (.ref 101),en P "read_number" 308 (.ref 108),en P "read_numbers" 314 (.ref 113),en P "need_text" 321 (.ref 120),en P "_law_cell" 332 (.ref 127),en P "_law_mix" 341 (.ref 134),en P "_law_same" 351 (.ref 141),en P "_law_number" 361 (.ref 148),en P "_law_sign" 369 (.ref 155),en P "_law_spoiled" 380 (.ref 162),en P "_law_number_in" 386 (.ref 167),en P "_law_due" 392 (.ref 172),en P "_law_read_right" 403 (.ref 179),en P "law" 409 (.ref 184)]
def LA(P:Params):List Obj:=[b0 P,b1 P,b2 P,b3 P,b4 P,b5 P,b6 P,b7 P,b8 P,b9 P,zB P,b7 P,b8 P,cc "<module>" 182 1 11 12 185,fr 13 3 "__main__" 164]
def o5:Obj:=⟨.type "builtin_function_or_method", none,(.fields ⟨[.builtin "type.__prepare__", .type "type"]⟩),⟨[]⟩⟩
def zJ:Obj:=gw 209 31
def yI:=tu [.ref 31]
def L0 P:=pt (LA P) [(3,di 30 (en P "__name__" 165 m2::gl P)),(12,fi [2,0,20,6,0,40,10,0,59,14,0,78,21,0,95,23,0,100,27,0,107,32,0,112,37,0,119,41,0,126,48,0,133,52,0,140,67,0,147,75,0,154,79,0,161,92,0,166,101,0,171,108,0,178,118,0,183])] ([tu [.type "ValueError"],o5,dA P 5 196 m0 "VaultError" 2 [en P "word" 207 (.ref 28),en P "__static_attributes__" 208 (.ref 29)],b7 P,fi [4,4,27],cc "VaultError" 191 2 18 19 194,fr 20 17 "dialvault.errors" 187]++(fA P 22 201 "word" "VaultError.word" (mp 1 0) 4 1 ["self"] .none m0++([b7 P,dB P 3 196 m0 2 [en P "word" 207 (.ref 28),en P "__static_attributes__" 208 (.ref 29),en P "__weakref__" 210 (.ref 32),en P "__doc__" 211 .none],cl "VaultError" [.type "ValueError"] [.ref 31,.type "ValueError", .type "Exception", .type "BaseException", .type "object"] 30 [.ref 51,.ref 70,.ref 89] [some (.ref 15),none,some (st "VaultError" 189),some (st "VaultError" 197),some (.builtin "ValueError.__new__"),some (.bool true)],zJ,su 31,ii 31,yI,o5,dA P 5 221 m0 "NoNumber" 6 [en P "word" 232 (.ref 48),en P "__static_attributes__" 233 (.ref 49)],b7 P,fi [8,4,47],cc "NoNumber" 216 6 38 39 219,fr 40 37 "dialvault.errors" 187]++(fA P 42 226 "word" "NoNumber.word" (mp 2 0) 8 1 ["self"] .none m0++([b7 P,dB P 2 221 m0 6 [en P "word" 232 (.ref 48),en P "__static_attributes__" 233 (.ref 49),en P "__doc__" 234 .none],ce "NoNumber" 31 51 50 [] 35 214 222,su 51,ii 51,yI,o5,dA P 5 244 m0 "NoSetting" 10 [en P "word" 255 (.ref 67),en P "__static_attributes__" 256 (.ref 68)],b7 P,fi [12,4,66],cc "NoSetting" 239 10 57 58 242,fr 59 56 "dialvault.errors" 187]++(fA P 61 249 "word" "NoSetting.word" (mp 3 0) 12 1 ["self"] .none m0++([b7 P,dB P 2 244 m0 10 [en P "word" 255 (.ref 67),en P "__static_attributes__" 256 (.ref 68),en P "__doc__" 257 .none],ce "NoSetting" 31 70 69 [] 54 237 245,su 70,ii 70,yI,o5,dA P 5 267 m0 "NoText" 14 [en P "word" 278 (.ref 86),en P "__static_attributes__" 279 (.ref 87)],b7 P,fi [16,4,85],cc "NoText" 262 14 76 77 265,fr 78 75 "dialvault.errors" 187]++(fA P 80 272 "word" "NoText.word" (mp 4 0) 16 1 ["self"] .none m0++([b7 P,dB P 2 267 m0 14 [en P "word" 278 (.ref 86),en P "__static_attributes__" 279 (.ref 87),en P "__doc__" 280 .none],ce "NoText" 31 89 88 [] 73 260 268,su 89,ii 89]++(fB P 92 289 "show_numbers" "show_numbers" (tp 8) 21 1 .none m1++(fB P 97 295 "is_figures" "is_figures" (tp 9) 23 1 .none m1++(fT P 102 301 "read_number" (tp 10) 27 1 ["text", "figures"] m1++(fB P 109 309 "read_numbers" "read_numbers" (tp 11) 32 1 .none m1++(fT P 114 315 "need_text" (tp 12) 37 1 ["thing"] m1++(fT P 121 324 "_law_cell" (tp 14) 41 2 ["_law_script", "_law_k", "_law_number_here"] m2++(fT P 128 333 "_law_mix" (tp 15) 48 2 ["_law_cell_here", "_law_k", "_law_number_here"] m2++(fT P 135 342 "_law_same" (tp 16) 52 2 ["_law_found", "_law_due_here", "_law_one", "_law_other"] m2++(fT P 142 352 "_law_number" (tp 17) 67 2 ["_law_cell_here", "_law_k", "_law_number_here", "_law_far"] m2++(fT P 149 362 "_law_sign" (tp 18) 75 1 ["_law_number_here", "_law_some"] m2++(fT P 156 370 "_law_spoiled" (tp 19) 79 2 ["_law_text", "_law_cell_here", "_law_at", "_law_way", "_law_odd"] m2++(fB P 163 381 "_law_number_in" "_law_number_in" (tp 20) 92 1 .none m2++(fB P 168 387 "_law_due" "_law_due" (tp 21) 101 1 .none m2++(fT P 173 393 "_law_read_right" (tp 22) 108 2 ["_law_thing", "_law_due_here", "_law_found", "_law_caught", "e"] m2++(fB P 180 404 "law" "law" (tp 23) 118 1 .none m2))))))))))))))))))))))))
def LF(P:Params):=L0 P
def bE:List Stmt:=behindTheImports pw
def env:Env:={ scope:=pw.main.scope,locals:=mainNs,globals:=mainNs,cells:=[],code:=.ref 13,frame:=some 14 }
def cE:Code:=.body bE env
abbrev B:List Frame:=[topFrame ⟨0,0,0,0⟩]
abbrev ann:Option Value:=(some (.ref 6))
def ur:List Stmt:=(bE.drop 0).take 24
end
theorem ny:∀ w:World,(λos=>topGo treeTable pw w 11 ann 12 ⟨boot_heap w.params,⟨[]⟩,boot_drawn,boot_toks,os⟩ (topStub pw))=λos=>some (F LA 187 w os,⟨denote treeTable cE,cE,⟨0,0,0,0⟩,B⟩):=λw=>by
 rw[PySem.W.Fast.te15667345088766844465,PySem.W.Fast.te14364793385576792824,PySem.W.Fast.te11892475500146522536]
 kernel_rfl
theorem y3:∀ w:World,(λos=>segRun treeTable pw w 11 ann 1 1 (F LA 187 w os) (blockOf bE env cE ⟨0,0,0,0⟩ B))=λos=>some (Flow.next,(S LA 15 187 w os).abs,cE,⟨0,0,0,0⟩):=λw=>by
 rw[PySem.W.Fast.te14374325043358763698,PySem.W.Fast.te14364793385576792824]
 kernel_rfl
theorem zU:∀ w:World,(λos=>segRunT treeTable pw w 11 ann 1 1428 (S LA 15 187 w os) (piecesOf ur env cE ⟨0,0,0,0⟩ B))=λos=>some (Flow.next,S L0 185 410 w os,cE,⟨118,0,135,99⟩):=λw=>by
 rw[PySem.W.Fast.te10110043849684766642,PySem.W.Fast.te14364793385576792824]
 kernel_rfl
theorem qc:∀ w:World,(λos=>topRun treeTable pw w 11 ann 2 (S L0 185 410 w os).abs ⟨doneF .next,cE,⟨118,0,135,99⟩,B⟩)=λos=>some (F LF 410 w os):=λw=>by
 rw[PySem.W.Fast.te14082659384304107361,PySem.W.Fast.te14364793385576792824]
 kernel_rfl
theorem zr:bE=(ur++[]):=by kernel_rfl
theorem w4(w:World)(os:OsState):topRun treeTable pw w 11 ann (1428+2) (S LA 15 187 w os).abs (restOf bE env cE ⟨0,0,0,0⟩ B)=some (F LF 410 w os):=by
 rw[show restOf bE env cE ⟨0,0,0,0⟩ B=restOf (ur++[]) env cE ⟨0,0,0,0⟩ B from congrArg (λb=>restOf b env cE ⟨0,0,0,0⟩ B) zr];exact piece_app (segRun_of (congrFun (zU w) os)) (piece_nil (congrFun (qc w) os))
theorem yO(w:World)(os:OsState):topRun treeTable pw w 11 ann (12+(1+(1428+2))) ⟨boot_heap w.params,⟨[]⟩,boot_drawn,boot_toks,os⟩ (topStub pw)=some (F LF 410 w os) :=
 go_top (congrFun (ny w) os) (piece_block (congrFun (y3 w) os) (w4 w os))
end HD
end
section
namespace HD
open PySem PySem.W L2
noncomputable section
def vw:Program:=PySem.W.view pw [1,2,3,4,6,7,8,9,10,11,12,14,15,16,17,18,19,20,21,22,23]
def loose:List Str:=[]
noncomputable def as:List Addr:=[2,3,15,22,24,25,27,28,29,30,31,32,35,42,44,45,47,48,49,50,51,54,61,63,64,66,67,68,69,70,73,80,82,83,85,86,87,88,89,92,95,96,97,100,101,102,104,105,107,108,109,112,113,114,116,117,119,120,121,123,124,126,127,128,130,131,133,134,135,137,138,140,141,142,144,145,147,148,149,151,152,154,155,156,158,159,161,162,163,166,167,168,171,172,173,175,176,178,179,180,183,184]
def K(P:Params):Frag:=as.map λa=>(a,(LF P).getD a (su 0))
def hook:Hook:=kHook K as (λ_=>by kernel_rfl)
abbrev rr:RowW:=(PySem.Challenge.rw_dialvault_k15_numbers_as_texts.row).toRowW
def Xt:Shared->Bool:=λs=>xlAt vw [] s&&recOk (RowW.records rr) s
def H1(P:Params):Heap:=⟨⟨LF P⟩,{}⟩
end
theorem xV:∀ w:World,((boot_heap w.params).isNs mainGlobals&&(Array.mk []:Array GenState).size==0,(boot_heap w.params).objs.size,(boot_heap w.params).nsMap mainGlobals "__annotations__")=(true,11,ann):=λw=>by
 rw[PySem.W.Fast.te8920871248978507458]
 kernel_rfl
theorem zG(w:World):staticsOk (importedModules pw.main.body) (boot_heap w.params) (H1 w.params)=true:=by
 first | (rw[PySem.W.Fast.te4187177175401517315,PySem.W.Fast.te5923862056798008813];kernel_rfl) | (rw[PySem.W.Fast.te4187177175401517315];kernel_rfl) | (rw[PySem.W.Fast.te5923862056798008813];kernel_rfl) | (kernel_rfl)
theorem zw(w:World):namesBound pw (H1 w.params)=true:=by
 first | (rw[PySem.W.Fast.te4187177175401517315,PySem.W.Fast.te5923862056798008813];kernel_rfl) | (rw[PySem.W.Fast.te4187177175401517315];kernel_rfl) | (rw[PySem.W.Fast.te5923862056798008813];kernel_rfl) | (kernel_rfl)
theorem zt(w:World)(os:_):gensDone ⟨H1 w.params,⟨[]⟩,⟨0,0,0,0⟩,410,os⟩=true:=by
 first | (rw[PySem.W.Fast.te4187177175401517315,PySem.W.Fast.te5923862056798008813];kernel_rfl) | (rw[PySem.W.Fast.te4187177175401517315];kernel_rfl) | (rw[PySem.W.Fast.te5923862056798008813];kernel_rfl) | (kernel_rfl)
theorem zE(w:World):laidKept (boot_heap w.params) (H1 w.params)=true:=by
 first | (rw[PySem.W.Fast.te4187177175401517315,PySem.W.Fast.te5923862056798008813];kernel_rfl) | (rw[PySem.W.Fast.te4187177175401517315];kernel_rfl) | (rw[PySem.W.Fast.te5923862056798008813];kernel_rfl) | (kernel_rfl)
theorem zN(w:World)(os:_):openSeen vw loose (importedModules pw.main.body) Xt true ⟨H1 w.params,⟨[]⟩,⟨0,0,0,0⟩,410,os⟩=openGood vw loose:=by
 first | (rw[PySem.W.Fast.te4187177175401517315,PySem.W.Fast.te5923862056798008813];kernel_rfl) | (rw[PySem.W.Fast.te4187177175401517315];kernel_rfl) | (rw[PySem.W.Fast.te5923862056798008813];kernel_rfl) | (kernel_rfl)
theorem zS(w:World)(os:_):Hook.obs hook ⟨H1 w.params,⟨[]⟩,⟨0,0,0,0⟩,410,os⟩=Hook.val hook w:=by
 first | (rw[PySem.W.Fast.te4187177175401517315,PySem.W.Fast.te5923862056798008813];kernel_rfl) | (rw[PySem.W.Fast.te4187177175401517315];kernel_rfl) | (rw[PySem.W.Fast.te5923862056798008813];kernel_rfl) | (kernel_rfl)
theorem vS:∀ w:World,(λos=>((staticsOk (importedModules pw.main.body) (boot_heap w.params) (H1 w.params)&&namesBound pw (H1 w.params)&&gensDone ⟨H1 w.params,⟨[]⟩,⟨0,0,0,0⟩,410,os⟩&&laidKept (boot_heap w.params) (H1 w.params)),
  openSeen vw loose (importedModules pw.main.body) Xt true ⟨H1 w.params,⟨[]⟩,⟨0,0,0,0⟩,410,os⟩,Hook.obs hook ⟨H1 w.params,⟨[]⟩,⟨0,0,0,0⟩,410,os⟩))=λ_=>(true,openGood vw loose,Hook.val hook w):=λw=>funext λos=>by
 rw[zG,zw,zt,zE,zN,zS];rfl
theorem xy:LeftO pw vw loose Xt (Hook.obs hook) (Hook.val hook) 2980 :=
 LeftO.of_pieces (H₀:=boot_heap) (H₁:=H1) (gs₀:=⟨[]⟩) (gs₁:=⟨[]⟩) (d₀:=boot_drawn) (d₁:=⟨0,0,0,0⟩) (k₀:=boot_toks) (k₁:=410) (m₀:=11) (ann:=ann) (M:=(12+(1+(1428+2))))
  (boot_open (by kernel_rfl) (by kernel_rfl) (λs=>by kernel_rfl)) xV yO (by kernel_rfl) vS
end HD
end
section
open PySem PySem.W
theorem HD.said:PySem.Challenge.rw_dialvault_k15_numbers_as_texts.wellSaid=true:=by
 decide +kernel
end
namespace L2
open PySem PySem.Spec PyProof.Rows
variable{X:Cx}
variable{n:Nat}
def pd(_ j:Int):Prop:=j≠0/\j.natAbs.log2<9000
theorem qe:cR X (binaryOp .FloorDiv) (rI pd λi j=>.int (i.fdiv j)):=yr λ_ _ _ _ _ _ _ hc q=>floordiv_int hc.1 q (.inl (PyProof.noPylong_of_log2 hc.2))
theorem rK:cR X (binaryOp .Mult) (rI (λi j=>IntMulOk i j) λi j=>.int (i*j)):=yr λ_ _ _ _ _ _ _ hc q=>mul_int q hc
theorem oo{a b:Int}{m:Nat}(ha:a.natAbs<2^m)(hb:b.natAbs<2^n)(h:m+n<=134217728):IntMulOk a b:=IntMulOk.of_le (intBits_le_iff.mpr ha) (intBits_le_iff.mpr hb) h
theorem jW:bootBuiltins "isinstance" = some (.builtin "isinstance"):=by decide +kernel
theorem lh:bootBuiltins "int" = some (.type "int"):=by decide +kernel
theorem tq:bootBuiltins "bool" = some (.type "bool"):=by decide +kernel
theorem ie:bootBuiltins "tuple" = some (.type "tuple"):=by decide +kernel
theorem fx:bootBuiltins "list" = some (.type "list"):=by decide +kernel
theorem hV:bootBuiltins "str" = some (.type "str"):=by decide +kernel
def zb(K:PySem.W.Frag):List V->Hp->VK->Prop:=λxs H Q=>∃ x T t b,xs=[x,.ty T]/\dE K H x t/\PySem.W.kitOne K t (.type T)=some b/\Q (.bl b) H
def ze(K:PySem.W.Frag):List V->Hp->VK->Prop:=λxs H Q=>∃ x C t b,xs=[x,.ref C]/\dE K H x t/\PySem.W.kitOne K t (.ref C)=some b/\Q (.bl b) H
theorem qb:bj X (.builtin "isinstance") (zb X.K):=by
 intro z0 s σ H xs us Q I r h;obtain⟨x,T,t,b,rfl,ty,e,q⟩:=h;cases r with
 | cons r1 r2 =>
  cases r2 with
  | cons r3 r4 =>
   cases r4;cases (show _=DM T from r3);exact iU I r1 ty e λtk=>⟨.bl b,H,I.tok tk,rfl,q⟩
theorem o6:bj X (.builtin "isinstance") (ze X.K):=by
 intro z0 s σ H xs us Q I r h;obtain⟨x,C,t,b,rfl,ty,e,q⟩:=h;cases r with
 | cons r1 r2 =>
  cases r2 with
  | cons r3 r4 =>
   cases r4;cases (show _=CA C from r3);exact iU I r1 ty e λtk=>⟨.bl b,H,I.tok tk,rfl,q⟩
section
variable(K:PySem.W.Frag)
end
variable{o:HO}{a:Addr}{ch:List Addr}{t':Nat}{h':Heap}{s:Shared}{H:Hp}{σ:St}{z0:List (Addr×Obj)}
theorem Inv.nJ(I:Inv X z0 σ H s)(k:∀ b u,b ∉ ch->s.heap.get? b=some u->h'.get? b=some u)
  (AN:∀ b∈ch,eJ X z0 H b) (hp:s.heap.objs.size<=a) (hl:∀ b∈ch,∃ u,s.heap.get? b=some u) (new:aP X.prog X.w (upd H a o) h' a o):Inv X z0 σ (upd H a o) { s with heap:=h',toks:=t' }:=by
 have ne:∀ b u,s.heap.get? b=some u->b≠a:=λb u e=>CC (Cr (Cq e) hp);have A6:H a=none:=I.aJ.fresh hp;have Bo:∀ b u,H b=some u->b ∉ ch:=λb u e z=>by rw[(AN b z).1] at e;cases e
 have Bm:∀ b u,H b=some u->b≠a:=λb u e z=>by rw[z,A6] at e;cases e
 refine I.step (g':=s.gens) (d':=s.drawn) (ch:=ch) (λb hb=>?_) (λb u _ _ hc e _=>k b u hc e) (λb u _ _ hc e _=>⟨u.slots,k b u hc e⟩)
  (λb u _ e n=>by rw[ai (ne b u e)];exact n) (λb u hc e=>⟨u,k b u hc e⟩)
  (λb xs e=>by rw[ai (Bm b _ e)];exact e) (λb ob u e=>by rw[ai (Bm b _ e)];exact e) (λb ps e=>⟨#[],by rw[ai (Bm b _ e),e];simp⟩) (λm hm=>?_) (λb u e=>?_) I.bare
 .obtain⟨_,f1,_,f3,f4,f5⟩:=AN b hb;exact⟨f3,f1,f4,f5⟩
 .obtain⟨ob,es,ep,ho,r⟩:=hm;exact⟨ob,es,ep,k _ ob (λz=>(AN _ z).2.1 rfl) ho,r⟩
 .by_cases z:b=a
  .subst z;rw[au] at e;cases e;exact new
  .rw[ai z] at e;refine(I.aJ b u e).fD (λc v hc q=>k c v ?_ q) (λc q=>?_) λc ys q=>?_
   .rcases hc with z' | z'
    .rw[z'];exact Bo b u e
    .exact Bo c _ z'
   .rw[ai (Bm c _ q)];exact q
   .rw[ai (Bm c _ q)];exact q
variable{A:Around}{w:World}{prog:Program}
variable{pos:Pos}{scope:Scope}{ifs:List Expr}{elt iter:Expr}
section
variable{R:Result->Shared->Prop}
theorem mT{target:Expr}{it acc:Value}{env:Env}(I:Nat->Shared->Prop)
  (turn:∀ n s,I n s->wpAny (model prog w) A (pyNext it) (λr s₁=>match r with
   | none=>R (.ok .next) s₁
   | some v=>wpAny (model prog w) A (letOwnedTupleGo target it v) (λ_ s₂=>wpAny (model prog w) A (assign target env v) (λ_ s₃ =>
     wpAny (model prog w) A (forIn ifs true λc r=>if r=true then do let ok <- isTrue c env (eval c env);pure (EG ok) else pure (EG r)) (λok s₄ =>
      if ok=true then wpAny (model prog w) A (eval elt env) (λx s₅ =>
       wpAny (model prog w) A (call (.builtin "list.append") [acc,x]) (λ_ s₆=>∃ m,m<n/\I m s₆) (λ_ _=>False) s₅) (λ_ _=>False) s₄
      else ∃ m,m<n/\I m s₄) (λ_ _=>False) s₃) (λ_ _=>False) s₂) (λ_ _=>False) s₁) (λ_ _=>False) s)
  (n:Nat) (h:I n s) :
  codeAny (model prog w) A (.compLoop (.ListComp elt [⟨target,iter,ifs,0⟩] scope pos) 0 it acc env) R s:=by
 refine codeAny_loop rfl I (λn s hI=>?_) n h;show wpAny _ A ((compTurn (.ListComp elt [⟨target,iter,ifs,0⟩] scope pos) 0 it acc env).onRaise (λx=>do noteFrame x env;theTreesLotGoes x)) _ _ s;refine wpAny_noted ?_;rw[compTurn_list];refine Ck (D9 (Ck (CO (turn n s hI) (λr s₁ h₁=>?_) λ_ _ h'=>h'.elim)));cases r with
 | none=>exact Cp h₁
 | some v =>
  refine Ck (CO h₁ (λ_ s₂ h₂=>Ck (CO h₂ (λ_ s₃ h₃=>Ck (CO h₃ (λok s₄ h₄=>?_) λ_ _ h'=>h'.elim)) λ_ _ h'=>h'.elim)) λ_ _ h'=>h'.elim);cases ok with
  | false=>exact Cp ⟨rfl,h₄⟩
  | true =>
   exact Ck (Ck (CO h₄ (λx s₅ h₅=>Ck (CO h₅ (λ_ s₆ h₆=>Cp (Cp ⟨rfl,h₆⟩)) λ_ _ h'=>h'.elim)) λ_ _ h'=>h'.elim))
end
def gm(X:Cx)(scope:Scope)(cl:List (Str×Addr))(N:List Str)(C:Addr)(s₀:Shared)(H₀:Hp)(ex:List Addr)(z0:List (Addr×Obj)):Cx :=
 { X with N:=N,s₀:=s₀,H₀:=H₀,env:=compEnvC scope cl C X.env,outer:=X.stack,stack:=X.stack,ex:=ex,fn:=λ_=>false,pn:=X.pn++z0,xe:=λ_ _=>False }
inductive cA (X:Cx) (sc:Scope) (cl:List (Str×Addr)):List Str->List Nat->Prop where
 | nil:cA X sc cl [] []
 | cons {x:Str} {j:Nat} {c:Addr} {fs:List Str} {js:List Nat} (hN:X.N[j]?=some x) (hf:sc.names.lookup x=some .free) (hv:X.env.kindOf x=some .cell\/X.env.kindOf x=some .free) (hc:X.env.cells.lookup x=some c) (hl:cl.lookup x=some c) (r:cA X sc cl fs js):cA X sc cl (x::fs) (j::js)
inductive bJ (X:Cx):List (Str×Addr)->Prop where
 | nil:bJ X []
 | cons {x:Str} {c:Addr} {r:List (Str×Addr)} (h:X.env.cells.lookup x=some c) (t:bJ X r):bJ X ((x,c)::r)
theorem bJ.at{X:Cx}:∀ {cl:List (Str×Addr)},bJ X cl->∀ x c,cl.lookup x=some c->X.env.cells.lookup x=some c
 | _,.nil,_,_,e=>by simp at e
 | _,.cons (x:=y) (c:=d) h t,x,c,e=>by
  rw[C6] at e;cases q:x==y with
  | true =>
   rw[q] at e;have e':d=c:=CG e;have q':x=y:=by simpa using q
   rw[q',<- e'];exact h
  | false =>
   rw[q] at e;exact bJ.at t x c e
def cv(cl:List (Str×Addr))(names:List (Str×NameKind)):Bool:=names.all λy=>y.2 != .free||(cl.lookup y.1).isSome
def b_(names:List (Str×NameKind)):Bool:=names.all λy=>y.2 != .cell
def cw(names:List (Str×NameKind)):Bool:=names.all λy=>y.2 != .local||(names.lookup y.1==some .local)
def bh(ts:List Str)(js:List Nat)(σ:St):St:=ts.map (λ_=>none)++js.map λj=>(σ[j]?).join
def mm(wi:TI)(g:TG)(tt:Option TT)(te:TE)(ts:List Str)(js:List Nat):TE:=fun σ H Q=>wi σ H λJ H1=>∀ D,H1 D=none ->
 ∃ W:Nat->Nat->St->Hp->Prop,(∃ m,W 0 m (bh ts js σ) (upd H1 D (.lst [])))/\∀ i m σ' H',W i m σ' H' ->
  (J.stop i H'/\Q (.ref D) H')\/(J.go i H'/\∃ N:St->Hp->Prop,(∀ σ'' H'',N σ'' H''->∃ m',m'<m/\W (i+1) m' σ'' H'') ∧
   ∀ x H2,J.lK i H' x H2->g x σ' H2 fun σ2 H3=>match tt with
    | none=>te σ2 H3 λy H4=>∃ ys,H4 D=some (.lst ys)/\ys.length<sizeLine/\N σ2 (upd H4 D (.lst (ys++[y])))
    | some t=>t σ2 H3 λb BP=>if b=true then te σ2 BP λy H4=>∃ ys,H4 D=some (.lst ys)/\ys.length<sizeLine/\N σ2 (upd H4 D (.lst (ys++[y]))) else N σ2 BP)
variable{x:Str}{C:Addr}
theorem dH {cl : List (Str × Addr)} {env : Env} (h : (compEnvC scope cl C env).kindOf x = some .cell \/ (compEnvC scope cl C env).kindOf x = some .free) (nc : b_ scope.names = true) : scope.names.lookup x = some .free := by
  have key : ∀ (names : List (Str × NameKind)), b_ names = true ->
      ((names.map λ(n, k) => if (k == DS && env.scope.kind == .function && env.kindOf n == some .cell) then (n, E1) else (n, k)).lookup x = some .cell ∨
       (names.map λ(n, k) => if (k == DS && env.scope.kind == .function && env.kindOf n == some .cell) then (n, E1) else (n, k)).lookup x = some .free) -> names.lookup x = some .free := by
    intro names
    induction names with
    | nil => intro _ h; simp at h
    | cons p r ih =>
      obtain ⟨n, k⟩ := p;intro nc h;have nc' : (k != .cell) = true /\ b_ r = true := by
        unfold b_ at nc;rw [Ew, C5] at nc;exact nc
      rw [CZ] at h;dsimp only at h
      by_cases hc : (k == DS && env.scope.kind == .function && env.kindOf n == some .cell) = true
      . rw [if_pos hc] at h;rw [C6] at h ⊢;cases q : x == n with
        | true =>
          have : k = .free := by
            rw [C5, C5] at hc;simpa using hc.1.1
          rw [this]
        | false =>
          rw [q] at h;exact ih nc'.2 h
      . rw [if_neg hc] at h;rw [C6] at h ⊢;cases q : x == n with
        | true =>
          rw [q] at h;have nk : k ≠ .cell := by simpa using nc'.1
          rcases h with h | h
          . exact absurd (CG h) nk
          . exact h
        | false =>
          rw [q] at h;exact ih nc'.2 h
  exact key scope.names nc h
variable{js:List Nat}{ts:List Str}{te:TE}{tt:Option TT}{Ac:Pos}{tg:Expr}
theorem kq{cl:List (Str×Addr)}{wi:TI}{g:TG}{fs:List Str}(z9:X.calm=true)
  (Ab:closureFor scope X.env=pure cl) (hk:scope.kind=.function) (nc:b_ scope.names=true) (lo:cw scope.names=true) (fh:cv cl scope.names=true) (ag:bJ X cl) (fr:cA X scope cl fs js)
  (hi:PI X tg iter wi) (hg:∀ C s₀ H₀ ex z0,PG (gm X scope cl (ts++fs) C s₀ H₀ ex z0) tg g)
  (ht:∀ C s₀ H₀ ex z0,match ifs,tt with | [],none=>True | [c],some t=>PT (gm X scope cl (ts++fs) C s₀ H₀ ex z0) c t | _,_=>False)
  (he:∀ C s₀ H₀ ex z0,PE (gm X scope cl (ts++fs) C s₀ H₀ ex z0) elt te)
  (hs:∀ x,foldedSetIterable iter X.env x=pure x) {Q:VK} (I:Inv X z0 σ H s) (h:mm wi g tt te ts js σ H Q)
  (use:Option (Value->Sem Unit)) (Qv:Value->Shared->Prop)
  (qc:∀ (D:Addr) (H':Hp) (s':Shared) (C:Addr),Inv X z0 σ H' s'->Q (.ref D) H'->(∃ m,s'.heap.Ns C m)->eJ X z0 H' C->compPost (model X.prog X.w) X.A X.xe use Qv (.ref D) C (.ok .next) s') :
  wpAny (model X.prog X.w) X.A (comprehension (.ListComp elt [⟨tg,iter,ifs,0⟩] scope pos) scope X.env Ac (newList []) false (eval iter X.env) use) Qv X.xe s:=by
 have AM:∀ y∈scope.names,y.2≠.cell:=λy hy=>by
  have:=CD.mp nc y hy;simpa using this
 have A0:∀ y∈scope.names,y.2=.local->scope.names.lookup y.1=some .local:=λy hy hl=>by
  have:=CD.mp lo y hy;rw[hl] at this;simpa using this
 refine wpAny_comprehension_free (use:=use) rfl hs Ab hk A0 (bM (hi z0 s σ H _ I h) λv s1 h1=>bM h1 λitv s2 h2=>?_);obtain⟨it,fp,tn,J,H1,e,I2,T,Br,f2,hJ⟩:=h2;subst e;refine C8 (Fy AM (by intro y hy;simp at hy) (λh₁ hns1 hsb1=>?_) hk);dsimp only at hns1 hsb1 ⊢;generalize hH2:s2.heap.push { cls:=.type "list", dict:=none,data:=.seq ([]:List Value).toArray }=G at hns1 hsb1 ⊢;have hC:G.objs.size=s2.heap.objs.size+1:=by rw[<- hH2,Du]
 have old:∀ b o,s2.heap.get? b=some o->h₁.get? b=some o:=λb o e=>by
  have hb:=Cq e;refine hsb1.extBut b o (CC (Cr hb (DZ (by rw[hC];exact Dk _)))) (Cm _ ?_);rw[<- hH2];exact Cm _ e
 have BA:h₁.get? s2.heap.objs.size=some { cls:=.type "list", dict:=none,data:=.seq #[] }:=by
  refine hsb1.extBut _ _ (CC (by rw[hC];exact Dk _)) (Cm _ ?_);rw[<- hH2];exact Cy _ rfl
 have nD:H1 s2.heap.objs.size=none:=I2.aJ.fresh (Cs _);have nC:H1 G.objs.size=none:=I2.aJ.fresh (by lia);obtain⟨W,⟨m0,w0⟩,turn⟩:=hJ _ nD;have Bj:∀ b∈fp,b<s2.heap.objs.size:=λb hb=>by
  obtain⟨o,e,_⟩:=T.obj _ _ Br b hb;exact Cq e
 have Cf:∀ (x:Str) (c:Addr),cl.lookup x=some c->c<s2.heap.objs.size/\H1 c=none/\(∃ v,s2.heap.IsCell c v):=λx c e=>by
  have e':=ag.at x c e;obtain⟨v,q⟩:=I2.cell x c e';exact⟨q.lt,I2.cC x c e',v,q⟩
 let X':=gm X scope cl (ts++fs) G.objs.size s2 H1 fp z0
 have BH:X'.Ok:=by
  refine⟨I2.ok.mod,hk,I2.ok.glob,I2.ok.blt,by show s2.heap.objs.size<=G.objs.size;lia,λx y c e1 e2=>I2.ok.inj x y c (ag.at x c e1) (ag.at y c e2),λx hx=>?_,λx c hf _=>(nomatch (show (false:Bool)=true from hf)),I2.ok.hd,I2.ok.frames,.inl rfl,λb hb=>⟨?_,λx c e z=>?_⟩,λb o e=>I2.bs b o e,CN I2.ok.pH I2.sz,λb o e hb=>?_,λb hb hz=>?_,I2.stack,λb hb=>I2.eU b hb⟩
  .have AO:=dH (env:=X.env) hx nc;have hm:∃ y∈scope.names,y.1=x/\y.2=.free:=by
    have:∀ (l:List (Str×NameKind)),l.lookup x=some .free->∃ y∈l,y.1=x/\y.2=.free:=by
     intro l
     induction l with
     | nil=>intro h;simp at h
     | cons p r ih =>
      intro h;rw[C6] at h;cases q:x==p.1 with
      | true =>
       rw[q] at h;exact⟨p,Cz,(by simpa using q:x=p.1).symm,CG h⟩
      | false =>
       rw[q] at h;obtain⟨y,hy,r1,r2⟩:=ih h;exact⟨y,CB _ hy,r1,r2⟩
    exact this _ AO
   obtain⟨y,hy,r1,r2⟩:=hm;have:=CD.mp fh y hy;rw[r2] at this;have h':(cl.lookup y.1).isSome=true:=by simpa using this
   rw[r1] at h';exact DI.mp h'
  .exact CC (Cr (Bj b hb) (by show s2.heap.objs.size<=G.objs.size;lia))
  .exact(f2 b hb).2.2.2.2.1 x c (ag.at x c e) z
  .obtain⟨_,_,_,f3,_,_⟩:=f2 b hb;rcases f3 with z | z
   .exact I2.ok.iJ b o e z
   .exact absurd (Cr (Cq (I2.ok.bs b o e).1) z) (Ds _)
  .rcases CK.mp (I2.fZ b hz) with z | z
   .exact(f2 b hb).2.1 z
   .exact(f2 b hb).2.2.1 z
 have Ce:∀ b o,s2.heap.get? b=some o->h₁.get? b=some o:=old;have I3:Inv X' [] (bh ts js σ) (upd H1 s2.heap.objs.size (.lst [])) { s2 with heap:=h₁,toks:=s2.toks+([]:List (Str×Value)).length }:=by
  have neD:∀ b o,s2.heap.get? b=some o->b≠s2.heap.objs.size:=λb o e=>CC (Cq e);refine⟨BH,rfl,I2.bare,⟨λb o e n hb hx=>old b o e,λb o e n hb hx=>⟨o.slots,old b o e⟩,λb o e n hx=>by rw[ai (neD b o e)];exact n,λb o e hx=>⟨o,old b o e⟩,λb xs e=>?_,λb o u e=>?_,λb ps e=>?_⟩,⟨_,hns1,λi x v e1 e2 e3=>?_⟩,λx c e=>?_,?_,λx c e=>?_,λp hp=>?_,?_,?_⟩
  .rw[ai (aC e nD)];exact e
  .rw[ai (aC e nD)];exact e
  .exact⟨#[],by rw[ai (aC e nD)];exact CS e (by simp)⟩
  .
   have hlen:(ts.map (λ_=>(none:Option V))).length=ts.length:=Cv _;unfold bh at e2
   by_cases Am:i<ts.length
   .rw[CP (by rw[hlen];exact Am),CL] at e2;cases q:ts[i]? <;> rw[q] at e2 <;> cases e2
   .rw[CF (by rw[hlen];lia),hlen] at e2;have Bs:fs[i-ts.length]?=some x:=by
     have Bs:(ts++fs)[i]?=some x:=e1;rw[CF (by lia)] at Bs;exact Bs
    have all:∀ {fs:List Str} {js:List Nat},cA X scope cl fs js->∀ k:Nat,fs[k]?=some x->(js.map λj=>(σ[j]?).join)[k]?=some (some v) ->
      ∃ (j:Nat) (c:Addr),X.N[j]?=some x/\σ[j]?=some (some v)/\(X.env.kindOf x=some .cell\/X.env.kindOf x=some .free)/\X.env.cells.lookup x=some c/\cl.lookup x=some c/\scope.names.lookup x=some .free:=by
     intro fs js r
     induction r with
     | nil=>intro k e;simp at e
     | @cons y j c fs js hN hf hv hc hl r ih =>
      intro k e e';cases k with
      | zero =>
       have e0:y=x:=by simpa using e
       subst e0;have Bf:(σ[j]?).join=some v:=by simpa using e'
       refine⟨j,c,hN,?_,hv,hc,hl,hf⟩;cases q:σ[j]? with
       | none=>rw[q] at Bf;cases Bf
       | some z=>rw[q] at Bf;cases z with
        | none=>cases Bf
        | some z =>
         have:z=v:=by simpa using Bf
         rw[this]
      | succ k=>exact ih k (by simpa using e) (by simpa using e')
    obtain⟨j,c,q1,q2,q3,q4,q5,q6⟩:=all fr (i-ts.length) Bs e2;obtain⟨m,hn,hl⟩:=I2.loc;have vis:vY X.env.scope x:=by
     rcases q3 with z | z
     .exact .inr (.inl z)
     .exact .inr (.inr z)
    obtain⟨u,ru,lk⟩:=hl j x v q1 q2 vis;refine⟨u,ru,.inr ⟨?_,c,q5,?_⟩⟩
    .rcases e3 with z | z | z
     .exfalso;have key:∀ (l:List (Str×NameKind)),(l.map λ(n,k)=>if (k==DS&&X.env.scope.kind==.function&&X.env.kindOf n==some .cell) then (n,E1) else (n,k)).lookup x=some .local->l.lookup x=some .local:=by
       intro l
       induction l with
       | nil=>intro h;simp at h
       | cons p r ih =>
        obtain⟨n,k⟩:=p;intro h;rw[CZ] at h;dsimp only at h
        by_cases hc:(k==DS&&X.env.scope.kind==.function&&X.env.kindOf n==some .cell)=true
        .rw[if_pos hc] at h;rw[C6] at h ⊢;cases q:x==n with
         | true=>rw[q] at h;cases h
         | false=>rw[q] at h;exact ih h
        .rw[if_neg hc] at h;rw[C6] at h ⊢;cases q:x==n with
         | true=>rw[q] at h;exact h
         | false=>rw[q] at h;exact ih h
      have:=key _ z;rw[q6] at this;cases this
     .exact .inl z
     .exact .inr z
    .rcases lk with ⟨k,_⟩ | ⟨_,c',e4,z⟩
     .rcases q3 with z | z <;> rw[z] at k <;> cases k
     .rw[q4] at e4;cases e4;obtain⟨o,ho,hd⟩:=z;exact⟨o,old c o ho,hd⟩
  .obtain⟨_,_,v,o,ho,hd⟩:=Cf x c e;exact⟨v,o,old c o ho,hd⟩
  .show upd H1 s2.heap.objs.size (.lst []) G.objs.size=none;rw[ai (Ei (by rw[hC];exact Dk _))];exact nC
  .obtain⟨q1,q2,_⟩:=Cf x c e;rw[ai (CC q1)];exact q2
  .have hp':p∈X.pn++z0:=by
    have:p∈(X.pn++z0)++[]:=hp
    rwa [C1] at this
   obtain⟨e,n,ne,nf,d⟩:=I2.pin p hp';have Am:=Cq e;refine⟨old _ _ e,by rw[ai (CC Am)];exact n,?_,λhz=>?_,d⟩
   .show p.1≠G.objs.size;exact CC (Fc Am (by rw[hC];exact Dk _))
   .rcases CK.mp (I2.fZ _ hz) with z | z
    .exact ne z
    .exact nf z
  .exact I2.aJ.laid old (Cs _) ⟨DF _,[],0,.nil,BA⟩
  .show (bh ts js σ).length=(ts++fs).length;have frl:∀ {fs:List Str} {js:List Nat},cA X scope cl fs js->fs.length=js.length:=by
    intro fs js r
    induction r with
    | nil=>rfl
    | cons _ _ _ _ _ _ ih=>rw[C2,C2,ih]
   unfold bh;rw[CU,CU,Cv,Cv,frl fr]
 have AF:∀ {H':Hp},(∀ b∈fp,H' b=none)->∀ b∈fp,eJ X' [] H' b:=λ{H'} hn b hb=>by
  obtain⟨_,f1,f3,_,f4,f5⟩:=f2 b hb;refine⟨hn b hb,BH.wQ b hb |>.1,BH.jq b hb,.inl hb,λx c e=>f4 x c (ag.at x c e),λp hp=>f5 p ?_⟩;have:p∈(X.pn++z0)++[]:=hp
  rwa [C1] at this
 have fin:∀ {σ':St} {H':Hp} {s':Shared},Inv X' [] σ' H' s'->Q (.ref s2.heap.objs.size) H' ->
   compPost (model X.prog X.w) X.A X.xe use Qv (.ref s2.heap.objs.size) G.objs.size (.ok .next) s':=by
  intro σ' H' s' I4 q;obtain⟨m,hn,_⟩:=I4.loc;have fC:H' G.objs.size=none:=I4.free;have Io:Inv X z0 σ H' s':=by
   refine I2.i9 (s':=s') (ch:=fp) I4.os ⟨λb o e n hb hx=>?_,λb o e n hb hx=>?_,λb o e n hx=>I4.base.free b o e n hx,λb o e hx=>?_,I4.base.fV,I4.base.dM,I4.base.fM⟩ I4.aJ I4.bare λb hb=>?_
   .exact I4.base.keep b o e n hb hx
   .exact I4.base.slot b o e n hb hx
   .exact I4.base.there b o e hx
   .obtain⟨_,f1,_,f3,f4,f5⟩:=f2 b hb;exact⟨f3,f1,f4,f5⟩
  have BW:s2.heap.objs.size<=G.objs.size:=by rw[hC];exact Gd _
  exact qc _ H' s' _ Io q ⟨m,hn⟩ (I2.ka BW fC)
 have loop:∀ s3:Shared,s3={ s2 with heap:=h₁,toks:=s2.toks+([]:List (Str×Value)).length } ->
   codeAny (model X.prog X.w) X.A (.compLoop (.ListComp elt [⟨tg,iter,ifs,0⟩] scope pos) 0 (.ref it) (.ref s2.heap.objs.size) (compEnvC scope cl G.objs.size X.env))
    (compPost (model X.prog X.w) X.A X.xe use Qv (.ref s2.heap.objs.size) G.objs.size) s3:=by
  rintro s3 rfl;refine mT (λn s'=>∃ i σ' H',Inv X' [] σ' H' s'/\tn i s'.heap/\(∀ b∈fp,H' b=none)/\W i n σ' H') ?_ m0 ⟨0,_,_,I3,T.keep _ _ _ Br λb _ o e=>old b o e,λb hb=>?_,w0⟩
  .rintro n s3 ⟨i,σ3,H3,I3,st3,fr3,w3⟩;rcases turn i n σ3 H3 w3 with ⟨stop,qn⟩ | ⟨go,N,hN,step⟩
   .refine bM (T.done X' rfl rfl rfl z9 i [] s3 σ3 H3 _ I3 (AF fr3) st3 stop) λr s4 ⟨hr,I4⟩=>?_;subst hr;exact fin I4 qn
   .refine bM (T.item X' rfl rfl rfl z9 i [] s3 σ3 H3 _ I3 (AF fr3) st3 go) λr s4 ⟨u,hr,h4⟩=>?_;subst hr;refine bM h4 λ_ s5 ⟨x,H5,I5,r5,y5,st5,fr5⟩=>?_;have BR:=I5.pinned (AF fr5) (T.obj _ _ st5);refine bM (hg _ _ _ _ _ _ s5 σ3 H5 x u _ BR r5 (step x H5 y5)) λ_ s6 ⟨σ6,H6,I6,q6⟩=>?_;have again:∀ {σ7:St} {H7:Hp} {s7:Shared},Inv X' ([]++dQ fp s5.heap) σ7 H7 s7->N σ7 H7->∃ m,m<n/\∃ i σ' H',Inv X' [] σ' H' s7/\tn i s7.heap/\(∀ b∈fp,H' b=none)/\W i m σ' H':=λ{σ7 H7 s7} I7 n7=>by
     obtain⟨m',hm,w7⟩:=hN σ7 H7 n7;refine⟨m',hm,i+1,σ7,H7,I7.dW,T.keep _ _ _ st5 λb hb o e=>(I7.pin (b,o) (CH _ (CH _ (cp hb e)))).1,λb hb=>?_,w7⟩;obtain⟨o,e,d⟩:=T.obj _ _ st5 b hb;exact(I7.pin (b,o) (CH _ (CH _ (cp hb e)))).2.1
    have tail:∀ {H7:Hp} {s7:Shared},Inv X' ([]++dQ fp s5.heap) σ6 H7 s7->(te σ6 H7 λy H4=>∃ ys,H4 s2.heap.objs.size=some (.lst ys)/\ys.length<sizeLine/\N σ6 (upd H4 s2.heap.objs.size (.lst (ys++[y])))) ->
      wpAny (model X.prog X.w) X.A (eval elt (compEnvC scope cl G.objs.size X.env)) (λx s₅=>wpAny (model X.prog X.w) X.A (call (.builtin "list.append") [.ref s2.heap.objs.size,x])
       (λ_ s₆=>∃ m,m<n/\∃ i σ' H',Inv X' [] σ' H' s₆/\tn i s₆.heap/\(∀ b∈fp,H' b=none)/\W i m σ' H') (λ_ _=>False) s₅) (λ_ _=>False) s7:=by
     intro H7 s7 I7 q7;refine bM (he _ _ _ _ _ _ s7 σ6 H7 _ I7 q7) λuy s8 ⟨y,H8,I8,ry,ys,hy,hl,q8⟩=>?_;refine bM (fK (X:=X') _ s8 σ6 H8 (.ref s2.heap.objs.size) [y] (.ref s2.heap.objs.size) [uy] (λ_ H9=>N σ6 H9) I8 rfl (.cons ry .nil) ⟨_,ys,y,rfl,rfl,hy,hl,q8⟩) λ_ s9 ⟨_,H9,I9,_,q9⟩=>?_;exact again I9 q9
    cases ifs with
    | nil =>
     cases tt with
     | none=>exact wpAny_tests_nil (tail I6 q6)
     | some t=>exact(ht 0 s2 H1 [] []).elim
    | cons c r =>
     cases r with
     | nil =>
      cases tt with
      | none=>exact(ht 0 s2 H1 [] []).elim
      | some t =>
       refine wpAny_tests_one (bM (ht G.objs.size s2 H1 fp z0 _ s6 σ6 H6 _ I6 q6) λb s7 ⟨H7,I7,q7⟩=>?_);cases b with
       | true =>
        rw[if_pos rfl] at q7 ⊢;exact tail I7 q7
       | false =>
        rw[if_neg C4] at q7 ⊢;exact again I7 q7
     | cons _ _=>cases tt <;> exact(ht 0 s2 H1 [] []).elim
  .rw[ai (CC (Bj b hb))];exact(f2 b hb).1
 exact Fe (loop _ rfl) (T.self _ 0 _ _ _ (T.keep _ _ _ Br λb _ o e=>old b o e) (loop _ rfl))
theorem Inv.other(I:Inv X z0 σ H s)(f:eJ X z0 H C)(hs:D0 C s.heap h'):Inv X z0 σ H { s with heap:=h' }:=by
 obtain⟨f0,f1,_,f3,f4,f5⟩:=f;refine I.i9 (s':={ s with heap:=h' }) (ch:=[C]) rfl ⟨λb o e n hb hx=>?_,λb o e n hb hx=>?_,λb o e n hx=>n,λb o e hx=>?_,λ_ _ q=>q,λ_ _ _ q=>q,λb ps q=>⟨#[],by rw[q];simp⟩⟩ (λb u e=>?_) I.bare λb hb=>?_
 .exact(hs.2 b (λz=>hx (by rw[z];exact CW.mpr rfl))).trans e
 .exact⟨o.slots,(hs.2 b (λz=>hx (by rw[z];exact CW.mpr rfl))).trans e⟩
 .exact⟨o,(hs.2 b (λz=>hx (by rw[z];exact CW.mpr rfl))).trans e⟩
 .refine(I.aJ b u e).fD (λc v hc q=>(hs.2 c ?_).trans q) (λ_ q=>q) λ_ _ q=>q;rcases hc with z | z
  .rw[z];exact aC e f0
  .exact aC z f0
 .rw[CW.mp hb];exact⟨f3,f1,f4,f5⟩
theorem mf{cl:List (Str×Addr)}{wi:TI}{g:TG}{fs:List Str}(z9:X.calm=true)
  (Ab:closureFor scope X.env=pure cl) (hk:scope.kind=.function) (nc:b_ scope.names=true) (lo:cw scope.names=true) (fh:cv cl scope.names=true) (ag:bJ X cl) (fr:cA X scope cl fs js)
  (hi:PI X tg iter wi) (hg:∀ C s₀ H₀ ex z0,PG (gm X scope cl (ts++fs) C s₀ H₀ ex z0) tg g)
  (ht:∀ C s₀ H₀ ex z0,match ifs,tt with | [],none=>True | [c],some t=>PT (gm X scope cl (ts++fs) C s₀ H₀ ex z0) c t | _,_=>False)
  (he:∀ C s₀ H₀ ex z0,PE (gm X scope cl (ts++fs) C s₀ H₀ ex z0) elt te)
  (hs:autoParam (∀ x,foldedSetIterable iter X.env x=pure x) aI._auto_1) :
  PE X (.ListComp elt [⟨tg,iter,ifs,0⟩] scope pos) (mm wi g tt te ts js):=by
 intro z0 s σ H Q I h;rw[eval_ListComp];refine kq z9 Ab hk nc lo fh ag fr hi hg ht he hs I h none _ λD H' s' C Io q hm f=>?_;obtain⟨m,hn⟩:=hm;exact⟨m,hn,λh' Bl=>⟨.ref D,H',Io.other f Bl,rfl,q⟩⟩
def jZ(wi:TI)(g:TG)(te:TE)(ts:List Str)(js:List Nat):TE:=fun σ H Q=>wi σ H λJ H1=>∀ D,H1 D=none ->
 ∃ W:Nat->Nat->St->Hp->Prop,(∃ m,W 0 m (bh ts js σ) (upd H1 D (.lst [])))/\∀ i m σ' H',W i m σ' H' ->
  (J.stop i H'/\Q (.ref D) H')\/(J.go i H'/\∃ N:St->Hp->Prop,(∀ σ'' H'',N σ'' H''->∃ m',m'<m/\W (i+1) m' σ'' H'') ∧
   ∀ x H2,J.lK i H' x H2->g x σ' H2 fun σ2 H3=>te σ2 H3 λy H4=>∃ ys,H4 D=some (.lst ys)/\ys.length<sizeLine/\N σ2 (upd H4 D (.lst (ys++[y]))))
def pk(wi:TI)(g:TG)(t:TT)(te:TE)(ts:List Str)(js:List Nat):TE:=fun σ H Q=>wi σ H λJ H1=>∀ D,H1 D=none ->
 ∃ W:Nat->Nat->St->Hp->Prop,(∃ m,W 0 m (bh ts js σ) (upd H1 D (.lst [])))/\∀ i m σ' H',W i m σ' H' ->
  (J.stop i H'/\Q (.ref D) H')\/(J.go i H'/\∃ N:St->Hp->Prop,(∀ σ'' H'',N σ'' H''->∃ m',m'<m/\W (i+1) m' σ'' H'') ∧
   ∀ x H2,J.lK i H' x H2->g x σ' H2 fun σ2 H3=>t σ2 H3 λb BP=>if b=true then te σ2 BP λy H4=>∃ ys,H4 D=some (.lst ys)/\ys.length<sizeLine/\N σ2 (upd H4 D (.lst (ys++[y]))) else N σ2 BP)
theorem n6{cl:List (Str×Addr)}{wi:TI}{g:TG}{fs:List Str}(z9:X.calm=true)
  (Ab:closureFor scope X.env=pure cl) (hk:scope.kind=.function) (nc:b_ scope.names=true) (lo:cw scope.names=true) (fh:cv cl scope.names=true) (ag:bJ X cl) (fr:cA X scope cl fs js)
  (hi:PI X tg iter wi) (hg:∀ C s₀ H₀ ex z0,PG (gm X scope cl (ts++fs) C s₀ H₀ ex z0) tg g) (he:∀ C s₀ H₀ ex z0,PE (gm X scope cl (ts++fs) C s₀ H₀ ex z0) elt te)
  (hs:autoParam (∀ x,foldedSetIterable iter X.env x=pure x) aI._auto_1):PE X (.ListComp elt [⟨tg,iter,[],0⟩] scope pos) (jZ wi g te ts js) :=
 mf (tt:=none) z9 Ab hk nc lo fh ag fr hi hg (λ_ _ _ _ _=>trivial) he hs
variable{c:Expr}
theorem oh{cl:List (Str×Addr)}{wi:TI}{g:TG}{t:TT}{fs:List Str}(z9:X.calm=true)
  (Ab:closureFor scope X.env=pure cl) (hk:scope.kind=.function) (nc:b_ scope.names=true) (lo:cw scope.names=true) (fh:cv cl scope.names=true) (ag:bJ X cl) (fr:cA X scope cl fs js)
  (hi:PI X tg iter wi) (hg:∀ C s₀ H₀ ex z0,PG (gm X scope cl (ts++fs) C s₀ H₀ ex z0) tg g) (ht:∀ C s₀ H₀ ex z0,PT (gm X scope cl (ts++fs) C s₀ H₀ ex z0) c t) (he:∀ C s₀ H₀ ex z0,PE (gm X scope cl (ts++fs) C s₀ H₀ ex z0) elt te)
  (hs:autoParam (∀ x,foldedSetIterable iter X.env x=pure x) aI._auto_1):PE X (.ListComp elt [⟨tg,iter,[c],0⟩] scope pos) (pk wi g t te ts js) :=
 mf (tt:=some t) z9 Ab hk nc lo fh ag fr hi hg ht he hs
def fI(h:Heap)(b:Bool)(l:Addr)(xs:Array Value):Prop:=match b with
 | true=>h.IsList l xs
 | false=>h.IsTuple l xs
def eP(h:Heap)(b:Bool)(it l:Addr)(i:Nat):Prop:=match b with
 | true=>h.IsListIter it l i
 | false=>h.IsTupleIter it l i
variable{l:Addr}{b:Bool}{h:Heap}
theorem fI.at{xs:Array Value}(x:fI h b l xs)(k:∀ o,h.get? l=some o->h'.get? l=some o):fI h' b l xs:=by
 cases b with
 | true=>obtain⟨o,ho,r⟩:=(show h.IsList l xs from x);exact(show h'.IsList l xs from ⟨o,k o ho,r⟩)
 | false=>obtain⟨o,ho,r⟩:=(show h.IsTuple l xs from x);exact(show h'.IsTuple l xs from ⟨o,k o ho,r⟩)
variable{i:Nat}{it:Addr}
theorem eP.at(x:eP h b it l i)(k:∀ o,h.get? it=some o->h'.get? it=some o):eP h' b it l i:=by
 cases b with
 | true=>obtain⟨o,ho,r⟩:=(show h.IsListIter it l i from x);exact(show h'.IsListIter it l i from ⟨o,k o ho,r⟩)
 | false=>obtain⟨o,ho,r⟩:=(show h.IsTupleIter it l i from x);exact(show h'.IsTupleIter it l i from ⟨o,k o ho,r⟩)
theorem eP.obj(x:eP h b it l i):∃ o vs,h.get? it=some o/\o.data=.fields vs:=by
 cases b with
 | true=>obtain⟨o,ho,_,hd⟩:=(show h.IsListIter it l i from x);exact⟨o,_,ho,hd⟩
 | false=>obtain⟨o,ho,_,hd⟩:=(show h.IsTupleIter it l i from x);exact⟨o,_,ho,hd⟩
theorem fI.obj{xs:Array Value}(x:fI h b l xs):∃ o n,h.get? l=some o/\o.data=.seq xs n:=by
 cases b with
 | true=>obtain⟨o,ho,_,n,hd⟩:=(show h.IsList l xs from x);exact⟨o,n,ho,hd⟩
 | false=>obtain⟨o,ho,_,n,hd⟩:=(show h.IsTuple l xs from x);exact⟨o,n,ho,hd⟩
variable{Q:Value->Shared->Prop}{z6:Array Value}
variable{ys:Array Value}{k1 k2:Nat}
section
variable{E:Value->Shared->Prop}
theorem eY{t:Addr}{x:Value}(hit:s.heap.IsTupleIter it t i)
  (ht:s.heap.IsTuple t z6) (hx:z6[i]?=some x)
  (hQ:∀ h',h'.IsTupleIter it t (i+1)->D0 it s.heap h'->Q x { s with heap:=h' }) :
  wpAny (model prog w) A (CQ (.ref it)) Q E s:=by
 obtain⟨o,ho,hc,hd⟩:=id hit;obtain⟨ol,hol,_,nl,hdl⟩:=ht;unfold CQ;refine Ck (De (name:=Cn "__next__") hit.typeIs F.slot_tuple_iterator_next
  (DK F.slot_tuple_iterator_next hit.typeIs F.entry_tuple_iterator_next ?_ (F.args_tuple_iterator_next_1 _)))
 show wpAny _ _ (field (.ref it) 0 >>= _) _ _ s;refine Ck (CM ho hd (x:=.ref t) rfl ?_);show wpAny _ _ (if (CA t==CV)=true then _ else _) _ _ s;rw[if_neg (show ¬ ((CA t==CV)=true) from C4)];show wpAny _ _ (field (.ref it) 1 >>= _) _ _ s;refine Ck (CM ho hd (x:=.int i 0) rfl ?_);show wpAny _ _ (seqItems? (.ref t) >>= _) _ _ s;refine Ck (Dv hol hdl ?_);simp only[Ej,hx];refine Ck (El ho hd (by simp) (Cp ⟨x,rfl,Cp (hQ _ ?_ (FI ..))⟩));exact⟨_,DU _ ho (DV (Dw hd _)),(Obj.cls_mapFields ..).trans hc,by
  rw[Dw hd];simp[rawInt]⟩
theorem fL{t:Addr}(hh:A.handled=none)
  (hit:s.heap.IsTupleIter it t i) (ht:s.heap.IsTuple t z6) (hx:z6[i]?=none)
  (hE:∀ h' e,Heap.ExtBut it s.heap h'->(∃ o,h'.get? e=some o/\o.cls=.type "StopIteration")->E (.ref e) { s with heap:=h' }) :
  wpAny (model prog w) A (CQ (.ref it)) Q E s:=by
 obtain⟨o,ho,hc,hd⟩:=id hit;obtain⟨ol,hol,_,nl,hdl⟩:=ht;unfold CQ;refine Ck (De (name:=Cn "__next__") hit.typeIs F.slot_tuple_iterator_next
  (DK F.slot_tuple_iterator_next hit.typeIs F.entry_tuple_iterator_next ?_ (F.args_tuple_iterator_next_1 _)))
 show wpAny _ _ (field (.ref it) 0 >>= _) _ _ s;refine Ck (CM ho hd (x:=.ref t) rfl ?_);show wpAny _ _ (if (CA t==CV)=true then _ else _) _ _ s;rw[if_neg (show ¬ ((CA t==CV)=true) from C4)];show wpAny _ _ (field (.ref it) 1 >>= _) _ _ s;refine Ck (CM ho hd (x:=.int i 0) rfl ?_);show wpAny _ _ (seqItems? (.ref t) >>= _) _ _ s;refine Ck (Dv hol hdl ?_);simp only[Ej,hx];refine Ck (FU (Ck (El ho hd (by simp) ?_)));show wpAny _ _ (newExc (.type "StopIteration") [] >>= _) _ _ _;refine Ck ?_;simp only[newExc,newTuple];refine Ck (C8 ?_ (by size_fits));refine Ck (m:=firstArgMember _ _) (Ge (a:=CV) (by first | rfl | (simp only[firstArgMember];rfl)) ?_);refine C8 ?_ (by size_fits);simp only[raiseNew];refine Ck (wpAny_handled ?_)
 first | rw[show A.in1.handled=none from hh] | rw[hh]
 refine Ck (Cp (wpAny_throw ?_));exact hE _ _ (((FI ..).extBut.push _).push _) ⟨_,Cy _ rfl,rfl⟩
theorem dG{x:Value}(hit:eP s.heap b it l i)(hl:fI s.heap b l z6)(hx:z6[i]?=some x)
  (hQ:∀ h',eP h' b it l (i+1)->D0 it s.heap h'->Q x { s with heap:=h' }):wpAny (model prog w) A (CQ (.ref it)) Q E s:=by
 cases b with
 | true=>exact wpAny_nextOf_list_item hit hl hx hQ
 | false=>exact eY hit hl hx hQ
theorem ir(hh:A.handled=none)(hit:eP s.heap b it l i)(hl:fI s.heap b l z6)(hx:z6[i]?=none)
  (hE:∀ h' e,Heap.ExtBut it s.heap h'->(∃ o,h'.get? e=some o/\o.cls=.type "StopIteration")->E (.ref e) { s with heap:=h' }):wpAny (model prog w) A (CQ (.ref it)) Q E s:=by
 cases b with
 | true=>exact wpAny_nextOf_list_end hh hit hl hx hE
 | false=>exact fL hh hit hl hx hE
theorem m9{b1 b2:Bool}{z TI TO i1 i2 l1 l2:Addr}{xs:Array Value}{x y a b:Value}(D:ZipApart z TI TO i1 i2 l1 l2)
  (hz:IsZip s.heap z TI TO .none) (AU:IsPair s.heap TI (.ref i1) (.ref i2)) (AV:IsPair s.heap TO a b)
  (h1:eP s.heap b1 i1 l1 k1) (h2:eP s.heap b2 i2 l2 k2) (Bd:fI s.heap b1 l1 xs) (Be:fI s.heap b2 l2 ys) (hx:xs[k1]?=some x) (hy:ys[k2]?=some y)
  (hQ:∀ h',IsZip h' z TI TO (rawInt s.heap.objs.size)->IsPair h' TO x y->eP h' b1 i1 l1 (k1+1)->eP h' b2 i2 l2 (k2+1)->IsPair h' s.heap.objs.size x y->h'.objs.size=s.heap.objs.size+1 ->
   (∀ c o,c≠z->c≠TO->c≠i1->c≠i2->s.heap.get? c=some o->h'.get? c=some o)->Q (.ref s.heap.objs.size) { s with heap:=h' }) :
  wpAny (model prog w) A (Builtin.«zip.__next__» ⟨[.ref z],[]⟩) (λfin s'=>∃ v,fin=.done (.ret v)/\Q v s') E s:=by
 show wpAny _ _ (field (.ref z) 2 >>= _) _ _ _;refine Ck (CM hz rfl (x:=.bool false) rfl ?_);show wpAny _ _ (field (.ref z) 3 >>= _) _ _ _;refine Ck (CM hz rfl (x:=.ref TI) rfl ?_);refine Ck (Dv AU rfl ?_);show wpAny _ _ (C9 (.ref z) >>= _) _ _ _;refine Ck ?_;unfold C9;refine Ck (CM hz rfl (x:=.none) rfl (Cp ?_));simp only[if_true];refine Ck (FU ?_);refine Ck (CM hz rfl (x:=.ref TO) rfl ?_);refine Ck (Dy hz (by simp) λh₁ hz₁ hs1=>?_)
 replace hz₁:IsZip h₁ z TI TO .ellipsis:=hz₁
 refine Ck ?_;simp only[F_,Gi,Gj,Gs];refine Ck (Ck (E3 ?_));show wpAny _ _ (CQ (.ref i1) >>= _) _ _ _;refine Ck (dG (h1.at λo e=>hs1.extBut _ _ D.i1z e) (Bd.at λo e=>hs1.extBut _ _ D.l1z e) hx λh₂ h1₂ hs₂=>Cp ?_);have hTO2:IsPair h₂ TO a b:=hs₂.extBut _ _ D.TOi1 (hs1.extBut _ _ D.TOz AV);refine Ck (Dv hTO2 rfl ?_);refine Ck (EB hTO2 λh₃ hTO3 hs3=>?_)
 replace hTO3:IsPair h₃ TO x b:=hTO3
 refine Ck (Gf (Cp ?_));refine Ck (Ck (E3 ?_));show wpAny _ _ (CQ (.ref i2) >>= _) _ _ _;refine Ck (dG (h2.at λo e=>hs3.extBut _ _ D.TOi2.symm (hs₂.extBut _ _ D.i12.symm (hs1.extBut _ _ D.i2z e)))
  (Be.at λo e=>hs3.extBut _ _ D.l2TO (hs₂.extBut _ _ D.l2i1 (hs1.extBut _ _ D.l2z e))) hy λh₄ h2₄ hs4=>Cp ?_)
 have hTO4:IsPair h₄ TO x b:=hs4.extBut _ _ D.TOi2 hTO3;refine Ck (Dv hTO4 rfl ?_);refine Ck (EB hTO4 λh₅ hTO5 hs5=>?_)
 replace hTO5:IsPair h₅ TO x y:=hTO5
 refine Ck (Gf (Cp (Cp ?_)));refine Ck (Dv hTO5 rfl ?_);refine Ck (wpAny_newTuple ?_);have A1:h₅.objs.size=s.heap.objs.size:=by rw[hs5.1,hs4.1,hs3.1,hs₂.1,hs1.1]
 have hz5:IsZip h₅ z TI TO .ellipsis:=hs5.extBut _ _ D.TOz.symm (hs4.extBut _ _ D.i2z.symm (hs3.extBut _ _ D.TOz.symm (hs₂.extBut _ _ D.i1z.symm hz₁)));have hk5:∀ c o,c≠z->c≠TO->c≠i1->c≠i2->s.heap.get? c=some o->h₅.get? c=some o:=λc o c1 c2 c3 c4 e =>
  hs5.extBut _ _ c2 (hs4.extBut _ _ c4 (hs3.extBut _ _ c2 (hs₂.extBut _ _ c3 (hs1.extBut _ _ c1 e))))
 have h1₅:eP h₅ b1 i1 l1 (k1+1):=h1₂.at λo e=>hs5.extBut _ _ D.TOi1.symm (hs4.extBut _ _ D.i12 (hs3.extBut _ _ D.TOi1.symm e));have h2₅:eP h₅ b2 i2 l2 (k2+1):=h2₄.at λo e=>hs5.extBut _ _ D.TOi2.symm e;have Ca:z<h₅.objs.size:=Cq hz5;show wpAny _ _ (D7 (.ref z) (.ref h₅.objs.size) >>= _) _ _ _;refine Ck ?_;unfold D7;have hz6:IsZip (h₅.push { cls:=.type "tuple", data:=.seq #[x,y] }) z TI TO .ellipsis:=Cm _ hz5;refine Ck (Dy hz6 (by simp) λh₇ hz7 hs7=>?_)
 replace hz7:IsZip h₇ z TI TO (rawInt h₅.objs.size):=hz7
 refine Dy hz7 (by simp) λh₈ hz₈ hs8=>?_
 replace hz₈:IsZip h₈ z TI TO (rawInt h₅.objs.size):=hz₈
 have up:∀ c o,c≠z->h₅.get? c=some o->h₈.get? c=some o:=λc o c1 e=>hs8.extBut _ _ c1 (hs7.extBut _ _ c1 (Cm _ e));have hT8:IsPair h₈ h₅.objs.size x y:=hs8.extBut _ _ (Ei Ca) (hs7.extBut _ _ (Ei Ca) (Cy _ rfl));have hz8:h₈.objs.size=h₅.objs.size+1:=by rw[hs8.1,hs7.1,Du]
 rw[A1] at hz₈ hT8 hz8;refine Cp ⟨_,rfl,?_⟩;show Q (.ref h₅.objs.size) _;rw[A1];exact hQ h₈ hz₈ (up _ _ D.TOz hTO5) (h1₅.at λo e=>up _ o D.i1z e) (h2₅.at λo e=>up _ o D.i2z e) hT8 hz8 λc o c1 c2 c3 c4 e=>up c o c1 (hk5 c o c1 c2 c3 c4 e)
theorem o7{b1 b2:Bool}{z TI TO i1 i2 l1 l2:Addr}{xs:Array Value}{a b:Value}{Q:Fin->Shared->Prop}(hh:A.handled=none)(D:ZipApart z TI TO i1 i2 l1 l2)
  (hz:IsZip s.heap z TI TO .none) (AU:IsPair s.heap TI (.ref i1) (.ref i2)) (AV:IsPair s.heap TO a b)
  (h1:eP s.heap b1 i1 l1 k1) (h2:eP s.heap b2 i2 l2 k2) (Bd:fI s.heap b1 l1 xs) (Be:fI s.heap b2 l2 ys) (Bh:xs[k1]?=none\/ys[k2]?=none)
  (hE:∀ h' e,(∀ c o,c≠z->c≠TO->c≠i1->c≠i2->s.heap.get? c=some o->h'.get? c=some o)->(∃ o,h'.get? e=some o/\o.cls=.type "StopIteration")->E (.ref e) { s with heap:=h' }) :
  wpAny (model prog w) A (Builtin.«zip.__next__» ⟨[.ref z],[]⟩) Q E s:=by
 show wpAny _ _ (field (.ref z) 2 >>= _) _ _ _;refine Ck (CM hz rfl (x:=.bool false) rfl ?_);show wpAny _ _ (field (.ref z) 3 >>= _) _ _ _;refine Ck (CM hz rfl (x:=.ref TI) rfl ?_);refine Ck (Dv AU rfl ?_);show wpAny _ _ (C9 (.ref z) >>= _) _ _ _;refine Ck ?_;unfold C9;refine Ck (CM hz rfl (x:=.none) rfl (Cp ?_));simp only[if_true];refine Ck (FU ?_);refine Ck (CM hz rfl (x:=.ref TO) rfl ?_);refine Ck (Dy hz (by simp) λh₁ hz₁ hs1=>?_)
 replace hz₁:IsZip h₁ z TI TO .ellipsis:=hz₁
 refine Ck ?_;simp only[F_,Gi,Gj,Gs];refine Ck (Ck (E3 ?_));show wpAny _ _ (CQ (.ref i1) >>= _) _ _ _;cases hx:xs[k1]? with
 | none =>
  refine Ck (ir hh (h1.at λo e=>hs1.extBut _ _ D.i1z e) (Bd.at λo e=>hs1.extBut _ _ D.l1z e) hx λh₂ e hs₂ he=>?_);obtain⟨oe,Ba,B2⟩:=he;have hz₂:IsZip h₂ z TI TO .ellipsis:=hs₂ _ _ D.i1z.symm hz₁;have hez:e≠z:=λx=>by subst x;rw[hz₂] at Ba;cases Ba;simp at B2
  refine Dy hz₂ (by simp) λh₃ _ hs3=>hE h₃ e (λc o c1 _ c3 _ x=>hs3.extBut _ _ c1 (hs₂ _ _ c3 (hs1.extBut _ _ c1 x))) ⟨oe,hs3.extBut _ _ hez Ba,B2⟩
 | some x =>
  have hy:ys[k2]?=none:=by rcases Bh with h | h;rw[hx] at h;cases h;exact h
  refine Ck (dG (h1.at λo e=>hs1.extBut _ _ D.i1z e) (Bd.at λo e=>hs1.extBut _ _ D.l1z e) hx λh₂ h1₂ hs₂=>Cp ?_);have hTO2:IsPair h₂ TO a b:=hs₂.extBut _ _ D.TOi1 (hs1.extBut _ _ D.TOz AV);refine Ck (Dv hTO2 rfl ?_);refine Ck (EB hTO2 λh₃ hTO3 hs3=>?_);refine Ck (Gf (Cp ?_));refine Ck (Ck (E3 ?_));show wpAny _ _ (CQ (.ref i2) >>= _) _ _ _;refine Ck (ir hh (h2.at λo e=>hs3.extBut _ _ D.TOi2.symm (hs₂.extBut _ _ D.i12.symm (hs1.extBut _ _ D.i2z e)))
   (Be.at λo e=>hs3.extBut _ _ D.l2TO (hs₂.extBut _ _ D.l2i1 (hs1.extBut _ _ D.l2z e))) hy λh₄ e hs4 he=>?_)
  obtain⟨oe,Ba,B2⟩:=he;have hz4:IsZip h₄ z TI TO .ellipsis:=hs4 _ _ D.i2z.symm (hs3.extBut _ _ D.TOz.symm (hs₂.extBut _ _ D.i1z.symm hz₁));have hez:e≠z:=λx=>by subst x;rw[hz4] at Ba;cases Ba;simp at B2
  refine Dy hz4 (by simp) λh₅ _ hs5=>hE h₅ e (λc o c1 c2 c3 c4 x=>hs5.extBut _ _ c1 (hs4 _ _ c4 (hs3.extBut _ _ c2 (hs₂.extBut _ _ c3 (hs1.extBut _ _ c1 x))))) ⟨oe,hs5.extBut _ _ hez Ba,B2⟩
theorem kl(hl:fI s.heap b l z6)
  (h:∀ o,o=({ cls:=.type (if b then "list_iterator" else "tuple_iterator"),data:=.fields #[.ref l,.int 0 0] }:Obj)->Q (.ref s.heap.objs.size) { s with heap:=s.heap.push o }):wpAny (model prog w) A (pyIter (.ref l)) Q E s:=by
 cases b with
 | true=>exact EZ hl (h _ rfl)
 | false=>exact FW hl (h _ rfl)
theorem fQ{b1 b2:Bool}{z TI TO i1 i2 l1 l2:Addr}{xs:Array Value}{x y a b:Value}{Q:Option Value->Shared->Prop}(D:ZipApart z TI TO i1 i2 l1 l2)
  (hz:IsZip s.heap z TI TO .none) (AU:IsPair s.heap TI (.ref i1) (.ref i2)) (AV:IsPair s.heap TO a b)
  (h1:eP s.heap b1 i1 l1 k1) (h2:eP s.heap b2 i2 l2 k2) (Bd:fI s.heap b1 l1 xs) (Be:fI s.heap b2 l2 ys) (hx:xs[k1]?=some x) (hy:ys[k2]?=some y)
  (hQ:∀ h',IsZip h' z TI TO (rawInt s.heap.objs.size)->IsPair h' TO x y->eP h' b1 i1 l1 (k1+1)->eP h' b2 i2 l2 (k2+1)->IsPair h' s.heap.objs.size x y->h'.objs.size=s.heap.objs.size+1 ->
   (∀ c o,c≠z->c≠TO->c≠i1->c≠i2->s.heap.get? c=some o->h'.get? c=some o)->Q (some (.ref s.heap.objs.size)) { s with heap:=h' }) :
  wpAny (model prog w) A (pyNext (.ref z)) Q E s:=by
 have hT:s.TypeIs (.ref z) "zip" := ⟨_,hz,rfl⟩
 unfold pyNext;exact Ck (Ey (De (name:=Cn "__next__") hT F.slot_zip_next
  (DK F.slot_zip_next hT F.entry_zip_next
   (m9 D hz AU AV h1 h2 Bd Be hx hy λh' a1 a2 a3 a4 a5 a6 a7=>Cp (hQ h' a1 a2 a3 a4 a5 a6 a7)) (F.args_zip_next_1 _))))
theorem gJ{b1 b2:Bool}{z TI TO i1 i2 l1 l2:Addr}{xs:Array Value}{a b:Value}{Q:Option Value->Shared->Prop}(hh:A.handled=none)(D:ZipApart z TI TO i1 i2 l1 l2)
  (hz:IsZip s.heap z TI TO .none) (AU:IsPair s.heap TI (.ref i1) (.ref i2)) (AV:IsPair s.heap TO a b)
  (h1:eP s.heap b1 i1 l1 k1) (h2:eP s.heap b2 i2 l2 k2) (Bd:fI s.heap b1 l1 xs) (Be:fI s.heap b2 l2 ys) (Bh:xs[k1]?=none\/ys[k2]?=none)
  (hQ:∀ h',(∀ c o,c≠z->c≠TO->c≠i1->c≠i2->s.heap.get? c=some o->h'.get? c=some o)->Q none { s with heap:=h' }):wpAny (model prog w) A (pyNext (.ref z)) Q E s:=by
 have hT:s.TypeIs (.ref z) "zip" := ⟨_,hz,rfl⟩
 unfold pyNext;refine Ck (Ey (De (name:=Cn "__next__") hT F.slot_zip_next
  (DK F.slot_zip_next hT F.entry_zip_next (o7 hh D hz AU AV h1 h2 Bd Be Bh λh' e hk he=>?_) (F.args_zip_next_1 _))))
 obtain⟨o,ho,hc⟩:=he;refine Ck (wpAny_isInstance (T := "StopIteration") (b:=true) ⟨o,ho,hc⟩ isSubtype_stop ?_);exact Cp (hQ _ hk)
abbrev xC(b:Bool)(l:Addr):Obj:={ cls:=.type (if b then "list_iterator" else "tuple_iterator"),data:=.fields #[.ref l,.int 0 0] }
abbrev yx(h:Heap)(b1:Bool)(l1:Addr):Heap:=h.push (xC b1 l1)
abbrev yv(h:Heap)(b1 b2:Bool)(l1 l2:Addr):Heap:=(yx h b1 l1).push (xC b2 l2)
abbrev yp(h:Heap)(b1 b2:Bool)(l1 l2:Addr):Heap:=(yv h b1 b2 l1 l2).push { cls:=.type "tuple", data:=.seq #[.ref h.objs.size,.ref (yx h b1 l1).objs.size] }
abbrev yz(h:Heap)(b1 b2:Bool)(l1 l2:Addr):Heap:=(yp h b1 b2 l1 l2).push { cls:=.type "tuple", data:=.seq #[.none,.none] }
abbrev uG(h:Heap)(b1 b2:Bool)(l1 l2:Addr):Heap:=(yz h b1 b2 l1 l2).push { cls:=.type "zip", data:=.fields #[.none,.bool false,.bool false,.ref (yv h b1 b2 l1 l2).objs.size,.ref (yp h b1 b2 l1 l2).objs.size] }
end
theorem gu{E:Value->Shared->Prop}(hl:fI s.heap b l z6)
  (h:Q (.ref s.heap.objs.size) { s with heap:=s.heap.push (xC b l) }):wpAny (model prog w) A (pyIter (.ref l)) Q E s:=kl hl λo e=>by subst e;exact h
theorem fI.push{h:Heap}{b:Bool}{l:Addr}{xs:Array Value}(x:fI h b l xs)(o:Obj):fI (h.push o) b l xs:=x.at λ_ e=>Cm _ e
theorem iq(b1 b2:Bool)(l1 l2:Addr)(xs ys:Array Value) :
  Meets (Builtin.«zip.__new__» ⟨[.type "zip", .ref l1,.ref l2],[]⟩) (λ_ R s=>fI s.heap b1 l1 xs/\fI s.heap b2 l2 ys ∧
   R (.ok (.ret (.ref (yz s.heap b1 b2 l1 l2).objs.size))) { s with heap:=uG s.heap b1 b2 l1 l2 }) :=
 .of_wp λprog w A R s h=>by
  obtain⟨hp,g,d,tk,os⟩:=s;obtain⟨Bd,Be,h⟩:=h;have hsub:=sub_zip;have hL1:fI (GB ⟨hp,g,d,tk,os⟩) b1 l1 xs:=Bd;have hL2:fI (GB ⟨hp.push (xC b1 l1),g,d,tk,os⟩) b2 l2 ys:=fI.push Be _
  wp_walk using gu hL1,gu hL2
  exact⟨_,rfl,h⟩
section
variable{E:Value->Shared->Prop}
theorem eP.new(h:Heap)(b:Bool)(it l:Addr)(e:h.get? it=some (xC b l)):eP h b it l 0:=by
 cases b with
 | true=>exact⟨_,e,rfl,rfl⟩
 | false=>exact⟨_,e,rfl,rfl⟩
theorem m7{b1 b2:Bool}{l1 l2:Addr}{xs:Array Value}(Bd:fI s.heap b1 l1 xs)(Be:fI s.heap b2 l2 ys)
  (h:∀ h',IsZip h' (s.heap.objs.size+4) (s.heap.objs.size+2) (s.heap.objs.size+3) .none->IsPair h' (s.heap.objs.size+2) (.ref s.heap.objs.size) (.ref (s.heap.objs.size+1)) ->
   IsPair h' (s.heap.objs.size+3) .none .none->eP h' b1 s.heap.objs.size l1 0->eP h' b2 (s.heap.objs.size+1) l2 0->h'.objs.size=s.heap.objs.size+5 ->
   (∀ c o,s.heap.get? c=some o->h'.get? c=some o)->Q (.ref (s.heap.objs.size+4)) { s with heap:=h' }) :
  wpAny (model prog w) A (call (.type "zip") [.ref l1,.ref l2]) Q E s:=by
 refine callType_new F.called_zip (by decide) (F.typeCall_zip_2 _ _) (F.newCall_zip_2 _ _) (λobj=>F.args_object_init_3 obj _ _) F.entry_zip_new
  (iq b1 b2 l1 l2 xs ys) ⟨Bd,Be,?_⟩
 have z1:(yx s.heap b1 l1).objs.size=s.heap.objs.size+1:=Du ..;have z2:(yv s.heap b1 b2 l1 l2).objs.size=s.heap.objs.size+2:=by rw[Du,z1]
 have z3:(yp s.heap b1 b2 l1 l2).objs.size=s.heap.objs.size+3:=by rw[Du,z2]
 have z4:(yz s.heap b1 b2 l1 l2).objs.size=s.heap.objs.size+4:=by rw[Du,z3]
 have z5:(uG s.heap b1 b2 l1 l2).objs.size=s.heap.objs.size+5:=by rw[Du,z4]
 have g5:(uG s.heap b1 b2 l1 l2).get? (yz s.heap b1 b2 l1 l2).objs.size=some _:=Cy _ rfl;have g4:(uG s.heap b1 b2 l1 l2).get? (yp s.heap b1 b2 l1 l2).objs.size=some _:=Cm _ (Cy _ rfl);have g3:(uG s.heap b1 b2 l1 l2).get? (yv s.heap b1 b2 l1 l2).objs.size=some _:=Cm _ (Cm _ (Cy _ rfl));have g2:(uG s.heap b1 b2 l1 l2).get? (yx s.heap b1 l1).objs.size=some _:=Cm _ (Cm _ (Cm _ (Cy _ rfl)));have g1:(uG s.heap b1 b2 l1 l2).get? s.heap.objs.size=some _:=Cm _ (Cm _ (Cm _ (Cm _ (Cy _ rfl))));show _/\_;rw[z2,z3,z4] at g5;rw[z1,z2] at g3;rw[z3] at g4;rw[z1] at g2;rw[z4];exact⟨⟨_,g5,rfl⟩,h _ g5 g3 g4 (eP.new _ b1 _ _ g1) (eP.new _ b2 _ _ g2) z5 λc o x =>
  Cm _ (Cm _ (Cm _ (Cm _ (Cm _ x))))⟩
end
def kJ(K:PySem.W.Frag)(H:Hp)(b:Bool)(a:Addr)(xs:List V):Prop:=match b with
 | true=>dF K H a xs
 | false=>dg K H a xs
variable{x1:Nat}{elts:List Expr}{P:Program}
theorem Inv.row{xs:List V}(I:Inv X z0 σ H s)(h:kJ X.K H b a xs):∃ z7:List Value,Vals xs z7/\fI s.heap b a z7.toArray/\xs.length<=sizeLine:=by
 cases b with
 | true =>
  obtain⟨z7,r,p,z⟩:=I.list h;exact⟨z7,r,p.isList,z⟩
 | false =>
  obtain⟨z7,r,p,z⟩:=I.tuple h;exact⟨z7,r,p,z⟩
theorem Inv.l7{xs ys:List V}(I:Inv X z0 σ H s)(h:kJ X.K H b a xs)(h':kJ X.K H b a ys):xs=ys:=by
 cases b with
 | true=>exact I.j7 h h'
 | false=>exact I.jc h h'
theorem Inv.rQ(I:Inv X z0 σ H s)(k:∀ b u,b ∉ ch->s.heap.get? b=some u->h'.get? b=some u)
  (AN:∀ b∈ch,eJ X z0 H b):Inv X z0 σ H { s with heap:=h',toks:=t' }:=by
 have Bo:∀ b u,H b=some u->b ∉ ch:=λb u e z=>by rw[(AN b z).1] at e;cases e
 refine I.step (g':=s.gens) (d':=s.drawn) (ch:=ch) (λb hb=>?_) (λb u _ _ hc e _=>k b u hc e) (λb u _ _ hc e _=>⟨u.slots,k b u hc e⟩)
  (λb u _ e n=>n) (λb u hc e=>⟨u,k b u hc e⟩) (λb xs e=>e) (λb ob u e=>e) (λb ps e=>⟨#[],by rw[e];simp⟩) (λm hm=>?_) (λb u e=>?_) I.bare
 .obtain⟨_,f1,_,f3,f4,f5⟩:=AN b hb;exact⟨f3,f1,f4,f5⟩
 .obtain⟨ob,es,ep,ho,r⟩:=hm;exact⟨ob,es,ep,k _ ob (λz=>(AN _ z).2.1 rfl) ho,r⟩
 .refine(I.aJ b u e).fD (λc v hc q=>k c v ?_ q) (λc q=>q) λc ys q=>q;rcases hc with z' | z'
  .rw[z'];exact Bo b u e
  .exact Bo c _ z'
theorem bH{c:Addr}{xs:List V}(I:Inv X z0 σ H s)(h:kJ X.K H b a xs)(f:eJ X z0 H c):a≠c:=by
 have rd:∀ {u:HO},Rd H a u->a≠c:=λ{u} r=>by
  rcases r with r | ⟨o,r⟩
  .exact aC r f.1
  .exact aC r f.1
 have mk:∀ {o:Obj},X.K.lookup a=some o->a≠c:=λ{o} e z=>by
  subst z;have e':=I.ok.mod.xZ _ _ e;rcases f.2.2.2.1 with q | q
  .exact I.ok.iJ _ _ e' q
  .exact absurd (Cr (Cq (I.ok.bs _ _ e').1) q) (Ds _)
 cases b with
 | true =>
  rcases(show dF X.K H a xs from h) with r | ⟨o,z7,n,e,_⟩
  .exact rd r
  .exact mk e
 | false =>
  rcases(show dg X.K H a xs from h) with r | ⟨o,z7,n,e,_⟩
  .exact rd r
  .exact mk e
def y6 (K : PySem.W.Frag) (b1 b2 : Bool) (a1 a2 : Addr) : It :=
  ⟨λi H => ∃ xs ys x y, kJ K H b1 a1 xs /\ kJ K H b2 a2 ys /\ xs[i]? = some x /\ ys[i]? = some y,
   λi H v H' => ∃ p x y, H p = none /\ v = .ref p /\ H' = upd H p (.tup [x, y]) /\ (∀ xs, kJ K H b1 a1 xs -> xs[i]? = some x) /\ (∀ ys, kJ K H b2 a2 ys -> ys[i]? = some y),
   λi H => ∃ xs ys, kJ K H b1 a1 xs /\ kJ K H b2 a2 ys /\ (xs.length <= i \/ ys.length <= i)⟩
theorem qB{K:PySem.W.Frag}{tp:Pos}(b1 b2:Bool)(a1 a2 z TI TO i1 i2:Addr)(D:TI≠z/\TO≠z/\i1≠z/\i2≠z/\TI≠TO/\TI≠i1/\TI≠i2/\TO≠i1/\TO≠i2/\i1≠i2) :
  Turn P w K (.Tuple elts x1 tp) (y6 K b1 b2 a1 a2) [z,TO,i1,i2,TI] z (λi h=>IsZip h z TI TO .none/\IsPair h TI (.ref i1) (.ref i2)/\(∃ a b,IsPair h TO a b)/\eP h b1 i1 a1 i/\eP h b2 i2 a2 i) where
 mem:=by simp
 obj:=λi h st b hb=>by
  obtain⟨hz,AU,⟨a,c,AV⟩,h1,h2⟩:=st;simp only[CK,DL,or_false] at hb;rcases hb with q | q | q | q | q <;> subst q
  .exact⟨_,hz,λv z=>by cases z⟩
  .exact⟨_,AV,λv z=>by cases z⟩
  .obtain⟨o,vs,e,d⟩:=h1.obj;exact⟨o,e,λv z=>by rw[d] at z;cases z⟩
  .obtain⟨o,vs,e,d⟩:=h2.obj;exact⟨o,e,λv z=>by rw[d] at z;cases z⟩
  .exact⟨_,AU,λv z=>by cases z⟩
 keep:=λi h h' st k=>by
  obtain⟨hz,AU,⟨a,c,AV⟩,h1,h2⟩:=st;exact⟨k z (by simp) _ hz,k TI (by simp) _ AU,⟨a,c,k TO (by simp) _ AV⟩,h1.at λo e=>k i1 (by simp) o e,h2.at λo e=>k i2 (by simp) o e⟩
 item:=by
  intro X hP hw hK hc i z0 s σ H E I hf st hg;subst hP hw hK;obtain⟨xs,ys,x,y,AH,AI,hx,hy⟩:=hg;obtain⟨Cb,rv1,p1,hz1⟩:=I.row AH;obtain⟨A2,rv2,p2,hz2⟩:=I.row AI;obtain⟨u1,hu1,ru1⟩:=rv1.get hx;obtain⟨u2,hu2,ru2⟩:=rv2.get hy;obtain⟨hz,AU,⟨a,c,AV⟩,h1,h2⟩:=st;obtain⟨d1,d2,d3,d4,d5,d6,d7,d8,d9,d10⟩:=D;obtain⟨o1,n1,e1,dd1⟩:=p1.obj;obtain⟨o2,n2,e2,BS⟩:=p2.obj;obtain⟨oi1,vs1,ei1,di1⟩:=h1.obj;obtain⟨oi2,vs2,ei2,di2⟩:=h2.obj;have D:ZipApart z TI TO i1 i2 a1 a2:=⟨d1,d2,d3,d4,d5,d6,d7,d8,d9,d10,bH I AH (hf z (by simp)),bH I AH (hf TO (by simp)),bH I AH (hf i1 (by simp)),bH I AH (hf i2 (by simp)),
   bH I AI (hf z (by simp)),bH I AI (hf TO (by simp)),bH I AI (hf i1 (by simp)),bH I AI (hf i2 (by simp))⟩
  refine fQ D hz AU AV h1 h2 p1 p2 (x:=u1) (y:=u2) (by simpa using hu1) (by simpa using hu2) λh' g1 g2 g3 g4 g5 g6 g7=>⟨_,rfl,?_⟩
  refine wpAny_letOwnedTupleGo_zip (s:={ s with heap:=h' }) g1 λh3 hz3 BO=>?_;have A_:H s.heap.objs.size=none:=I.aJ.fresh (Cs _);have lt:∀ {c:Addr} {o:Obj},s.heap.get? c=some o->c≠s.heap.objs.size:=λe=>CC (Cq e);have Cd:∀ b o,b ∉ [z,TO,i1,i2,TI]->s.heap.get? b=some o->h3.get? b=some o:=λb o hb q=>by
   simp only[CK,DL,or_false,not_or] at hb;exact(BO.2 b hb.1).trans (g7 b o hb.1 hb.2.1 hb.2.2.1 hb.2.2.2.1 q)
  have hT3:h3.get? s.heap.objs.size=some { cls:=.type "tuple", data:=.seq #[u1,u2] }:=(BO.2 _ (lt hz).symm).trans g5;have I3:Inv X z0 σ (upd H s.heap.objs.size (.tup [x,y])) { s with heap:=h3,toks:=s.toks } :=
   I.nJ (ch:=[z,TO,i1,i2,TI]) Cd hf (Cs _) (λb hb=>by
    simp only[CK,DL,or_false] at hb;rcases hb with q | q | q | q | q <;> subst q
    .exact⟨_,hz⟩
    .exact⟨_,AV⟩
    .exact⟨_,ei1⟩
    .exact⟨_,ei2⟩
    .exact⟨_,AU⟩)
    ⟨by show 2<=sizeLine;decide,[u1,u2],.cons ru1 (.cons ru2 .nil),⟨_,hT3,rfl,_,rfl⟩⟩
  refine⟨.ref s.heap.objs.size,_,I3,rfl,⟨_,x,y,A_,rfl,rfl,λzs hzs=>by rw[I.l7 hzs AH];exact hx,λzs hzs=>by rw[I.l7 hzs AI];exact hy⟩,
   ⟨hz3,(BO.2 TI d1).trans (g7 TI _ d1 d5 d6 d7 AU),⟨_,_,(BO.2 TO d2).trans g2⟩,g3.at λo e=>(BO.2 i1 d3).trans e,g4.at λo e=>(BO.2 i2 d4).trans e⟩,λb hb=>?_⟩
  have nb:b≠s.heap.objs.size:=by
   simp only[CK,DL,or_false] at hb;rcases hb with q | q | q | q | q <;> subst q
   .exact lt hz
   .exact lt AV
   .exact lt ei1
   .exact lt ei2
   .exact lt AU
  rw[ai nb];exact(hf b hb).1
 done:=by
  intro X hP hw hK hc i z0 s σ H E I hf st hg;subst hP hw hK;obtain⟨xs,ys,AH,AI,Bh⟩:=hg;obtain⟨Cb,rv1,p1,hz1⟩:=I.row AH;obtain⟨A2,rv2,p2,hz2⟩:=I.row AI;obtain⟨hz,AU,⟨a,c,AV⟩,h1,h2⟩:=st;obtain⟨d1,d2,d3,d4,d5,d6,d7,d8,d9,d10⟩:=D;have D:ZipApart z TI TO i1 i2 a1 a2:=⟨d1,d2,d3,d4,d5,d6,d7,d8,d9,d10,bH I AH (hf z (by simp)),bH I AH (hf TO (by simp)),bH I AH (hf i1 (by simp)),bH I AH (hf i2 (by simp)),
   bH I AI (hf z (by simp)),bH I AI (hf TO (by simp)),bH I AI (hf i1 (by simp)),bH I AI (hf i2 (by simp))⟩
  have l1:=rv1.length;have l2:=rv2.length;refine gJ (I.ok.hd hc) D hz AU AV h1 h2 p1 p2 ?_ λh' k=>⟨rfl,?_⟩
  .rcases Bh with q | q
   .exact .inl (by simp;lia)
   .exact .inr (by simp;lia)
  .exact I.rQ (t':=s.toks) (ch:=[z,TO,i1,i2,TI]) (λb u hb e=>by
    simp only[CK,DL,or_false,not_or] at hb;exact k b u hb.1 hb.2.1 hb.2.2.1 hb.2.2.2.1 e) hf
 self:=λ_ _ _ _ _ st h=>by
  obtain⟨hz,_⟩:=st;exact wpAny_pyIter_zip hz h
theorem uI(n:Nat):n+2≠n+4/\n+3≠n+4/\n≠n+4/\n+1≠n+4/\n+2≠n+3/\n+2≠n/\n+2≠n+1/\n+3≠n/\n+3≠n+1/\n≠n+1:=by
 refine⟨?_,?_,?_,?_,?_,?_,?_,?_,?_,?_⟩ <;> lia
def xT(K:PySem.W.Frag)(tl:TA):TI:=fun σ H R=>tl σ H λvs H1=>∃ b1 b2 a1 a2,vs=[.ref a1,.ref a2]/\(∃ xs,kJ K H1 b1 a1 xs)/\(∃ ys,kJ K H1 b2 a2 ys)/\R (y6 K b1 b2 a1 a2) H1
theorem wu{tp:Pos}{l1 l2:Expr}{tl:TA}{p:Pos}(hg:Gl X "zip")(hm:X.mg "zip" = none)(hl:PA X [l1,l2] tl)(hs:autoParam (starEach [l1,l2] X.env=[(false,eval l1 X.env),(false,eval l2 X.env)]) aR._auto_1)(hs2:autoParam (starEach [l2] X.env=[(false,eval l2 X.env)]) aR._auto_1) :
  PI X (.Tuple elts x1 tp) (.Call (.Name "zip" p) [l1,l2] [] pos) (xT X.K tl):=by
 intro z0 s σ H R I h;refine Call_ (ip I hg hm PyProof.Rows.boot_zip (DW (bM (hl pos z0 s σ H _ I h) λus s1 ⟨vs,H1,I1,r1,q1⟩=>?_) (by rw[hs,hs2]) (by rw[hs2];rfl)));obtain⟨b1,b2,a1,a2,e,⟨xs,AH⟩,⟨ys,AI⟩,q⟩:=q1;subst e;cases r1 with
 | cons r rr =>
  cases rr with
  | cons r' rr =>
   cases rr;cases (show _=CA a1 from r);cases (show _=CA a2 from r');obtain⟨Cb,rv1,p1,hz1⟩:=I1.row AH;obtain⟨A2,rv2,p2,hz2⟩:=I1.row AI;refine m7 p1 p2 λh' g1 g2 g3 g4 g5 g6 g7=>?_;have I2:Inv X z0 σ H1 { s1 with heap:=h' }:=I1.kept (t':=s1.toks) g7;refine wpAny_pyIter_zip (s:={ s1 with heap:=h' }) g1 ?_;refine⟨s1.heap.objs.size+4,[s1.heap.objs.size+4,s1.heap.objs.size+3,s1.heap.objs.size,s1.heap.objs.size+1,s1.heap.objs.size+2],_,_,H1,rfl,I2,
    qB b1 b2 a1 a2 _ _ _ _ _ (uI s1.heap.objs.size),⟨g1,g2,⟨_,_,g3⟩,g4,g5⟩,λb hb=>?_,q⟩
   have hle:s1.heap.objs.size<=b:=by
    simp only[CK,DL,or_false] at hb;rcases hb with q | q | q | q | q
    .rw[q];exact Es _ 4
    .rw[q];exact Es _ 3
    .rw[q];exact Cs _
    .rw[q];exact Es _ 1
    .rw[q];exact Es _ 2
   exact I1.ka hle (I1.aJ.fresh hle)
def yH(K:PySem.W.Frag)(b:Bool)(a:Addr):It:=match b with
 | true=>zi K a
 | false=>zm K a
def xi(K:PySem.W.Frag)(tl:TE):TI:=fun σ H R=>tl σ H λx H1=>∃ b a,x=.ref a/\(∃ xs,kJ K H1 b a xs)/\R (yH K b a) H1
theorem ia{l:Expr}{tl:TE}(hl:PE X l tl):PI X tg l (xi X.K tl):=by
 intro z0 s σ H R I h;refine bM (hl z0 s σ H _ I h) λv s1 ⟨x,H1,I1,r1,q1⟩=>?_;obtain⟨b,a,e,⟨xs,hq⟩,q⟩:=q1;subst e;cases r1;cases b with
 | true =>
  obtain⟨z7,rv,p,hz⟩:=I1.list hq;refine EZ p.isList ?_;refine⟨s1.heap.objs.size,[s1.heap.objs.size],_,_,H1,rfl,I1.kept (t':=s1.toks) λb o e=>Cm _ e,mX a _,⟨_,Cy _ rfl,rfl,rfl⟩,λb hb=>?_,q⟩;have e:b=s1.heap.objs.size:=by simpa using hb
  subst e;exact I1.ka (Cs _) (I1.aJ.fresh (Cs _))
 | false =>
  obtain⟨z7,rv,p,hz⟩:=I1.tuple hq;refine FW (show s1.heap.IsTuple a z7.toArray from p) ?_;refine⟨s1.heap.objs.size,[s1.heap.objs.size],_,_,H1,rfl,I1.kept (t':=s1.toks) λb o e=>Cm _ e,lr a _,⟨_,Cy _ rfl,rfl,rfl⟩,λb hb=>?_,q⟩;have e:b=s1.heap.objs.size:=by simpa using hb
  subst e;exact I1.ka (Cs _) (I1.aJ.fresh (Cs _))
structure fE (K:PySem.W.Frag) (C:Addr):Prop where
 ga:PySem.W.findIn K (.ref C) "__getattribute__" = some (some (.builtin "BaseException.__getattribute__"))
 gn:PySem.W.findIn K (.ref C) "__getattr__" = some none
 hd:PySem.W.hasDictIn K C=true
 sa:PySem.W.findIn K (.ref C) "__setattr__" = some (some (.builtin "object.__setattr__"))
 mb:PySem.W.mroIn K C (.type "BaseException")=some true
 mo:PySem.W.mroIn K C (.type "object")=some true
 ca:PySem.W.findIn K (.ref C) "__class__" = some (some (.builtin "object.__class__"))
 cg:PySem.W.specialIn K (.builtin "object.__class__") "__get__" = some (some (.builtin "getset_descriptor.__get__"))
 ct:PySem.W.takesIn K (.builtin "object.__class__")=some true
variable{name:Str}{od:Option Obj}{ox:Obj}
section
variable{E:Value->Shared->Prop}{K:PySem.W.Frag}{x:Addr}
theorem pU:builtinKind "BaseException.__getattribute__" = some .slot:=by decide +kernel
theorem ng:splitId "BaseException.__getattribute__" = some ("BaseException", "__getattribute__"):=by decide +kernel
theorem u9{tk:Tok}{fill expr:Bool}(c:fE K C)(X:K.In s.heap)(I:PySem.W.InstAt s.heap x ox C od)
  (h:wpAny (model prog w) A.in1 (Builtin.«object.__getattribute__» ⟨[.ref x,.str name tk],[]⟩)
   (λfin s'=>match fin with | .done (.ret v)=>wpAny (model prog w) A (handedOut v) Q E s' | _=>False) (λ_ _=>False) s) :
  wpAny (model prog w) A (getAttrBy (.ref x) (.str name tk) fill expr) Q E s:=by
 have AD:(Ez "BaseException.__getattribute__" == Ez "object.__getattribute__")=false:=by decide +kernel
 have B_:(onTheHeap (CA C)&&Ez "BaseException.__getattribute__" == Ez "object.__getattribute__")=false:=by rw[AD];rfl
 have hx0:(expr&&onTheHeap (Ez "BaseException.__getattribute__"))=false:=by cases expr <;> rfl
 have sub:PySem.W.Looks (model prog w) s.heap (isInstance (.ref x) (.type "BaseException")) true:=I.type.andThen (PySem.W.looks_mroIn X c.mb);unfold getAttrBy;refine Df (Ck (I.type.here (Ck ((PySem.W.looks_findIn X c.ga).here ?_))));dsimp only;rw[B_,if_neg C4];unfold getAttrByItsOwn hookBefore;refine Ck ?_;show wpAny _ _ (typeLookup (.ref C) "__getattr__") _ _ _;refine(PySem.W.looks_findIn X c.gn).here ?_;refine Ck (Ey (Df ?_));unfold callGetattribute;rw[hx0,if_neg C4];unfold boundAndCalled;refine Ck (Ge (PySem.F.attr_ValueError.ga.bind _) ?_);refine Gu (codeAny_call_builtin PySem.F.attr_ValueError.ga.plain PySem.F.entry_bexc_ga (@PySem.W.check_slot (model prog w) _ _ s "BaseException.__getattribute__" "BaseException" "__getattribute__" (.ref x) [.str name tk] [] _ pU ng sub (PySem.F.args_bexc_ga _ _) ?_));refine CO h (λfin s' z=>?_) (λ_ _ z=>z.elim);rcases fin with (v | _ | _ | _) | _ <;> first | exact z | exact z.elim
end
variable{newId:String}{dd:Option Addr}
section
open PySem.Builtin.ObjectAttr (storeInOwnDict storeTaker? setByDescriptor)
abbrev iz:List Value:=[.type "ValueError", .type "Exception", .type "BaseException", .type "object"]
section
variable{E:Value->Shared->Prop}{K:PySem.W.Frag}{x:Addr}
theorem iN{a g:Value}(hc:(PySem.W.clsIn K C).isSome=true)(ha:PySem.W.findIn K (.ref C) name=some (some a))(hg:PySem.W.specialIn K a "__get__" = some (some g))(ht:PySem.W.takesIn K a=some true):PySem.W.findObj K C od name=some (.bind g a):=by
 obtain⟨cd,hc⟩:=DI.mp hc;unfold PySem.W.findObj;rw[hc,Ga,ha,Ga];simp[hg,ht]
theorem nN{Q:Option Value->Shared->Prop}(c:fE K C)(X:K.In s.heap)(I:PySem.W.InstAt s.heap x ox C od)(h:Q (some (.ref C)) { s with toks:=s.toks+1 }):wpAny (model prog w) A (getAttr? (.ref x) "__class__") Q E s:=by
 have hc:(PySem.W.clsIn K C).isSome=true:=by obtain⟨cd,hc,_⟩:=PySem.W.any_some c.hd;rw[hc];rfl
 have hf:PySem.W.findObj K C od "__class__" = some (.bind (.builtin "getset_descriptor.__get__") (.builtin "object.__class__")):=iN hc c.ca c.cg c.ct;unfold getAttr? getAttrBy?;refine Ck (wpAny_mkText (Ck (Ey ?_)));refine u9 (s:={ s with toks:=s.toks+1 }) c X I ?_;unfold Builtin.«object.__getattribute__»;refine Ck (Cp ?_);dsimp only;refine Ck (Cp ?_);refine Ck (I.type.here (s:={ s with toks:=s.toks+1 }) (Ck ((PySem.W.looks_find X I hf).here (s:={ s with toks:=s.toks+1 }) ?_)));show wpAny _ _ (holding [.builtin "object.__class__"] (call (.builtin "getset_descriptor.__get__") [.builtin "object.__class__", .ref x,.ref C]) >>= ret) _ _ _;refine Ck (Df (Gu (PySem.W.class_get (s:={ s with toks:=s.toks+1 }) (ox:=ox) (od:=od) X I c.mo ?_)));refine Cp ?_;exact PySem.W.handed_on rfl (Cp h)
theorem gW(c:fE K C):PySem.W.KitX K (.ref x) (.ref C) (λh=>PySem.W.InstAt h x ox C od) where
 ty:=λ_ _ _ I=>I.type
 it:=λ_ _ X _=>by
  obtain⟨cdD,BB,_⟩:=PySem.W.any_some c.hd;unfold PySem.W.clsIn at BB
  split at BB
  .rename_i c' d' cd' sl' ho;intro A' Q' E' s' k q;unfold isType loadHead;exact Ck (Fz (k _ _ (X _ _ ho)) (Cp q))
  .cases BB
 ne:=λh tp dd z7 n sl X B9=>by
  obtain⟨cdD,BB,_⟩:=PySem.W.any_some c.hd;refine Bool.eq_false_iff.mpr λq=>?_;have e:C=tp:=Value.ref.inj (beq_iff_eq.mp q);subst e;unfold PySem.W.clsIn at BB
  split at BB
  .rename_i c' d' cd' sl' ho;have z:=(X _ _ ho).symm.trans B9;cases z
  .cases BB
 ca:=λX I k=>nN c X I k
end
section
variable{E:Value->Shared->Prop}{g:Array GenState}{d:Drawn}{t:Nat}{os:OsState}
variable{nm q:Str}{N:Addr}{bs bm:List Value}{BC:Bool}{sn:List Str}{sub:List Value}{ab:Bool}{col:Option Bool}{k0 k1 k2 k3 k5:Option Value}{initId:String}
end
end
def cF(C:Addr)(dd:Option Addr)(e:Addr):HO:=.ext λh=>∃ vs,h.get? e=some ⟨.ref C,dd,.fields vs,#[]⟩
theorem tf{e:Addr}{vs:Array Value}(he:h.get? e=some ⟨.ref C,dd,.fields vs,#[]⟩):aP P w H h e (cF C dd e) :=
 ⟨⟨vs,he⟩,⟨_,he⟩,λ_ _ ⟨vs,q⟩ k=>⟨vs,k _ q⟩⟩
def ExcAt(H:Hp)(e C:Addr)(fo:Option (List (Str×V))):Prop:=match fo with
 | none=>H e=some (cF C none e)
 | some fs=>∃ d,H e=some (cF C (some d) e)/\H d=some (.xd fs)
theorem Inv.gY(I:Inv X z0 σ H s){e:Addr}(he:H e=some (cF C dd e)):∃ vs,s.heap.get? e=some ⟨.ref C,dd,.fields vs,#[]⟩:=(I.aJ e _ he).1
theorem Inv.ma(I:Inv X z0 σ H s){e:Addr}{fo:Option (List (Str×V))}(h:ExcAt H e C fo):∃ ox od,PySem.W.InstAt s.heap e ox C od/\(fo=none->od=none) ∧
  ∀ fs,fo=some fs->∃ (o:Obj) (mA:Str->Option Value),od=some o/\(∀ n,PySem.W.lookIn n o=some (mA n))/\∀ f,o9 (fs.lookup f) (mA f):=by
 cases fo with
 | none =>
  obtain⟨vs,q⟩:=I.gY h;exact⟨_,none,⟨q,rfl,rfl,trivial⟩,λ_=>rfl,λfs z=>(by cases z)⟩
 | some fs =>
  obtain⟨d,h1,h2⟩:=h;obtain⟨vs,q⟩:=I.gY h1;obtain⟨mA,n,r⟩:=(show ∃ mA,s.heap.Ns1 d mA/\∀ f,o9 (fs.lookup f) (mA f) from I.aJ d _ h2)
  obtain⟨o,ho,hl⟩:=f_ n;refine⟨_,some o,⟨q,rfl,rfl,ho⟩,λz=>(by cases z),λfs' z=>?_⟩;cases z;exact⟨o,mA,rfl,hl,r⟩
theorem Inv.qh(I:Inv X z0 σ H s)(hn:s.heap.get? a=none):H a=none:=by
 cases q:H a with
 | none=>rfl
 | some u =>
  exfalso;have:∀ (u:HO),aP X.prog X.w H s.heap a u->∃ ob,s.heap.get? a=some ob:=by
   intro u
   induction u with
   | lst xs=>intro ⟨_,_,_,_,e⟩;exact⟨_,e⟩
   | tup xs=>intro ⟨_,_,_,p⟩;obtain⟨ob,e,_⟩:=p;exact⟨ob,e⟩
   | dK Ar=>intro ⟨_,_,_,_,p⟩;obtain⟨ob,_,_,e,_⟩:=p;exact⟨ob,e⟩
   | dT Ar=>intro ⟨_,_,_,_,ob,_,_,e,_⟩;exact⟨ob,e⟩
   | set S n=>intro p;obtain⟨es,ob,xs,ep,e,_⟩:=p;exact⟨_,e⟩
   | ins C dx fs=>intro ⟨_,_,_,e,_⟩;exact⟨_,e⟩
   | own x=>intro ⟨ob,e⟩;exact⟨ob,e⟩
   | xd fs=>intro ⟨mA,n,_⟩;obtain⟨ob,e,_⟩:=f_ n;exact⟨ob,e⟩
   | met f x=>intro e;exact⟨_,e⟩
   | yy lo hi=>intro ⟨_,_,_,e⟩;exact⟨_,e⟩
   | iK o u _=>intro ⟨e,_⟩;exact⟨_,e⟩
   | uc ps=>intro e;exact⟨_,e⟩
   | ext φ=>intro ⟨_,⟨ob,e⟩,_⟩;exact⟨ob,e⟩
  obtain⟨ob,e⟩:=this u (I.aJ a u q);rw[hn] at e;cases e
theorem Inv.xt(I:Inv X z0 σ H s)(k:∀ b u,s.heap.get? b=some u->h'.get? b=some u)(hn:s.heap.get? a=none)(new:aP X.prog X.w (upd H a o) h' a o) :
  Inv X z0 σ (upd H a o) { s with heap:=h',toks:=t' }:=by
 have ne:∀ b u,s.heap.get? b=some u->b≠a:=λb u e z=>by rw[z,hn] at e;cases e
 have A6:H a=none:=I.qh hn;have Bm:∀ b u,H b=some u->b≠a:=λb u e z=>by rw[z,A6] at e;cases e
 refine I.un ⟨λb u e _ _ _=>k b u e,λb u e _ _ _=>⟨u.slots,k b u e⟩,λb u e n _=>by rw[ai (ne b u e)];exact n,λb u e _=>⟨u,k b u e⟩,
  λb xs e=>by rw[ai (Bm b _ e)];exact e,λb ob u e=>by rw[ai (Bm b _ e)];exact e,λb ps e=>⟨#[],by rw[ai (Bm b _ e),e];simp⟩⟩ λb u e=>?_
 by_cases z:b=a
 .subst z;rw[au] at e;cases e;exact new
 .rw[ai z] at e;refine(I.aJ b u e).fD (λc v _ q=>k c v q) (λc q=>?_) λc ys q=>?_
  .rw[ai (Bm c _ q)];exact q
  .rw[ai (Bm c _ q)];exact q
variable{apos:Pos}{m:Str}{ta:TE}
section
variable{o:Expr}{f:Str}
def za(K:PySem.W.Frag):List V->Hp->VK->Prop:=λxs H Q=>∃ e C fo b,fE K C/\ExcAt H e C fo ∧
 ((∃ T,xs=[.ref e,.ty T]/\PySem.W.kitOne K (.ref C) (.type T)=some b)\/(∃ D,xs=[.ref e,.ref D]/\PySem.W.kitOne K (.ref C) (.ref D)=some b))/\Q (.bl b) H
theorem kD:bj X (.builtin "isinstance") (za X.K):=by
 intro z0 s σ H xs us Q I r h;obtain⟨e,C,fo,b,c,ha,hc,q⟩:=h;obtain⟨ox,od,J,_⟩:=I.ma ha;rcases hc with ⟨T,rfl,hk⟩ | ⟨D,rfl,hk⟩
 .cases r with
  | cons r1 r2 =>
   cases r2 with
   | cons r3 r4 =>
    cases r4;cases (show _=CA e from r1);cases (show _=DM T from r3);exact PySem.W.kia_one (gW c) I.gx J hk (λz=>nomatch z) λtk=>⟨.bl b,H,I.tok tk,rfl,q⟩
 .cases r with
  | cons r1 r2 =>
   cases r2 with
   | cons r3 r4 =>
    cases r4;cases (show _=CA e from r1);cases (show _=CA D from r3);exact PySem.W.kia_one (gW c) I.gx J hk (λz=>nomatch z) λtk=>⟨.bl b,H,I.tok tk,rfl,q⟩
end
theorem qU{K:PySem.W.Frag}(X:K.In h)(q:PySem.W.excIn K C iz newId=true) :
  ∃ bm N nm qn bs BC sn sub ab col dd k0 k1 k2 k3 k5 mN,h.get? C=some (excClassObj nm qn C N bs bm BC sn sub ab col dd k0 k1 k2 k3 k5 newId)/\h.Ns N mN/\mN "__init__" = none/\OwnTail h iz bm:=by
 unfold PySem.W.excIn at q
 split at q
 .rename_i dd cd sl ho
  split at q
  .rename_i C' bm k0 k1 k2 k3 n k5 hm hs;simp only[C5,beq_iff_eq,Bool.not_eq_true'] at q;obtain⟨⟨⟨⟨⟨rfl,rfl⟩,B3⟩,ht⟩,aJ⟩,BN⟩:=q;obtain⟨nm,bs,mro,ns,qn,hd,sn,sub,ab,col,del⟩:=cd;dsimp only at hm B3 aJ BN;subst hm B3;have hsl:sl=#[k0,k1,k2,k3,some (.builtin n),k5]:=by
    obtain⟨l⟩:=sl;simp only at hs;rw[hs]
   subst hsl;exact⟨bm,ns,nm,qn,bs,hd,sn,sub,ab,col,dd,k0,k1,k2,k3,k5,_,X _ _ ho,.of_isNs (PySem.W.isNs_of_in X aJ),PySem.W.nsMap_none_of_in X aJ BN,PySem.W.tail_of_in X ht⟩
  .cases q
 .cases q
variable{k:Nat}{t:TA}{es:List Expr}{e:Expr}{sp:Sp}{ps:List Str}{fd:FuncData}{f:Addr}
section
variable{p:Pos}
end
section
open PySem.SeqAt (shaped noMix noMixAll)
end
section
open PySem.SeqAt (shaped noMix noMixAll)
theorem sq{x:V}{u t:Value}(I:Inv X z0 σ H s)(rx:RelV x u)(ty:dE X.K H x t):∃ HH:Heap->Prop,PySem.W.KitX X.K u t HH/\HH s.heap/\u≠.builtin "__main__.__loader__#opaque" := by
 cases ty with
 | bL=>cases (show u=CV from rx);exact⟨_,PySem.W.kitx_none,DO,λz=>nomatch z⟩
 | bl y=>cases (show u=DH y from rx);exact⟨_,PySem.W.kitx_bool,DO,λz=>nomatch z⟩
 | int i=>obtain⟨t,q⟩:=(show ∃ t,u=FE i t from rx);cases q;exact⟨_,PySem.W.kitx_int,DO,λz=>nomatch z⟩
 | str y=>obtain⟨t,q⟩:=(show ∃ t,u=FG y t from rx);cases q;exact⟨_,PySem.W.kitx_str,DO,λz=>nomatch z⟩
 | uK y=>obtain⟨t,q⟩:=(show ∃ t,u=Gb y t from rx);cases q;exact⟨_,PySem.W.kitx_float,DO,λz=>nomatch z⟩
 | @lst a xs ea =>
  cases (show u=CA a from rx);obtain⟨_,_,n,_,h1⟩:=(show aP X.prog X.w H s.heap a (.lst xs) from I.aJ a _ ea)
  exact⟨_,PySem.W.kitx_list,⟨_,h1,rfl⟩,λz=>nomatch z⟩
 | @iK a ob xs ea =>
  cases (show u=CA a from rx);obtain⟨_,_,_,n,_,h1⟩:=(show aP X.prog X.w H s.heap a (.iK ob (.lst xs)) from I.aJ a _ ea)
  exact⟨_,PySem.W.kitx_list,⟨_,h1,rfl⟩,λz=>nomatch z⟩
 | @tup a xs ea =>
  cases (show u=CA a from rx);obtain⟨_,_,_,o,h1,h2,_⟩:=(show aP X.prog X.w H s.heap a (.tup xs) from I.aJ a _ ea)
  exact⟨_,PySem.W.kitx_tuple,⟨o,h1,h2⟩,λz=>nomatch z⟩
 | @dK a Ar ea =>
  cases (show u=CA a from rx);obtain⟨_,_,vs,_,o,es,ep,h1,h2,_⟩:=(show aP X.prog X.w H s.heap a (.dK Ar) from I.aJ a _ ea)
  exact⟨_,PySem.W.kitx_dict,⟨o,h1,h2.1⟩,λz=>nomatch z⟩
 | @dT a Ar ea =>
  cases (show u=CA a from rx);obtain⟨_,_,xs,_,o,es,ep,h1,h2,_⟩:=(show aP X.prog X.w H s.heap a (.dT Ar) from I.aJ a _ ea)
  exact⟨_,PySem.W.kitx_dict,⟨o,h1,h2.1⟩,λz=>nomatch z⟩
 | @ins a C dx fs ea cl ha hn wX hm =>
  cases (show u=CA a from rx);obtain⟨mA,O,_⟩:=mF I.aJ ea;obtain⟨od,J,_⟩:=O.look;exact⟨_,PySem.W.kitx_own (cl.get _) cl.hd ha hn wX hm,J,λz=>nomatch z⟩
def xA(K:PySem.W.Frag):List V->Hp->VK->Prop:=λxs H Q=>∃ (x:V) (tp:Addr) (Ts:List String) (t:Value) (b:Bool),xs=[x,.ref tp]/\H tp=some (.tup (Ts.map V.ty))/\dE K H x t/\PySem.W.kitAny K t (Ts.map DM)=some b/\Q (.bl b) H
theorem lP:∀ {Ts:List String} {us:List Value},Vals (Ts.map V.ty) us->us=Ts.map DM
 | [],us,r=>by rw[F6] at r;cases r;rfl
 | T::Ts,us,r=>by
  rw[CZ] at r;cases r with
  | cons r1 r2 =>
   cases (show _=DM T from r1);rw[lP r2];rfl
theorem nA:bj X (.builtin "isinstance") (xA X.K):=by
 intro z0 s σ H xs us Q I r h;obtain⟨x,tp,Ts,t,b,rfl,B9,ty,e,q⟩:=h;cases r with
 | cons r1 r2 =>
  cases r2 with
  | cons r3 r4 =>
   cases r4;cases (show _=CA tp from r3);obtain⟨HH,Z,p,ne⟩:=sq I r1 ty;obtain⟨_,z7,rv,o,h1,h2,n,h3⟩:=(show aP X.prog X.w H s.heap tp (.tup (Ts.map V.ty)) from I.aJ tp _ B9)
   have ei:=lP rv;subst ei;obtain⟨cls,dd,data,sl⟩:=o;dsimp only at h2 h3;subst h2 h3;exact PySem.W.kia_tup Z I.gx p h1 e ne λtk=>⟨.bl b,H,I.tok tk,rfl,q⟩
theorem mG:∀ {bs:List Bool} {us:List Value},Vals (bs.map V.bl) us->us=bs.map DH
 | [],us,r=>by rw[F6] at r;cases r;rfl
 | b::bs,us,r=>by
  rw[CZ] at r;cases r with
  | cons r1 r2 =>
   cases (show _=DH b from r1);rw[mG r2];rfl
theorem vk:bootBuiltins "all" = some (.builtin "all"):=by decide +kernel
theorem nF(hc:X.calm=true):bj X (.builtin "all") (λxs H Q=>∃ (a:Addr) (bs:List Bool),xs=[.ref a]/\dF X.K H a (bs.map V.bl)/\Q (.bl (bs.all id)) H):=by
 intro z0 s σ H xs us Q I r h;obtain⟨a,bs,rfl,hq,q⟩:=h;cases r with
 | cons r1 r2 =>
  cases r2;cases (show _=CA a from r1);obtain⟨z7,rv,p,hz⟩:=I.list hq;have ei:=mG rv;subst ei;have hl:=p.isList;have Am:a<s.heap.objs.size:=by obtain⟨_,e,_⟩:=hl;exact Cq e
  refine call_all_walk (EZ hl ?_);refine⟨s.heap.objs.size,[s.heap.objs.size,a],[s.heap.objs.size],(bs.map DH).toArray.size,_,_,λi=>(bs[i]?).getD true,rfl,Walks.list (A:=X.A.in1) (I.ok.hd hc) _ a (CC Am) (bs.map DH).toArray,
   ⟨⟨_,Cy _ rfl,rfl,rfl⟩,hl.push _⟩,λi v s' Q' E' hP hQ=>?_,λh' tk hk=>?_⟩
  .have hP':(bs.map DH)[i]?=some v:=by simpa using hP
   rw[CL] at hP';obtain⟨b,e1,e2⟩:=CI.mp hP';subst e2;simp only[e1,E6] at hQ;exact Dh hQ
  .have e:((DN (bs.map DH).toArray.size).all λi=>(bs[i]?).getD true)=bs.all id:=by
    rw[Ct,Cv];rw[Gk,CD,CD];constructor
    .intro h b hb;obtain⟨i,hi,e⟩:=List.getElem_of_mem hb;have:=h i (EL.mpr hi);simp only[Co hi,E6,e] at this;exact this
    .intro h i hi;have hi':=EL.mp hi;simp only[Co hi',E6];exact h _ (Et hi')
   rw[e];refine⟨.bl _,H,I.kept (t':=tk) (λb x e=>?_),rfl,q⟩;exact hk b x (λhm=>by rw[CW.mp hm] at e;exact Ds _ (Cq e)) (Cm _ e)
end
section
open PySem.MeetsSeq PySem.MeetsSeq2 PySem.MeetsSeq3
theorem fN:fillsNumberSlot (.type "tuple") "mul" = pure false :=
 PySem.fillsNumberSlot_seq (id := "tuple.__mul__") (r:=some (.builtin "tuple.__rmul__")) F.slot_tuple_mul.lookup (by decide +kernel) F.slot_tuple_rmul.lookup (by decide +kernel)
theorem jX:seqRepeat? (.type "tuple")=pure (some (.builtin "tuple.__mul__")):=by
 unfold seqRepeat?;rw[PySem.seqSlot_of (T := "tuple") (name := "__mul__") (id := "tuple.__mul__") F.slot_tuple_mul.lookup (by decide +kernel),PySem.seqSlot_of (T := "tuple") (name := "__rmul__") (id := "tuple.__rmul__") F.slot_tuple_rmul.lookup (by decide +kernel)];rfl
theorem jV(a:Int)(t:Tok)(l:Addr)(z6:Array Value)(n:Nat)(dd:Option Addr)(sl:Array (Option Value)) :
  Meets (Builtin.«int.__rmul__» ⟨[.int a t,.ref l],[]⟩) (λ_ R s=>s.heap.get? l=some ⟨.type "tuple", dd,.seq z6 n,sl⟩/\R (.ok (.ret Value.notImplemented)) s) :=
 .of_wp λprog w A R s h=>by obtain⟨hp,g,d,tk,os⟩:=s;obtain⟨hl,h⟩:=h;wp_walk;exact⟨_,rfl,h⟩
theorem mP(l:Addr)(z6:Array Value)(n:Nat)(dd:Option Addr)(sl:Array (Option Value))(u:Tok) :
  Meets (Builtin.«tuple.__mul__» ⟨[.ref l,.int 1 u],[]⟩) (λ_ R s=>s.heap.get? l=some ⟨.type "tuple", dd,.seq z6 n,sl⟩/\R (.ok (.ret (.ref l))) s) :=
 .of_wp λprog w A R s h=>by
  obtain⟨hp,g,d,tk,os⟩:=s;obtain⟨hl,h⟩:=h;have f1:=E7;have f2:=D_
  wp_walk using C_ hl
  exact⟨_,rfl,h⟩
theorem nH(l:Addr)(z6:Array Value)(n:Nat)(dd:Option Addr)(sl:Array (Option Value))(x:Int)(u:Tok)(c0:¬ (decide (x < -2^63)||decide (x>=2^63))=true)(c1:¬ (z6.isEmpty||x==1)=true)(c2:¬ (decide (x<=0)||z6.isEmpty)=true)
  (c3:¬ (z6.size:Int)*x>(2^63-1)/8) (c4:¬ EU ((z6.size:Int)*x)=true) (A1:(ET (λx1 x2=>x1++x2) #[] (Cw x.toNat z6)).size<=sizeLine) :
  Meets (Builtin.«tuple.__mul__» ⟨[.ref l,.int x u],[]⟩) (λ_ R s=>s.heap.get? l=some ⟨.type "tuple", dd,.seq z6 n,sl⟩/\R (.ok (.ret (.ref s.heap.objs.size))) { s with heap:=s.heap.push { cls:=.type "tuple", data:=.seq (ET (λx1 x2=>x1++x2) #[] (Cw x.toNat z6)) },toks:=s.toks }) :=
 .of_wp λprog w A R s h=>by
  obtain⟨hp,g,d,tk,os⟩:=s;obtain⟨hl,h⟩:=h;have f1:=E7;have f2:=D_
  wp_walk using C_ hl
  refine Fp (decide_eq_false c0) ?_;wp_walk using C_ hl;refine Fp (decide_eq_false c3) ?_;wp_walk using C_ hl;exact⟨_,rfl,h⟩
theorem mU(l:Addr)(z6:Array Value)(n:Nat)(dd:Option Addr)(sl:Array (Option Value))(x:Int)(u:Tok)(c0:¬ (decide (x < -2^63)||decide (x>=2^63))=true)(c1:¬ (z6.isEmpty||x==1)=true)(c2:(decide (x<=0)||z6.isEmpty)=true) :
  Meets (Builtin.«tuple.__mul__» ⟨[.ref l,.int x u],[]⟩) (λ_ R s=>s.heap.get? l=some ⟨.type "tuple", dd,.seq z6 n,sl⟩/\R (.ok (.ret (.ref s.heap.objs.size))) { s with heap:=s.heap.push { cls:=.type "tuple", data:=.seq #[] },toks:=s.toks }) :=
 .of_wp λprog w A R s h=>by
  obtain⟨hp,g,d,tk,os⟩:=s;obtain⟨hl,h⟩:=h;have f1:=E7;have f2:=D_
  wp_walk using C_ hl
  refine Fp (decide_eq_false c0) ?_;wp_walk using C_ hl;exact⟨_,rfl,h⟩
def tN(K:PySem.W.Frag):R2:=λx y H Q=>∃ a k xs,x=.ref a/\y=.int k/\dg K H a xs/\xs≠[]/\-(2^63)<=k/\k<2^63/\xs.length*k.toNat<=sizeLine/\(k=1->Q (.ref a) H)/\(k≠1->∀ p,H p=none->Q (.ref p) (upd H p (.tup (Cw k.toNat xs).flatten)))
theorem rG:cR X (binaryOp .Mult) (tN X.K):=by
 intro z0 s σ H x y v u Q I rx ry h;obtain⟨a,k,xs,rfl,rfl,hq,hne,h1,h2,hz,q1,q2⟩:=h;cases rx;obtain⟨t,rfl⟩:=ry;obtain⟨z7,r,⟨o,e,hc,n,hd⟩,_⟩:=I.tuple hq;obtain⟨cls,dd,data,sl⟩:=o;dsimp only at hc hd;subst hc hd;have hl:=r.length;refine EW (T := "tuple") (U := "int") (by decide) ⟨_,e,rfl⟩ (λs'=>Fb s' k t) fN F.fills_int_mul F.slot_int_rmul jX F.slot_int_index.lookup
  (DP F.slot_int_rmul (Fb s k t) F.entry_int_rmul (F.args_int_rmul_2 _ _) (jV k t a z7.toArray n dd sl) ⟨e,rfl,⟨_,e,rfl⟩,?_⟩)
 by_cases hk1:k=1
 .subst hk1;exact DP F.slot_tuple_mul ⟨_,e,rfl⟩ F.entry_tuple_mul (F.args_tuple_mul_2 _ _) (mP a z7.toArray n dd sl t) ⟨e,⟨.ref a,H,I,rfl,q1 rfl⟩⟩
 .have hb1:(k==1)=false:=by simpa using hk1
  have BN:z7≠[]:=λz=>hne (r.fF.mp z);have hie:z7.toArray.isEmpty=false:=by cases z7 with | nil=>exact absurd rfl BN | cons _ _=>rfl
  have c0:¬ (decide (k < -2^63)||decide (k>=2^63))=true:=by simp;lia
  have c1:¬ (z7.toArray.isEmpty||k==1)=true:=by rw[hie,hb1];simp
  have fin:∀ ys,ys=(Cw k.toNat z7).flatten.toArray->EP X z0 σ Q (.ref s.heap.objs.size) { s with heap:=s.heap.push { cls:=.type "tuple", data:=.seq ys },toks:=s.toks }:=λys ey=>by
   subst ey;refine⟨.ref s.heap.objs.size,_,I.laid (t':=s.toks) (o:=.tup (Cw k.toNat xs).flatten) (λb ob q=>Cm _ q) (Cs _) ?_,rfl,q2 hk1 _ (I.aJ.fresh (Cs _))⟩;exact⟨by rw[len_rep,F5];exact hz,_,r.rep k.toNat,F8 _ _⟩
  have A_:ET (λx1 x2=>x1++x2) #[] (Cw k.toNat z7.toArray)=(Cw k.toNat z7).flatten.toArray:=by
   have:=foldl_rep z7 k.toNat [];rw[Gh] at this;exact this
  by_cases hk0:k<=0
  .have c2:(decide (k<=0)||z7.toArray.isEmpty)=true:=by rw[decide_eq_true hk0];rfl
   refine DP F.slot_tuple_mul ⟨_,e,rfl⟩ F.entry_tuple_mul (F.args_tuple_mul_2 _ _) (mU a z7.toArray n dd sl k t c0 c1 c2) ⟨e,fin _ ?_⟩;rw[show k.toNat=0 by lia];rfl
  .have c2:¬ (decide (k<=0)||z7.toArray.isEmpty)=true:=by rw[decide_eq_false hk0,hie];simp
   have em:((z7.toArray.size:Nat):Int)*k=((xs.length*k.toNat:Nat):Int):=by
    rw[Ct,<- hl,Int.natCast_mul,Int.toNat_of_nonneg (by lia)]
   have hs:(sizeLine:Int)<=(2^63-1)/8:=by decide
   refine DP F.slot_tuple_mul ⟨_,e,rfl⟩ F.entry_tuple_mul (F.args_tuple_mul_2 _ _) (nH a z7.toArray n dd sl k t c0 c1 c2 ?_ ?_ ?_) ⟨e,fin _ A_⟩
   .rw[em];lia
   .rw[em];unfold EU;simp only[decide_eq_true_eq];lia
   .rw[A_,Ct,len_rep,F5,<- hl];exact hz
end
structure cN (K:PySem.W.Frag) (x qual:Str) (st:Stmt) (dv:Value) (f:Addr) (fd:FuncData):Prop where
 ex:∃ (oc:Value) (od:Option Addr) (kV doc pm:Value) (an:Option Addr) (Al ct:Value) (BJ:Array (Option Value)),
  fd=PySem.W.fnOf x qual (d_ st) (cU st) (aS st) dv kV doc pm an Al ct/\K.lookup f=some ⟨oc,od,.func fd,BJ⟩/\PySem.W.codeIn K Al qual=true
 kp:PySem.W.keepIn K (.ref f)=true
variable{base:Heap}{mg:Str->Option Value}
section
variable{K:PySem.W.Frag}
end
variable{v:V}
theorem t_(hg:Gl X x)(hm:∃ u,X.mg x=some u/\RelV v u)(hd:autoParam ((x==("__debug__" : Str))=false) aD._auto_1):PE X (.Name x pos) (tC v):=by
 obtain⟨u,h1,h2⟩:=hm;exact gN hg h1 h2 hd
variable{y:Str}
theorem qN{cl:List (Str×Addr)}{A3 py:Pos}{wi:TI}{g:TG}{fs:List Str}(hN:X.N.Nodup)(hiy:X.N[i]?=some y)(hy:Loc X.env.scope y)(z9:X.calm=true)
  (Ab:closureFor scope X.env=pure cl) (hk:scope.kind=.function) (nc:b_ scope.names=true) (lo:cw scope.names=true) (fh:cv cl scope.names=true) (ag:bJ X cl) (fr:cA X scope cl fs js)
  (hi:PI X tg iter wi) (hg:∀ C s₀ H₀ ex z0,PG (gm X scope cl (ts++fs) C s₀ H₀ ex z0) tg g) (he:∀ C s₀ H₀ ex z0,PE (gm X scope cl (ts++fs) C s₀ H₀ ex z0) elt te)
  (hs:autoParam (∀ x,foldedSetIterable iter X.env x=pure x) aI._auto_1) (hsw:autoParam (swapsWith (.ListComp elt [⟨tg,iter,[],0⟩] scope pos) (some (.Name y py)) A3.line X.env=pure true) aR._auto_1)
  (hf:autoParam (X.fn y=true\/X.env.scope.names.lookup y=some .local) aF._auto_1) :
  PS X (.Assign [.Name y py] (.ListComp elt [⟨tg,iter,[],0⟩] scope pos) A3) (yc (jZ wi g te ts js) (cB i)):=by
 intro z0 s σ H D I h;rw[exec_Assign_Name_used _ _ _ _ hsw];refine Ck (D9 (Ck ?_));show wpAny _ X.A (do let _ <- comprehension (.ListComp elt [⟨tg,iter,[],0⟩] scope pos) scope X.env _ (newList []) false (eval iter X.env) (some (assign (.Name y py) X.env))) _ _ s;refine Ck (CO (kq (tt:=none) z9 Ab hk nc lo fh ag fr hi hg (λ_ _ _ _ _=>trivial) he hs I (show mm wi g none te ts js σ H (λx H1=>D.nx (σ.set i (some x)) H1) from h) (some (assign (.Name y py) X.env)) (λ_ s'=>SP X z0 D .next s') λDd H' s' C Io q hm f=>?_) (λ_ s' hq=>Cp (Cp hq)) λ_ _ e=>e);show wpAny _ X.A (assign (.Name y py) X.env (.ref Dd)) _ _ s';refine F0 (iR Io hN hiy hy (v:=.ref Dd) rfl (λs'' I'' ⟨a,sb,ha⟩=>?_) hf);obtain⟨m,hn⟩:=hm;obtain⟨f0,f1,f2,f3,f4,f5⟩:=f;have naC:a≠C:=by
  rcases ha with z | z
  .rw[z];exact λw=>f1 w.symm
  .exact f4 y a z
 refine⟨m,hn.sameBut sb (Eh naC),λh' Bl=>?_⟩;exact⟨_,H',I''.other ⟨f0,f1,f2,f3,f4,f5⟩ Bl,q⟩
section
variable{E:Value->Shared->Prop}
variable{b1 b2 b3:Bool}{z TI TO i1 i2 i3 l1 l2 l3:Addr}{k3:Nat}{xs zs:Array Value}{x y v a b c:Value}
end
section
variable{E:Value->Shared->Prop}
variable{b1 b2 b3:Bool}{z TI TO i1 i2 i3 l1 l2 l3:Addr}{k3:Nat}{xs zs:Array Value}{x y v a b c:Value}
end
section
variable{E:Value->Shared->Prop}
end
variable{oe:Obj}{outer:List Env}
variable{to:Option Addr}
section
variable{M:Model}{E:Value->Shared->Prop}
theorem ja{env:Env}{L e:Addr}{vs:Array Value}{head:Value}{Bt:Bool}{Q:Unit->Shared->Prop}
  (A6:A.frames=some (env::outer)) (hl:s.heap.FunFrames base (env::outer)) (hf:env.frame=some L)
  (he:s.heap.get? e=some oe) (hd:oe.data=.fields vs) (A1:1<vs.size)
  (h:∀ h' T oT ts,h'.get? e=some (Dt (·.setIfInBounds 1 (.ref T)) oe)->s.heap.objs.size<=T->T≠e->h'.get? T=some oT->oT.data=.fields ts->ts[3]?=some (rawInt L) ->
   (∀ b o,b≠e->b ∉ j1 (env::outer)->s.heap.get? b=some o->h'.get? b=some o)->(∀ b o,b≠e->s.heap.get? b=some o->∃ sl,h'.get? b=some { o with slots:=sl })->Q () { s with heap:=h' }) :
  wpAny M A (do let a <- frameOf env;let pl <- entryPlaceOf L Bt;let b <- FJ head a .none (rawInt L) .none pl;setField (.ref e) 1 b) Q E s:=by
 have hene:e ∉ (env::outer).filterMap (·.frame):=λhm=>by
  obtain⟨_,o,ho,B6⟩:=hl.mem hm;rw[he] at ho;injection ho with ho;subst ho;exact B6 vs hd
 refine Ck (wpAny_frameOf_fun A6 hl hf λh₁ hs1=>?_);refine Ck (wpAny_entryPlaceOf λpl Aq=>?_);unfold FJ newFields;refine Ck (C8 ?_ (Aq.sizeOk5 _ _ _ _ _));have he1:h₁.get? e=some oe:=(hs1.2.1 e hene).trans he;have he2:=Cm (h:=h₁) { cls:=.type "traceback", dict:=none,data:=.fields ([head,.ref L,.none,rawInt L,.none]++(if pl.isEmpty then Cw 6 CV else pl)).toArray } he1;have hTe:h₁.objs.size≠e:=Ei (Cq he1);have hd3:=Dw hd (·.setIfInBounds 1 (CA h₁.objs.size));have he3:=DU (Dt (·.setIfInBounds 1 (CA h₁.objs.size))) he2 (DV hd3);have hT₃:=(Dq (h₁.push { cls:=.type "traceback", dict:=none,data:=.fields ([head,.ref L,.none,rawInt L,.none]++(if pl.isEmpty then Cw 6 CV else pl)).toArray })
  (Dt (·.setIfInBounds 1 (CA h₁.objs.size))) (Eh hTe)).trans (Cy h₁ rfl)
 have keep:∀ b o,b≠e->h₁.get? b=some o ->
   ((h₁.push { cls:=.type "traceback", dict:=none,data:=.fields ([head,.ref L,.none,rawInt L,.none]++(if pl.isEmpty then Cw 6 CV else pl)).toArray }).update e (Dt (·.setIfInBounds 1 (CA h₁.objs.size)))).get? b=some o:=λb o A9 hb=>by
  rw[Dq _ _ (Eh A9)];exact Cm _ hb
 refine El he2 hd A1 (h _ h₁.objs.size _ _ he3 ?_ hTe hT₃ rfl (by first | (simp;done) | (rcases Aq with rfl | ⟨_,_,_,_,_,_,_,rfl⟩ <;> simp)) ?_ ?_)
 .exact Nat.le_of_eq hs1.1.symm
 .intro b o A9 hbf hb;exact keep b o A9 ((hs1.2.1 b hbf).trans hb)
 .intro b o A9 hb;obtain⟨sl,hs⟩:=hs1.2.2 b o hb;exact⟨sl,keep b _ A9 hs⟩
def Lies(h:Heap)(e:Addr)(vs:Array Value)(to:Option Addr):Prop:=match to with
 | none=>vs[1]?=some .none
 | some T=>vs[1]?=some (.ref T)/\T≠e/\∃ oT ts,h.get? T=some oT/\oT.data=.fields ts/\ts[3]?=some .none
theorem iP{env:Env}{L e:Addr}{vs:Array Value}{Q:Unit->Shared->Prop}
  (A6:A.frames=some (env::outer)) (hl:s.heap.FunFrames base (env::outer)) (hf:env.frame=some L)
  (he:s.heap.get? e=some oe) (hd:oe.data=.fields vs) (hto:Lies s.heap e vs to)
  (h:∀ h' T oT ts,h'.get? e=some (Dt (·.setIfInBounds 1 (.ref T)) oe)->s.heap.objs.size<=T->T≠e->h'.get? T=some oT->oT.data=.fields ts->ts[3]?=some (rawInt L) ->
   (∀ b o,b≠e->(∀ T,to=some T->b≠T)->b ∉ j1 (env::outer)->s.heap.get? b=some o->h'.get? b=some o) ->
   (∀ b o,b≠e->(∀ T,to=some T->b≠T)->s.heap.get? b=some o->∃ sl,h'.get? b=some { o with slots:=sl })->(∀ b o,s.heap.get? b=some o->∃ o',h'.get? b=some o')->Q () { s with heap:=h' }) :
  wpAny M A (noteFrame (.ref e) env) Q E s:=by
 unfold noteFrame;simp only[hf];cases to with
 | none =>
  have h1:vs[1]?=some .none:=hto;refine Ck (CM he hd h1 ?_);rw[if_neg (by decide)];refine ja A6 hl hf he hd (CY.mp h1).1 λh' T oT ts a1 a2 a3 a4 a5 a6 a7 a8=>?_;refine h h' T oT ts a1 a2 a3 a4 a5 a6 (λb o n1 _ n2 q=>a7 b o n1 n2 q) (λb o n1 _ q=>a8 b o n1 q) λb o q=>?_
  by_cases z:b=e
  .subst z;exact⟨_,a1⟩
  .obtain⟨sl,r⟩:=a8 b o z q;exact⟨_,r⟩
 | some T0 =>
  obtain⟨h1,hTe,oT,ts,hT,hdT,h3⟩:=hto;refine Ck (CM he hd h1 ?_);rw[if_pos (show (CA T0 != CV)=true from by simp)];refine Ck (CM hT hdT h3 ?_);rw[if_neg (show ¬ ((CV==rawInt L)=true) from by simp[rawInt])];refine Ck (El hT hdT (CY.mp h3).1 ?_);have other:∀ b,b≠T0->(s.heap.update T0 (Dt (·.setIfInBounds 3 CV))).get? b=s.heap.get? b:=λb hb=>Dq _ _ (Eh hb);have Bp:∀ b o,s.heap.get? b=some o->(∀ vs,o.data≠.fields vs)->b≠T0:=λb o hb B6 q=>by
   rw[q,hT] at hb;injection hb with hb;subst hb;exact B6 ts hdT
  have BX:=DU (Dt (·.setIfInBounds 3 CV)) hT (DV (Dw hdT _));refine ja A6 (hl.of_keeps λb o hb B6=>⟨o,(other b (Bp b o hb B6)).trans hb,rfl⟩) hf ((other e (Eh hTe)).trans he) hd (CY.mp h1).1 λh' T oT' ts' a1 a2 a3 a4 a5 a6 a7 a8=>?_;refine h h' T oT' ts' a1 (by simpa [Heap.update] using a2) a3 a4 a5 a6 (λb o n1 n2 n3 q=>a7 b o n1 n3 ((other b (n2 T0 rfl)).trans q)) (λb o n1 n2 q=>a8 b o n1 ((other b (n2 T0 rfl)).trans q)) λb o q=>?_
  by_cases z:b=e
  .subst z;exact⟨_,a1⟩
  .by_cases z2:b=T0
   .subst z2;obtain⟨sl,r⟩:=a8 b _ z BX;exact⟨_,r⟩
   .obtain⟨sl,r⟩:=a8 b o z ((other b z2).trans q);exact⟨_,r⟩
end
def jy(C:Addr)(dd:Option Addr)(e:Addr):HO:=.ext λh=>∃ t,h.get? e=some ⟨.ref C,dd,.fields #[.ref t,.none,.none,.none,.bool false,.none],#[]⟩
def xx(C:Addr)(dd:Option Addr)(e T:Addr):HO:=.ext λh=>∃ vs,h.get? e=some ⟨.ref C,dd,.fields vs,#[]⟩/\vs[1]?=some (.ref T)
def zk(fl:Value)(T:Addr):HO:=.ext λh=>∃ oT ts,h.get? T=some oT/\oT.data=.fields ts/\ts[3]?=some fl
def du(Hc:Hp)(e T C:Addr)(dd:Option Addr)(fl:Value):Hp:=upd (upd Hc T (zk fl T)) e (xx C dd e T)
variable{fl:Value}{T:Addr}{Hc:Hp}
theorem fc{e:Addr}:du Hc e T C dd fl e=some (xx C dd e T):=au
theorem eT{e:Addr}(n:T≠e):du Hc e T C dd fl T=some (zk fl T):=by unfold du;rw[ai n,au]
theorem cq{e b:Addr}(n:b≠e)(n2:b≠T):du Hc e T C dd fl b=Hc b:=by unfold du;rw[ai n,ai n2]
theorem Inv.note{e:Addr}{vs:Array Value}{φ:Heap->Prop}{Q:Unit->Shared->Prop}{E:Value->Shared->Prop}(I:Inv X z0 σ H s)(Af:X.stack=X.env::X.outer)(hf:X.env.frame=some X.env.locals)
  (he:H e=some (.ext φ)) (hx:s.heap.get? e=some ⟨.ref C,dd,.fields vs,#[]⟩) (lies:Lies s.heap e vs to) (hT:∀ T,to=some T->(∃ ψ,H T=some (.ext ψ))/\Hc T=none) (hc:∀ b,b≠e->(∀ T,to=some T->b≠T)->Hc b=H b)
  (h:∀ h' T,Hc T=none->T≠e->Inv X z0 σ (du Hc e T C dd (rawInt X.env.locals)) { s with heap:=h' }->Q () { s with heap:=h' }) :
  wpAny (model X.prog X.w) X.A (noteFrame (.ref e) X.env) Q E s:=by
 have hl:=I.stack;have A6:=I.ok.frames;have sf:=I.eU;rw[Af] at hl A6 sf;refine iP (base:=X.base) A6 hl hf hx rfl lies λh' T oT ts a1 a2 a3 a4 a5 a6 a7 a8 a9=>?_;have BY:H T=none:=I.aJ.fresh a2;have nT:∀ b u,H b=some u->b≠T:=λb u q z=>by rw[z,BY] at q;cases q
 have AA:∀ b u,H b=some u->(∀ ψ,u≠.ext ψ)->b≠e/\∀ T0,to=some T0->b≠T0:=by
  intro b u q hu;refine⟨λz=>?_,λT0 z w=>?_⟩
  .rw[z,he] at q;exact hu _ (CG q).symm
  .obtain⟨⟨ψ,q2⟩,_⟩:=hT T0 z;rw[w,q2] at q;exact hu _ (CG q).symm
 have old:∀ b u,H b=some u->(∀ ψ,u≠.ext ψ)->du Hc e T C dd (rawInt X.env.locals) b=some u:=λb u q hu=>by
  obtain⟨n1,n2⟩:=AA b u q hu;rw[cq n1 (nT b u q),hc b n1 n2];exact q
 have Bu:Hc T=none:=by
  by_cases z:∃ T0,to=some T0/\T=T0
  .obtain⟨T0,z1,z2⟩:=z;rw[z2];exact(hT T0 z1).2
  .rw[hc T a3 λT0 z1 z2=>z ⟨T0,z1,z2⟩];exact BY
 have un:∀ b o,s.heap.get? b=some o->H b=none->b≠e/\(∀ T0,to=some T0->b≠T0)/\b≠T:=by
  intro b o q n;refine⟨λz=>?_,λT0 z w=>?_,CC (Cr (Cq q) a2)⟩
  .rw[z,he] at n;cases n
  .obtain⟨⟨ψ,q2⟩,_⟩:=hT T0 z;rw[w,q2] at n;cases n
 refine h h' T Bu a3 ?_;have U:Un (j1 X.stack) [] H (du Hc e T C dd (rawInt X.env.locals)) s.heap h':=by
  rw[Af];refine⟨λb o q n nf _=>?_,λb o q n _ _=>?_,λb o q n _=>?_,λb o q _=>a9 b o q,λb xs q=>old b _ q (λ_ z=>nomatch z),λb ob u q=>old b _ q (λ_ z=>nomatch z),λb ps q=>⟨#[],?_⟩⟩
  .obtain⟨n1,n2,_⟩:=un b o q n;exact a7 b o n1 n2 nf q
  .obtain⟨n1,n2,_⟩:=un b o q n;exact a8 b o n1 n2 q
  .obtain⟨n1,n2,n3⟩:=un b o q n;rw[cq n1 n3,hc b n1 n2];exact n
  .rw[old b _ q (λ_ z=>nomatch z)];simp
 have ok:fJ X.prog X.w (du Hc e T C dd (rawInt X.env.locals)) h':=λb u q=>by
  by_cases z:b=e
  .subst z;rw[fc] at q;cases q;refine⟨⟨_,a1,?_⟩,⟨_,a1⟩,λh1 h2 ⟨ws,q1,q2⟩ k=>⟨ws,k _ q1,q2⟩⟩;have A1:1<vs.size:=by
    cases to with
    | none=>exact(CY.mp (show vs[1]?=some .none from lies)).1
    | some T0=>exact(CY.mp lies.1).1
   simp[A1]
  .by_cases z2:b=T
   .subst z2;rw[eT a3] at q;cases q;exact⟨⟨oT,ts,a4,a5,a6⟩,⟨_,a4⟩,λh1 h2 ⟨o1,t1,q1,q2,q3⟩ k=>⟨o1,t1,k _ q1,q2,q3⟩⟩
   .rw[cq z z2] at q;have z3:∀ T0,to=some T0->b≠T0:=λT0 w w2=>by rw[w2,(hT T0 w).2] at q;cases q
    rw[hc b z z3] at q;have nf:∀ c u',H c=some u'->c ∉ j1 (X.env::X.outer):=λc u' q' hm=>by have:=sf c hm;rw[q'] at this;cases this
    refine(I.aJ b u q).fD (λc v Bc q'=>?_) (λc q'=>old c _ q' (λ_ z=>nomatch z)) λc xs q'=>old c _ q' (λ_ z=>nomatch z);rcases Bc with rfl | Bc
    .exact a7 c v z z3 (nf c u q) q'
    .obtain⟨n1,n2⟩:=AA c _ Bc (λ_ z=>nomatch z);exact a7 c v n1 n2 (nf c _ Bc) q'
 exact I.call (ch:=[]) U ok I.bare (λb z=>absurd z (by simp))
theorem Inv.jH{e:Addr}(I:Inv X z0 σ (du Hc e T C dd fl) s)(n:T≠e):∃ vs oT ts,s.heap.get? e=some ⟨.ref C,dd,.fields vs,#[]⟩/\vs[1]?=some (.ref T)/\s.heap.get? T=some oT/\oT.data=.fields ts/\ts[3]?=some fl:=by
 obtain⟨vs,h1,h2⟩:=(I.aJ e _ fc).1;obtain⟨oT,ts,q⟩:=(I.aJ T _ (eT n)).1;exact⟨vs,oT,ts,h1,h2,q⟩
theorem Inv.xY{e:Addr}{Q:Unit->Shared->Prop}{E:Value->Shared->Prop}(I:Inv X z0 σ (du Hc e T C dd fl) s)(hfl:fl=.none\/fl=rawInt X.env.locals)(n:T≠e)(Bu:Hc T=none)(Af:X.stack=X.env::X.outer)(hf:X.env.frame=some X.env.locals)
  (h:∀ h' T,Hc T=none->T≠e->Inv X z0 σ (du Hc e T C dd (rawInt X.env.locals)) { s with heap:=h' }->Q () { s with heap:=h' }) :
  wpAny (model X.prog X.w) X.A (noteFrame (.ref e) X.env) Q E s:=by
 obtain⟨vs,oT,ts,hx,h1,hT,hd,h3⟩:=I.jH n;rcases hfl with rfl | rfl
 .refine I.note (Hc:=Hc) (to:=some T) Af hf fc hx ⟨h1,n,oT,ts,hT,hd,h3⟩ (λT0 z=>?_) (λb n1 n2=>(cq n1 (n2 T rfl)).symm) h;cases z;exact⟨⟨_,eT n⟩,Bu⟩
 .unfold noteFrame;simp only[hf];refine Ck (CM hx rfl h1 ?_);rw[if_pos (show (CA T != CV)=true from by simp)];refine Ck (CM hT hd h3 ?_);rw[if_pos (show (rawInt X.env.locals==rawInt X.env.locals)=true from by simp)];exact Cp (h s.heap T Bu n I)
theorem Inv.xQ{e:Addr}{Q:Unit->Shared->Prop}{E:Value->Shared->Prop}(I:Inv X z0 σ H s)(he:H e=some (jy C dd e))(Af:X.stack=X.env::X.outer)(hf:X.env.frame=some X.env.locals)
  (h:∀ h' T,upd H e (cF C dd e) T=none->T≠e->Inv X z0 σ (du (upd H e (cF C dd e)) e T C dd (rawInt X.env.locals)) { s with heap:=h' }->Q () { s with heap:=h' }) :
  wpAny (model X.prog X.w) X.A (noteFrame (.ref e) X.env) Q E s:=by
 obtain⟨t,hx⟩:=(I.aJ e _ he).1;exact I.note (Hc:=upd H e (cF C dd e)) (to:=none) Af hf he hx rfl (λ_ z=>by cases z) (λb n1 _=>ai n1) h
theorem Inv.eB{e:Addr}{fr:Option Addr}{Q:Unit->Shared->Prop}{E:Value->Shared->Prop}(I:Inv X z0 σ (du Hc e T C dd fl) s)(n:T≠e)
  (h:∀ h',Inv X z0 σ (du Hc e T C dd (fr.elim .none λf=>rawInt f)) { s with heap:=h' }->Q () { s with heap:=h' }) :
  wpAny (model X.prog X.w) X.A (setFlight (.ref e) fr) Q E s:=by
 obtain⟨vs,oT,ts,hx,h1,hT,hd,h3⟩:=I.jH n;unfold setFlight;refine Ck (CM hx rfl h1 ?_);rw[if_pos (show (CA T != CV)=true from by simp)];have A1:3<ts.size:=(CY.mp h3).1;refine El hT hd A1 (h _ ?_);have other:∀ b,b≠T->(s.heap.update T (Dt (·.setIfInBounds 3 (fr.elim CV λf=>rawInt f)))).get? b=s.heap.get? b:=λb hb=>Dq _ _ (Eh hb);have BX:=DU (Dt (·.setIfInBounds 3 (fr.elim CV λf=>rawInt f))) hT (DV (Dw hd _));have nT:∀ b,du Hc e T C dd fl b=none->b≠T:=λb q z=>by rw[z,eT n] at q;cases q
 have same:∀ b,b≠T->du Hc e T C dd (fr.elim .none λf=>rawInt f) b=du Hc e T C dd fl b:=λb z=>by
  by_cases w:b=e
  .subst w;rw[fc,fc]
  .rw[cq w z,cq w z]
 have ne:∀ b u,du Hc e T C dd fl b=some u->(∀ ψ,u≠.ext ψ)->b≠T:=λb u q hu z=>by rw[z,eT n] at q;exact hu _ (CG q).symm
 refine I.un (t':=s.toks) ⟨λb o q z _ _=>(other b (nT b z)).trans q,λb o q z _ _=>⟨o.slots,(other b (nT b z)).trans q⟩,λb o q z _=>by rw[same b (nT b z)];exact z,λb o q _=>?_,λb xs q=>?_,λb ob u q=>?_,λb ps q=>⟨#[],?_⟩⟩ λb u q=>?_
 .by_cases z:b=T
  .subst z;exact⟨_,BX⟩
  .exact⟨o,(other b z).trans q⟩
 .rw[same b (ne b _ q λ_ z=>nomatch z)];exact q
 .rw[same b (ne b _ q λ_ z=>nomatch z)];exact q
 .rw[same b (ne b _ q λ_ z=>nomatch z),q];simp
 .by_cases z:b=T
  .subst z;rw[eT n] at q;cases q;refine⟨⟨_,_,BX,Dw hd _,?_⟩,⟨_,BX⟩,λh1 h2 ⟨o1,t1,q1,q2,q3⟩ k=>⟨o1,t1,k _ q1,q2,q3⟩⟩;simp[A1]
  .rw[same b z] at q;refine(I.aJ b u q).fD (λc v hc q'=>(other c ?_).trans q') (λc q'=>?_) λc xs q'=>?_
   .rcases hc with rfl | hc
    .exact z
    .exact ne c _ hc λ_ z=>nomatch z
   .rw[same c (ne c _ q' λ_ z=>nomatch z)];exact q'
   .rw[same c (ne c _ q' λ_ z=>nomatch z)];exact q'
def dz(P:Program)(w:World):wW:=λouter H s E e s'=>∃ (ea T C:Addr) (dd:Option Addr) (Hc:Hp),e=.ref ea/\s'.os=s.os/\AllBare s'.gens/\Un (j1 outer) [] H (du Hc ea T C dd .none) s.heap s'.heap/\fJ P w (du Hc ea T C dd .none) s'.heap ∧
 Hc ea=some (cF C dd ea)/\Hc T=none/\T≠ea/\E (.ref ea) none Hc
def Zx (X : Cx) (E : St -> XK) (e : Value) (s : Shared) : Prop := ∃ (ea C : Addr) (dd : Option Addr) (z0 : List (Addr × Obj)) (σ : St), e = .ref ea ∧
  ((∃ H, Inv X z0 σ H s /\ H ea = some (jy C dd ea) /\ E σ (.ref ea) none (upd H ea (cF C dd ea))) ∨
   (∃ Hc T fl, Inv X z0 σ (du Hc ea T C dd fl) s /\ (fl = .none \/ fl = rawInt X.env.locals) /\ Hc ea = some (cF C dd ea) /\ Hc T = none /\ T ≠ ea /\ E σ (.ref ea) none Hc))
variable{E:St->XK}
theorem Zx.note{e:Value}{Q:Unit->Shared->Prop}{F:Value->Shared->Prop}(z:Zx X E e s)(Af:X.stack=X.env::X.outer)(hf:X.env.frame=some X.env.locals)
  (h:∀ s' ea C dd z0 σ Hc T,e=.ref ea->Inv X z0 σ (du Hc ea T C dd (rawInt X.env.locals)) s'->Hc ea=some (cF C dd ea)->Hc T=none->T≠ea->E σ (.ref ea) none Hc->Q () s') :
  wpAny (model X.prog X.w) X.A (noteFrame e X.env) Q F s:=by
 obtain⟨ea,C,dd,z0,σ,rfl,⟨H,I,h1,h2⟩ | ⟨Hc,T,fl,I,h1,h2,h3,h4,h5⟩⟩:=z
 .exact I.xQ h1 Af hf λh' T q1 q2 I2=>h _ ea C dd z0 σ _ T rfl I2 au q1 q2 h2
 .exact I.xY h1 h4 h3 Af hf λh' T q1 q2 I2=>h _ ea C dd z0 σ _ T rfl I2 h2 q1 q2 h5
theorem Zx.uR{E:XK}{e:Value}{F:Value->Shared->Prop}(z:Zx X (λ_=>E) e s)(Af:X.stack=X.env::X.outer)(hf:X.env.frame=some X.env.locals)(hex:X.ex=[]) :
  wpAny (model X.prog X.w) X.A (leaving X.env e) (λ_ s'=>dz X.prog X.w X.outer X.H₀ X.s₀ E e s') F s:=by
 unfold leaving;refine Ck (z.note Af hf λs' ea C dd z0 σ Hc T he I h1 h2 h3 h4=>?_);subst he;refine I.eB h3 λh' I2=>⟨ea,T,C,dd,Hc,rfl,I2.os,I2.bare,?_,I2.aJ,h1,h2,h3,h4⟩
 have:=I2.base;rw[hex] at this;exact this
theorem Zx.own(Af:X.stack=X.env::X.outer)(hf:X.env.frame=some X.env.locals):PassesOwn (model X.prog X.w) X.A X.env (Zx X E):=by
 intro e s z;refine z.note Af hf λs' ea C dd z0 σ Hc T he I h1 h2 h3 h4=>?_;subst he;obtain⟨vs,oT,ts,hx,q1,_⟩:=I.jH h3;show wpAny _ _ _ _ _ _;refine Ck (CM hx rfl q1 ?_);rw[if_neg (show ¬ ((CA T==CV)=true) from by simp)];rw[hf];refine I.eB h3 λh' I2=>⟨ea,C,dd,z0,σ,rfl,.inr ⟨Hc,T,_,I2,.inr rfl,h1,h2,h3,h4⟩⟩
structure ez (X:Cx) (E:St->XK):Prop where
 pass:∀ (z0:List (Addr×Obj)) (σ:St) (H:Hp) (s:Shared) (e:Value) (s':Shared),Inv X z0 σ H s->dz X.prog X.w X.stack H s (E σ) e s'->X.xe e s'
 new:∀ (z0:List (Addr×Obj)) (σ:St) (H:Hp) (s:Shared) (e C:Addr) (dd:Option Addr),Inv X z0 σ H s->H e=some (jy C dd e)->E σ (.ref e) none (upd H e (cF C dd e))->X.xe (.ref e) s
 own:PassesOwn (model X.prog X.w) X.A X.env X.xe
abbrev Cx.out(X:Cx)(E:St->XK):Cx:=X.fX (Zx X E)
theorem uf(Af:X.stack=X.env::X.outer)(hf:X.env.frame=some X.env.locals):ez (X.out E) E where
 pass:=by
  intro z0 σ H s e s' I h;obtain⟨ea,T,C,dd,Hc,rfl,os,bare,un,aJ,h1,h2,h3,hE⟩:=h;have I':=I.bg.i9 (ch:=[]) os un aJ bare (λb z=>absurd z (by simp));exact⟨ea,C,dd,z0,σ,rfl,.inr ⟨Hc,T,.none,I',.inl rfl,h1,h2,h3,hE⟩⟩
 new:=λz0 σ H s e C dd I he hE=>⟨e,C,dd,z0,σ,rfl,.inl ⟨H,I.bg,he,hE⟩⟩
 own:=Zx.own Af hf
variable{N:List Str}{BJ:Array (Option Value)}{body:List Stmt}{params:Arguments}
theorem va{K:PySem.W.Frag}{qual:Str}{dV kV doc pm Al ct oc:Value}{an od:Option Addr}(lk:K.lookup f=some ⟨oc,od,.func (PySem.W.fnOf name qual params body scope dV kV doc pm an Al ct),BJ⟩)(AY:PySem.W.codeIn K Al qual=true)(S:cX N ps scope)
  (len:∀ vs H Q E,sp vs H Q E->vs.length=ps.length)
  (Bg:∀ (A:Around) (outer:List Env) (s:Shared) (H:Hp) (vs:List V) (Q:VK) (E:XK),bW k (A.deeper (envOfC qual scope s.heap.objs.size f Al))->sp vs H Q E ->
   ∃ t,gk ((iA (dz P w) P w K mg base N qual scope f Al A outer s H E).out λ_=>E) body t/\t { nx:=λ_ H'=>Q .bL H',rt:=Q } (start N vs) H) :
  bK P w K mg base (dz P w) (k+1) f (PySem.W.fnOf name qual params body scope dV kV doc pm an Al ct) ps sp:=by
 refine xD lk AY S len λA outer s H vs Q E hr hs=>?_;obtain⟨t,h1,h2⟩:=Bg A outer s H vs Q E hr hs;refine⟨t,λz0 s1 σ H1 D I q=>?_,h2⟩;refine CO (h1 z0 s1 σ H1 D (I.fX _) q) (λf s' z=>z.bg) λe s' z=>?_;exact z.uR rfl rfl rfl
section
open PySem.Builtin.ObjectAttr (storeInOwnDict storeTaker? setByDescriptor)
theorem qT{e t:Addr}(he:h.get? e=some ⟨.ref C,dd,.fields #[.ref t,.none,.none,.none,.bool false,.none],#[]⟩):aP P w H h e (jy C dd e) :=
 ⟨⟨t,he⟩,⟨_,he⟩,λ_ _ ⟨t,q⟩ k=>⟨t,k _ q⟩⟩
section
variable{p:Pos}
def xM(C:Addr)(t:TA):TE:=fun σ H Q=>t σ H λvs H1=>vs.length<=sizeLine/\∀ a,H1 a=none->Q (.ref a) (upd H1 a (jy C none a))
theorem qY(hc:PySem.W.excIn X.K C iz "ValueError.__new__" = true)(kp:PySem.W.keepIn X.K (.ref C)=true)(hg:Gl X x)(hm:X.mg x=some (.ref C))
  (ha:PA X (e::es) t) (AR:autoParam ((x==("__debug__" : Str))=false) aD._auto_1) (he:autoParam (starEach (e::es) X.env=(false,eval e X.env)::starEach es X.env) aR._auto_1) (Aq:autoParam ((backTo pos (starEach es X.env)).any (·.1)=false) aR._auto_1) :
  PE X (.Call (.Name x p) (e::es) [] pos) (xM C t):=by
 intro z0 s σ H Q I h;refine Ec (e_ I hg hm ?_ AR);refine PySem.W.callWith_K (h₀:=X.base) I.ok.mod.xZ kp (bM (ha pos z0 s σ H _ I h) λus s1 ⟨vs,H1,I1,r,hl,q⟩=>⟨I1.gx,?_⟩) he Aq;obtain⟨bm,N,nm,qn,bs,BC,sn,sub,ab,col,dd,k0,k1,k2,k3,k5,mN,hC,hN,BN,T⟩:=qU I1.gx hc;obtain⟨hp,g,d,tk,os⟩:=s1;refine wpAny_call_exc_subT PySem.F.excBase_ValueError T hC hN BN (λh' a M=>?_) (by show us.length<=sizeLine;rw[<- r.length];exact hl);obtain⟨t',e1,_,_⟩:=M.there;have I2:Inv X z0 σ (upd H1 a (jy C none a)) ⟨h',g,d,tk,os⟩:=I1.xt (t':=tk) M.keeps M.new (qT e1);have hn:H1 a=none:=I1.qh M.new;exact⟨.ref a,_,I2,rfl,q a hn⟩
end
end
section
variable{M:Model}{E:Value->Shared->Prop}
theorem pC{e:Addr}{o:Obj}(hx:s.heap.get? e=some o)(h:Q o.cls s):wpAny M A (typeOf (.ref e)) Q E s:=by
 unfold typeOf;exact Ck (Fz hx (Cp h))
theorem mC{e:Addr}{o:Obj}{vs:Array Value}{Q:Bool->Shared->Prop}(hx:s.heap.get? e=some o)(hd:o.data=.fields vs)(h:Q false s):wpAny M A (isType (.ref e)) Q E s:=by
 unfold isType loadHead;refine Ck (Fz hx (Cp ?_));rw[hd];exact h
end
def vD(K:PySem.W.Frag)(E:St->XK)(te:TE):TS:=λD σ H=>te σ H λv H1=>∃ e C dd,v=.ref e/\H1 e=some (jy C dd e)/\fE K C/\PySem.W.typeIn K (.ref C)=some (.type "type")/\E σ (.ref e) none (upd H1 e (cF C dd e))
theorem n8{exc:Expr}(O:ez X E)(z9:X.calm=true)(he:PE X exc te):PS X (.Raise (some exc) none pos) (vD X.K E te):=by
 intro z0 s σ H D I h;rw[arm_exec_Raise];refine Ck (D9 ?_);unfold raiseStmt;dsimp only [evalOpt,Option.map];refine Ck (Ck (bM (he z0 s σ H _ I h) λu s1 hq=>Ck (D9 (Cp ?_))));obtain⟨v,H1,I1,rv,e,C,dd,ev,hN,c,ht,hE⟩:=hq;subst ev;obtain rfl:u=CA e:=rv;obtain⟨t,hx⟩:=(I1.aJ e _ hN).1;have X1:=I1.gx;refine Ck (Cp ?_);refine Ck (Df ?_);unfold excFromValue isExcClass;refine Ck (Ck (mC hx rfl ?_));refine Cp ?_;refine Ck ?_;unfold isInstance;refine Ck (pC hx ((PySem.W.looks_mroIn X1 c.mb).here ?_));refine Cp ?_;dsimp only;refine Ck (mC hx rfl ?_);unfold raisedInstance;refine Ck (Ck (pC hx (Ck ((PySem.W.looks_typeIn X1 ht).here ?_))));refine Cp ?_;unfold setFlight;refine Ck (Ck (CM hx rfl (x:=.none) rfl ?_));refine Cp ?_;exact wpAny_raiseNew_none (I1.ok.hd z9) (O.new z0 σ H1 s1 e C dd I1 hN hE)
inductive PV where
 | bL | bl (b:Bool) | int (i:Int) | str (x:Str)
 | tup (xs:List PV) | lst (xs:List PV)
 | dD (xs:List PV)
 | obj (C:Addr) (fs:List (Str×PV))
 | exc (C:Addr) (fo:Option (List (Str×PV)))
 | emp
 deriving Inhabited
mutual
inductive Rep (H:Hp):PV->V->Prop where
 | bL:Rep H .bL .bL
 | bl (b:Bool):Rep H (.bl b) (.bl b)
 | int (i:Int):Rep H (.int i) (.int i)
 | str (x:Str):Rep H (.str x) (.str x)
 | tup {a:Addr} {xs:List PV} {vs:List V}:H a=some (.tup vs)->aw H xs vs->Rep H (.tup xs) (.ref a)
 | lst {a:Addr} {xs:List PV} {vs:List V}:H a=some (.lst vs)->aw H xs vs->Rep H (.lst xs) (.ref a)
 | dD {a:Addr} {o:Obj} {xs:List PV} {vs:List V}:H a=some (.iK o (.lst vs))->aw H xs vs->Rep H (.dD xs) (.ref a)
 | obj {a C dx:Addr} {fs:List (Str×PV)} {vs:List (Str×V)}:H a=some (.ins C dx vs)->jO H fs vs->Rep H (.obj C fs) (.ref a)
 | kU {a C:Addr}:H a=some (cF C none a)->Rep H (.exc C none) (.ref a)
 | nK {a C d:Addr} {fs:List (Str×PV)} {vs:List (Str×V)}:H a=some (cF C (some d) a)->H d=some (.xd vs)->jO H fs vs->Rep H (.exc C (some fs)) (.ref a)
 | emp {a:Addr}:H a=some (.dK [])->Rep H .emp (.ref a)
inductive aw (H:Hp):List PV->List V->Prop where
 | nil:aw H [] []
 | cons {p:PV} {v:V} {ps:List PV} {vs:List V}:Rep H p v->aw H ps vs->aw H (p::ps) (v::vs)
inductive jO (H:Hp):List (Str×PV)->List (Str×V)->Prop where
 | nil:jO H [] []
 | cons {n:Str} {p:PV} {v:V} {ps:List (Str×PV)} {vs:List (Str×V)}:Rep H p v->jO H ps vs->jO H ((n,p)::ps) ((n,v)::vs)
end
mutual
theorem Rep.mono{H H':Hp}(s:aO H H'):∀ {p:PV} {v:V},Rep H p v->Rep H' p v
 | _,_,.bL=>.bL
 | _,_,.bl b=>.bl b
 | _,_,.int i=>.int i
 | _,_,.str x=>.str x
 | _,_,.tup h r=>.tup (s _ _ h) (r.mono s)
 | _,_,.lst h r=>.lst (s _ _ h) (r.mono s)
 | _,_,.dD h r=>.dD (s _ _ h) (r.mono s)
 | _,_,.obj h r=>.obj (s _ _ h) (r.mono s)
 | _,_,.kU h=>.kU (s _ _ h)
 | _,_,.nK h h2 r=>.nK (s _ _ h) (s _ _ h2) (r.mono s)
 | _,_,.emp h=>.emp (s _ _ h)
theorem aw.mono{H H':Hp}(s:aO H H'):∀ {p:List PV} {v:List V},aw H p v->aw H' p v
 | _,_,.nil=>.nil
 | _,_,.cons h r=>.cons (h.mono s) (r.mono s)
theorem jO.mono{H H':Hp}(s:aO H H'):∀ {p:List (Str×PV)} {v:List (Str×V)},jO H p v->jO H' p v
 | _,_,.nil=>.nil
 | _,_,.cons h r=>.cons (h.mono s) (r.mono s)
end
theorem aw.length{H:Hp}:∀ {p:List PV} {v:List V},aw H p v->p.length=v.length
 | _,_,.nil=>rfl
 | _,_,.cons _ r=>by simp[r.length]
theorem aw.get{H:Hp}:∀ {p:List PV} {v:List V} {i:Nat} {x:PV},aw H p v->p[i]?=some x->∃ u,v[i]?=some u/\Rep H x u
 | _,_,_,_,.nil,e=>by simp at e
 | _,_,0,_,.cons h _,e=>by simp at e;subst e;exact⟨_,rfl,h⟩
 | _,_,i+1,x,.cons _ r,e=>by
  obtain⟨u,h1,h2⟩:=aw.get (i:=i) (x:=x) r (by simpa using e);exact⟨u,by simpa using h1,h2⟩
theorem aw.append{H:Hp}:∀ {p q:List PV} {v u:List V},aw H p v->aw H q u->aw H (p++q) (v++u)
 | _,_,_,_,.nil,s=>s
 | _,_,_,_,.cons h r,s=>.cons h (r.append s)
theorem aw.take{H:Hp}:∀ {p:List PV} {v:List V} (n:Nat),aw H p v->aw H (p.take n) (v.take n)
 | _,_,0,_=>.nil
 | _,_,_+1,.nil=>.nil
 | _,_,n+1,.cons h r=>.cons h (r.take n)
theorem aw.drop{H:Hp}:∀ {p:List PV} {v:List V} (n:Nat),aw H p v->aw H (p.drop n) (v.drop n)
 | _,_,0,r=>r
 | _,_,_+1,.nil=>.nil
 | _,_,n+1,.cons _ r=>r.drop n
theorem aw.snoc{p:List PV}{v:List V}{x:PV}{u:V}(r:aw H p v)(h:Rep H x u):aw H (p++[x]) (v++[u]):=r.append (.cons h .nil)
theorem aw.zg{H:Hp}:∀ {ns:List Bool} {v:List V},aw H (ns.map PV.bl) v->v=ns.map V.bl
 | [],_,.nil=>rfl
 | _::_,_,.cons (.bl i) r=>by rw[r.zg];rfl
theorem aw.strs{H:Hp}:∀ {ns:List Str} {v:List V},aw H (ns.map PV.str) v->v=ns.map V.str
 | [],_,.nil=>rfl
 | _::_,_,.cons (.str i) r=>by rw[r.strs];rfl
structure aT (Hs H z8 H':Hp):Prop where
 st:aO Hs z8
 al:aO H H'
 sub:aO z8 H'
 nw:∀ a o,Hs a=none->H a=some o->z8 a=none
variable{Hs:Hp}
theorem aT.refl(s:aO Hs H):aT Hs H Hs H:=⟨λ_ _ e=>e,λ_ _ e=>e,s,λ_ _ e _=>e⟩
variable{z_:Hp}
theorem aT.trans{H1 Aa H2:Hp}(a:aT Hs H z_ H1)(b:aT z_ H1 Aa H2):aT Hs H Aa H2 :=
 ⟨λc o e=>b.st c o (a.st c o e),λc o e=>b.al c o (a.al c o e),b.sub,λc o e q=>b.nw c o (a.nw c o e q) (a.al c o q)⟩
theorem aT.new{p:Addr}(s:aO Hs H)(n:H p=none):aT Hs H (upd Hs p o) (upd H p o):=by
 have ne:∀ c u,H c=some u->c≠p:=λc u e z=>by rw[z,n] at e;cases e
 refine⟨λc u e=>?_,λc u e=>?_,λc u e=>?_,λc u e q=>?_⟩
 .rw[ai (ne c u (s c u e))];exact e
 .rw[ai (ne c u e)];exact e
 .by_cases z:c=p
  .subst z;rw[au] at e ⊢;exact e
  .rw[ai z] at e ⊢;exact s c u e
 .rw[ai (ne c u q)];exact e
inductive SV where
 | sh (p:PV)
 | ow (xs:List PV)
 | bd (a C:Addr) (fs:List (Str×PV))
abbrev aa:=List (Option SV)
structure SR (B H₀ Hs H:Hp) (σ:St) (env:aa):Prop where
 gr:aT B H₀ Hs H
 len:σ.length=env.length
 sh:∀ (i:Nat) (p:PV),env[i]?=some (some (.sh p))->∃ v,σ[i]?=some (some v)/\Rep Hs p v
 ow:∀ (i:Nat) (xs:List PV),env[i]?=some (some (.ow xs))->∃ a vs,σ[i]?=some (some (.ref a))/\H a=some (.lst vs)/\Hs a=none/\H₀ a=none/\aw Hs xs vs
 sep:∀ (i j:Nat) (xs ys:List PV) (a:Addr),i≠j->env[i]?=some (some (.ow xs))->env[j]?=some (some (.ow ys))->σ[i]?=some (some (.ref a))->σ[j]?≠some (some (.ref a))
 bd:∀ (i:Nat) (a C:Addr) (fs:List (Str×PV)),env[i]?=some (some (.bd a C fs))->∃ dx vs,σ[i]?=some (some (.ref a))/\H a=some (.ins C dx vs)/\Hs a=none/\H₀ a=none/\jO Hs fs vs
 one:∀ (i j:Nat) (a b C D:Addr) (fs gs:List (Str×PV)),env[i]?=some (some (.bd a C fs))->env[j]?=some (some (.bd b D gs))->i=j
variable{H₀:Hp}
theorem SR.grow{B z8 H':Hp}{env:aa}(r:SR B H₀ Hs H σ env)(g:aT Hs H z8 H'):SR B H₀ z8 H' σ env where
 gr:=r.gr.trans g
 len:=r.len
 sh:=λi p e=>let ⟨v,h1,h2⟩:=r.sh i p e;⟨v,h1,h2.mono g.st⟩
 ow:=λi xs e=>let ⟨a,vs,h1,h2,h3,h4,h5⟩:=r.ow i xs e;⟨a,vs,h1,g.al _ _ h2,g.nw _ _ h3 h2,h4,h5.mono g.st⟩
 sep:=r.sep
 bd:=λi a C fs e=>let ⟨dx,vs,h1,h2,h3,h4,h5⟩:=r.bd i a C fs e;⟨dx,vs,h1,g.al _ _ h2,g.nw _ _ h3 h2,h4,h5.mono g.st⟩
 one:=r.one
abbrev EX:=Addr×Option (List (Str×PV))
abbrev M(α:Type):=Option (Except EX α)
def M.ok{α:Type}(a:α):M α:=some (.ok a)
variable{α:Type}
noncomputable def M.bind{β:Type}(x:M α)(f:α->M β):M β:=match x with
 | some (.ok a)=>f a
 | some (.error e)=>some (.error e)
 | none=>none
instance:Monad M where
 pure:=M.ok
 bind:=M.bind
def ah(r:M α)(Q:α->Prop)(E:EX->Prop):Prop:=match r with
 | some (.ok a)=>Q a
 | some (.error e)=>E e
 | none=>False
variable{E':EX->Prop}
theorem ah.imp{r:M α}{Q Q':α->Prop}{E:EX->Prop}(h:ah r Q E)(hq:∀ a,Q a->Q' a)(he:∀ e,E e->E' e):ah r Q' E':=by
 cases r with
 | none=>exact h
 | some x=>cases x with
  | ok a=>exact hq a h
  | error e=>exact he e h
theorem ah.bind{α β:Type}{x:M α}{f:α->M β}{Q:β->Prop}{E:EX->Prop}(h:ah (x.bind f) Q E):ah x (λa=>ah (f a) Q E) E:=by
 cases x with
 | none=>exact h
 | some x=>cases x with
  | ok a=>exact h
  | error e=>exact h
def XW(E:XK)(Hs H:Hp)(x:EX):Prop:=∀ ea z8 H',aT Hs H z8 H'->Rep z8 (.exc x.1 x.2) (.ref ea)->E (.ref ea) none H'
theorem XW.grow{E:XK}{z8 H':Hp}{x:EX}(h:XW E Hs H x)(g:aT Hs H z8 H'):XW E z8 H' x:=λea Aa H2 g2 r=>h ea Aa H2 (g.trans g2) r
def tE(E:St->XK)(f:aa->M PV):TE:=fun σ H Q=>∃ B H₀ Hs env,SR B H₀ Hs H σ env/\ah (f env) (λp=>∀ v z8 H',aT Hs H z8 H'->Rep z8 p v->Q v H') (XW (E σ) Hs H)
theorem PE.imp{t t':TE}(h:PE X e t)(i:∀ σ H Q,t' σ H Q->t σ H Q):PE X e t':=λz0 s σ H Q I q=>h z0 s σ H Q I (i σ H Q q)
theorem lT{f:aa->M PV}{g:aa->PV->M PV}{Q R:VK}(h:tE E (λenv=>(f env).bind (g env)) σ H Q)
  (k:∀ B H₀ Hs H1 env p v,SR B H₀ Hs H1 σ env->Rep Hs p v->ah (g env p) (λq=>∀ u z8 H',aT Hs H1 z8 H'->Rep z8 q u->Q u H') (XW (E σ) Hs H1)->R v H1):tE E f σ H R:=by
 obtain⟨B,H₀,Hs,env,sr,h⟩:=h;refine⟨B,H₀,Hs,env,sr,(ah.bind h).imp (λp hp v z8 H' g r=>?_) λe he=>he⟩;exact k B H₀ z8 H' env p v (sr.grow g) r (hp.imp (λq hq u Aa H2 g2 r2=>hq u Aa H2 (g.trans g2) r2) λe he=>he.grow g)
theorem lZ{f g:aa->M PV}{op:PV->PV->M PV}{r:R2}{Q:VK}(h:tE E (λenv=>(f env).bind λp=>(g env).bind λq=>op p q) σ H Q)
  (k:∀ Hs H1 p q v u,aO Hs H1->Rep Hs p v->Rep Hs q u->ah (op p q) (λz=>∀ w z8 H',aT Hs H1 z8 H'->Rep z8 z w->Q w H') (XW (E σ) Hs H1)->r v u H1 Q):xb r (tE E f) (tE E g) σ H Q:=by
 refine lT h λB H₀ Hs H1 env p v sr rp hp=>?_;refine⟨B,H₀,Hs,env,sr,(ah.bind hp).imp (λq hq u z8 H' g ru=>?_) λe he=>he⟩;exact k z8 H' p q v u (sr.grow g).gr.sub (rp.mono g.st) ru (hq.imp (λz hz w Aa H2 g2 r2=>hz w Aa H2 (g.trans g2) r2) λe he=>he.grow g)
def vo(sp:Sp)(Bb:List V)(E:St->XK)(t:TA):TE:=fun σ H Q=>t σ H λvs H1=>sp (vs++Bb) H1 Q (E σ)
variable{ds:List Value}{Bb:List V}
variable{vs:List V}
section
variable{p:Pos}{o:Expr}
theorem sN{Q:VK}{us:List Value}(F:bK X.prog X.w X.K X.mg X.base (dz X.prog X.w) k f fd ps sp)(hr:bW k X.A)(hb:Binds X.K fd ps ds)(hd:Vals Bb ds)(hx:ez X E)
  (I:Inv X z0 σ H s) (r:Vals vs us) (h:sp (vs++Bb) H Q (E σ)):wpAny (model X.prog X.w) X.A (call (.ref f) us) (EP X z0 σ Q) X.xe s:=by
 have r2:Vals (vs++Bb) (us++ds):=r.append hd;have hl:(us++ds).length=ps.length:=by rw[<- r2.length];exact F.len _ _ _ _ h
 refine Gu (Fd (F.run X.A X.stack s H ⟨us,[]⟩ (us++ds) (vs++Bb) Q (E σ) hr I.a_ (hb s us I.gx hl) r2 h) λr s' hq=>?_);cases r with
 | error e=>exact hx.pass z0 σ H s e s' I hq
 | ok fl =>
  cases fl with
  | ret u=>exact I.after hq
  | next=>exact DX hq
  | brk=>exact DX hq
  | cont=>exact DX hq
theorem oY(F:bK X.prog X.w X.K X.mg X.base (dz X.prog X.w) k f fd ps sp)(hr:bW k X.A)(hg:Gl X x)(hm:X.mg x=some (.ref f))(hk:PySem.W.keepIn X.K (.ref f)=true)(hb:Binds X.K fd ps ds)(hd:Vals Bb ds)(hx:ez X E)
  (ha:PA X (e::es) t) (AR:autoParam ((x==("__debug__" : Str))=false) aD._auto_1) (he:autoParam (starEach (e::es) X.env=(false,eval e X.env)::starEach es X.env) aR._auto_1) (Aq:autoParam ((backTo pos (starEach es X.env)).any (·.1)=false) aR._auto_1) :
  PE X (.Call (.Name x p) (e::es) [] pos) (vo sp Bb E t):=by
 intro z0 s σ H Q I h;refine Ec (e_ I hg hm ?_ AR);refine PySem.W.callWith_K (h₀:=X.base) I.ok.mod.xZ hk (bM (ha pos z0 s σ H _ I h) λus s1 ⟨vs,H1,I1,r,q⟩=>⟨I1.gx,?_⟩) he Aq;exact sN F hr hb hd hx I1 r q
end
abbrev bb(Hs H:Hp)(Q:VK):PV->Prop:=λz=>∀ w z8 H',aT Hs H z8 H'->Rep z8 z w->Q w H'
variable{p:PV}
theorem bb.flat{Q:VK}(h:bb Hs H Q p)(s:aO Hs H)(r:Rep Hs p v):Q v H:=h v Hs H (.refl s) r
theorem bb.tup{Hs H:Hp}{Q:VK}{xs:List PV}{vs:List V}(h:bb Hs H Q (.tup xs))(s:aO Hs H)(r:aw Hs xs vs):∀ p,H p=none->Q (.ref p) (upd H p (.tup vs)) :=
 λp n=>h _ (upd Hs p (.tup vs)) _ (aT.new s n) (.tup au (r.mono (aT.new s n).st))
theorem bb.lst{Hs H:Hp}{Q:VK}{xs:List PV}{vs:List V}(h:bb Hs H Q (.lst xs))(s:aO Hs H)(r:aw Hs xs vs):∀ p,H p=none->Q (.ref p) (upd H p (.lst vs)) :=
 λp n=>h _ (upd Hs p (.lst vs)) _ (aT.new s n) (.lst au (r.mono (aT.new s n).st))
namespace HT
theorem qm{prog:Program}{w:World}{A:Around}{E:Value->Shared->Prop}{s:Shared}{t b:Addr}{ws:List Value}{Q:Value->Shared->Prop}(ht:IsTup s.heap t #[])(hb:IsTup s.heap b ws.toArray)
  (h1:Q (.ref b) s):wpAny (model prog w) A (binaryOp .Add (.ref t) (.ref b)) Q E s:=by
 obtain⟨⟨cls,dd,data,sl⟩,ho,hc,n,hd⟩:=id ht;obtain⟨⟨cls2,BS,data2,sl2⟩,BE,B1,n2,hd2⟩:=id hb;simp only at hc hd B1 hd2;subst hc hd B1 hd2;exact F1 ⟨_,ho,rfl⟩ ⟨_,BE,rfl⟩ E5 FQ PySem.F.slot_tuple_add PySem.F.entry_tuple_add (PySem.F.args_tuple_add_2 _ _)
   (tuple_addW0 t b #[] ws.toArray n n2 dd BS sl sl2 rfl) ⟨ho,BE,h1⟩
end HT
def oX(K:PySem.W.Frag):R2:=λx y H Q=>∃ a b ys,x=.ref a/\y=.ref b/\dg K H a []/\dg K H b ys/\Q (.ref b) H
theorem qi:cR X (binaryOp .Add) (oX X.K):=by
 intro z0 s σ H x y v u Q I rx ry h;obtain⟨a,b,ys,rfl,rfl,ha,hb,q1⟩:=h;cases rx;cases ry;obtain⟨z7,r1,p1,_⟩:=I.tuple ha;obtain⟨A2,r2,p2,_⟩:=I.tuple hb;have e:z7=[]:=r1.fF.mpr rfl;subst e;exact HT.qm p1 p2 ⟨.ref b,H,I,rfl,q1⟩
def bB(c:Prop)[Decidable c](x:M α):M α:=if c then x else none
theorem ah.bB{α:Type}{c:Prop}[Decidable c]{x:M α}{Q:α->Prop}{E:EX->Prop}(h:ah (L2.bB c x) Q E):c/\ah x Q E:=by
 unfold L2.bB at h
 by_cases hc:c
 .rw[if_pos hc] at h;exact⟨hc,h⟩
 .rw[if_neg hc] at h;exact h.elim
def cJ(o:Option PV):M PV:=match o with
 | some x=>M.ok x
 | none=>none
theorem ah.opt{o:Option PV}{Q:PV->Prop}{E:EX->Prop}(h:ah (cJ o) Q E):∃ x,o=some x/\Q x:=by
 cases o with
 | none=>exact h.elim
 | some x=>exact⟨x,rfl,h⟩
variable{j:Nat}
variable{op:CmpOp}
section
variable{a b:Expr}{f g h:aa->M PV}
def ae(i:Nat)(env:aa):M PV:=match env[i]? with
 | some (some (.sh p))=>M.ok p
 | _=>none
theorem wm(hN:X.N[i]?=some x)(hv:vY X.env.scope x)(hd:autoParam ((x==("__debug__" : Str))=false) aD._auto_1)(AY:autoParam ((x==("__classdict__" : Str))=false) aD._auto_1):PE X (.Name x pos) (tE E (ae i)):=by
 refine(n5 hN hv hd AY).imp fun σ H Q q=>?_;obtain⟨B,H₀,Hs,env,sr,q⟩:=q;unfold ae at q
 split at q
 .rename_i p e;obtain⟨v,h1,h2⟩:=sr.sh i p e;exact⟨v,h1,bb.flat q sr.gr.sub h2⟩
 .exact q.elim
theorem d0(he:PE X e (tC v))(r:∀ H,Rep H p v):PE X e (tE E λ_=>M.ok p):=by
 refine he.imp fun σ H Q q=>?_;obtain⟨B,H₀,Hs,env,sr,q⟩:=q;exact bb.flat q sr.gr.sub (r Hs)
theorem v_{i:Int}:PE X (.Constant (.int i) j pos) (tE E λ_=>M.ok (.int i)):=d0 uC λ_=>.int i
theorem yg{i:Bool}:PE X (.Constant (.bool i) j pos) (tE E λ_=>M.ok (.bl i)):=d0 xh λ_=>.bl i
theorem vm:PE X (.Constant .none j pos) (tE E λ_=>M.ok .bL):=d0 uY λ_=>.bL
theorem wN{i:Str}:PE X (.Constant (.str i) j pos) (tE E λ_=>M.ok (.str i)):=d0 vq λ_=>.str i
def aj(op:PV->PV->M PV)(f g:aa->M PV):aa->M PV:=λenv=>(f env).bind λp=>(g env).bind λq=>op p q
def eQ(E:St->XK)(r:R2)(op:PV->PV->M PV):Prop:=∀ (σ:St) (Hs H:Hp) (p q:PV) (v u:V) (Q:VK),aO Hs H->Rep Hs p v->Rep Hs q u->ah (op p q) (bb Hs H Q) (XW (E σ) Hs H)->r v u H Q
theorem eF{op:Operator}{r:R2}{o:PV->PV->M PV}(ho:cR X (binaryOp op) r)(hv:eQ E r o)(ha:PE X a (tE E f))(hb:PE X b (tE E g)):PE X (.BinOp a op b pos) (tE E (aj o f g)) :=
 (xI ho ha hb).imp fun σ H Q q=>lZ q λHs H1 p q v u s rp rq h=>hv σ Hs H1 p q v u Q s rp rq h
theorem eH{r:R2}{o:PV->PV->M PV}(ho:cR X (compareOp op) r)(hv:eQ E r o)(ha:PE X a (tE E f))(hb:PE X b (tE E g))(hm:behindInMarks op b=false):PE X (.Compare a [op] [b] pos) (tE E (aj o f g)) :=
 (sJ ho ha hb hm).imp fun σ H Q q=>lZ q λHs H1 p q v u s rp rq h=>hv σ Hs H1 p q v u Q s rp rq h
def cu:PV->PV->M PV
 | .int i,.int j=>M.ok (.int (i+j))
 | .str x,.str y=>bB (x.length+y.length<=sizeLine) (M.ok (.str (x++y)))
 | .tup xs,.tup ys=>bB (xs.length+ys.length<=sizeLine) (M.ok (.tup (xs++ys)))
 | .lst xs,.lst ys=>bB (xs.length+ys.length<=sizeLine) (M.ok (.lst (xs++ys)))
 | _,_=>none
def uj(K:PySem.W.Frag):R2:=λx y H Q=>(∃ i j,x=.int i/\y=.int j/\Q (.int (i+j)) H)\/(∃ i j,x=.str i/\y=.str j/\i.length+j.length<=sizeLine/\Q (.str (i++j)) H)\/tX K x y H Q\/xg x y H Q\/oX K x y H Q
theorem rY:cR X (binaryOp .Add) (uj X.K):=cR.or wd (cR.or la (cR.or sH (cR.or uS qi)))
theorem uX{K:PySem.W.Frag}:eQ E (uj K) cu:=by
 intro σ Hs H p q v u Q s rp rq h;cases rp with
 | int i=>cases rq with
  | int j=>exact .inl ⟨i,j,rfl,rfl,bb.flat h s (.int _)⟩
  | _=>exact h.elim
 | str i=>cases rq with
  | str j =>
   obtain⟨hz,h⟩:=ah.bB h;exact .inr (.inl ⟨i,j,rfl,rfl,hz,bb.flat h s (.str _)⟩)
  | _=>exact h.elim
 | @tup a xs vs ha hx=>cases rq with
  | @tup b ys us hb hy =>
   obtain⟨hz,h⟩:=ah.bB h;cases hx with
   | nil=>exact .inr (.inr (.inr (.inr ⟨a,b,us,rfl,rfl,dg.of (s _ _ ha),dg.of (s _ _ hb),bb.flat h s (.tup hb hy)⟩)))
   | cons B_ AD =>
    have hx:=aw.cons B_ AD;refine .inr (.inr (.inl ⟨a,b,_,us,rfl,rfl,dg.of (s _ _ ha),dg.of (s _ _ hb),(λz=>nomatch z),by rw[<- hx.length,<- hy.length];exact hz,λz=>?_,λz=>bb.tup h s (hx.append hy)⟩));have e:ys=[]:=by cases hy with | nil=>rfl | cons _ _=>cases z
    subst e;rw[C1] at h;exact bb.flat h s (.tup ha hx)
  | _=>exact h.elim
 | @lst a xs vs ha hx=>cases rq with
  | @lst b ys us hb hy =>
   obtain⟨hz,h⟩:=ah.bB h;exact .inr (.inr (.inr (.inl ⟨a,b,vs,us,rfl,rfl,s _ _ ha,s _ _ hb,by rw[<- hx.length,<- hy.length];exact hz,bb.lst h s (hx.append hy)⟩)))
  | _=>exact h.elim
 | _=>exact h.elim
def lF(c:Int->Int->Bool)(o:Int->Int->Int):PV->PV->M PV
 | .int i,.int j=>bB (c i j=true) (M.ok (.int (o i j)))
 | _,_=>none
theorem kX{C:Int->Int->Prop}{c:Int->Int->Bool}{o:Int->Int->Int}(hc:∀ i j,c i j=true->C i j):eQ E (rI C λi j=>.int (o i j)) (lF c o):=by
 intro σ Hs H p q v u Q s rp rq h;cases rp with
 | int i=>cases rq with
  | int j =>
   obtain⟨hz,h⟩:=ah.bB h;exact⟨i,j,rfl,rfl,hc i j hz,bb.flat h s (.int _)⟩
  | _=>exact h.elim
 | _=>exact h.elim
def oJ:PV->PV->M PV
 | .int i,.int j=>M.ok (.int (i-j))
 | _,_=>none
theorem wy:eQ E (nQ λi j=>.int (i-j)) oJ:=by
 intro σ Hs H p q v u Q s rp rq h;cases rp with
 | int i=>cases rq with
  | int j=>exact⟨i,j,rfl,rfl,bb.flat h s (.int _)⟩
  | _=>exact h.elim
 | _=>exact h.elim
def pG(o:Int->Int->Bool):PV->PV->M PV
 | .int i,.int j=>M.ok (.bl (o i j))
 | _,_=>none
theorem k6{o:Int->Int->Bool}:eQ E (nQ λi j=>.bl (o i j)) (pG o):=by
 intro σ Hs H p q v u Q s rp rq h;cases rp with
 | int i=>cases rq with
  | int j=>exact⟨i,j,rfl,rfl,bb.flat h s (.bl _)⟩
  | _=>exact h.elim
 | _=>exact h.elim
def cL:PV->PV->M PV
 | .tup xs,.int i=>cJ (h_ xs i)
 | .lst xs,.int i=>cJ (h_ xs i)
 | .dD xs,.int i=>cJ (h_ xs i)
 | .str z,.int i=>bB (z.length<=sizeLine) (cJ ((h_ z.cps.toList i).map λc=>.str ⟨#[c]⟩))
 | _,_=>none
theorem aw.h_{H:Hp}{xs:List PV}{vs:List V}{i:Int}{x:PV}(r:aw H xs vs)(e:L2.h_ xs i=some x):∃ v,L2.h_ vs i=some v/\Rep H x v:=by
 unfold L2.h_ at e ⊢;rw[<- r.length];obtain⟨j,h1,h2⟩:=Ef.mp e;obtain⟨v,h3,h4⟩:=r.get h2;exact⟨v,by rw[h1];exact h3,h4⟩
theorem wo{K:PySem.W.Frag}:eQ E (zh K) cL:=by
 intro σ Hs H p q v u Q s rp rq h;cases rp with
 | @tup a xs vs ha hx=>cases rq with
  | int i =>
   obtain⟨x,ex,h⟩:=ah.opt h;obtain⟨v,h1,h2⟩:=hx.h_ ex;exact .inr (.inl ⟨a,vs,i,v,rfl,rfl,dg.of (s _ _ ha),h1,bb.flat h s h2⟩)
  | _=>exact h.elim
 | @lst a xs vs ha hx=>cases rq with
  | int i =>
   obtain⟨x,ex,h⟩:=ah.opt h;obtain⟨v,h1,h2⟩:=hx.h_ ex;exact .inl ⟨a,vs,i,v,rfl,rfl,dF.of (s _ _ ha),h1,bb.flat h s h2⟩
  | _=>exact h.elim
 | @dD a o xs vs ha hx=>cases rq with
  | int i =>
   obtain⟨x,ex,h⟩:=ah.opt h;obtain⟨v,h1,h2⟩:=hx.h_ ex;exact .inl ⟨a,vs,i,v,rfl,rfl,.inl (.inr ⟨o,s _ _ ha⟩),h1,bb.flat h s h2⟩
  | _=>exact h.elim
 | str z=>cases rq with
  | int i =>
   obtain⟨hz,h⟩:=ah.bB h;obtain⟨x,ex,h⟩:=ah.opt h;obtain⟨c,ec,rfl⟩:=CI.mp ex;exact .inr (.inr ⟨z,i,c,rfl,rfl,hz,ec,bb.flat h s (.str _)⟩)
  | _=>exact h.elim
 | _=>exact h.elim
theorem u_(ha:PE X a (tE E f))(hb:PE X b (tE E g))(hs:jY b):PE X (.Subscript a b pos) (tE E (aj cL f g)) :=
 (w9 wj ha hb hs).imp fun σ H Q q=>lZ q λHs H1 p q v u s rp rq h=>wo σ Hs H1 p q v u Q s rp rq h
end
def tG(E:St->XK)(f:aa->M α)(K:Hp->Hp->α->Prop):St->Hp->Prop:=fun σ H=>∃ B H₀ Hs env,SR B H₀ Hs H σ env/\ah (f env) (K Hs H) (XW (E σ) Hs H)
def KG(K:Hp->Hp->α->Prop):Prop:=∀ Hs H z8 H' b,K Hs H b->aT Hs H z8 H'->K z8 H' b
abbrev KB(Q:Bool->Hp->Prop):Hp->Hp->Bool->Prop:=λHs H k=>∀ z8 H',aT Hs H z8 H'->Q k H'
abbrev eg(Q:VK):Hp->Hp->PV->Prop:=λHs H p=>bb Hs H Q p
abbrev KL(Q:List V->Hp->Prop):Hp->Hp->List PV->Prop:=λHs H ps=>∀ vs z8 H',aT Hs H z8 H'->aw z8 ps vs->Q vs H'
theorem KB.g{Q:Bool->Hp->Prop}:KG (KB Q):=λHs H z8 H' b k g Aa H2 g2=>k Aa H2 (g.trans g2)
theorem eg.g{Q:VK}:KG (eg Q):=λHs H z8 H' b k g w Aa H2 g2 r=>k w Aa H2 (g.trans g2) r
theorem KL.g{Q:List V->Hp->Prop}:KG (KL Q):=λHs H z8 H' b k g w Aa H2 g2 r=>k w Aa H2 (g.trans g2) r
def tT(E:St->XK)(f:aa->M Bool):TT:=fun σ H Q=>tG E f (KB Q) σ H
def tL(E:St->XK)(f:aa->M (List PV)):TA:=fun σ H Q=>tG E f (KL Q) σ H
theorem PT.imp{t t':TT}(h:PT X e t)(i:∀ σ H Q,t' σ H Q->t σ H Q):PT X e t':=λz0 s σ H Q I q=>h z0 s σ H Q I (i σ H Q q)
theorem PW.imp{t t':TT}(h:PW X e t)(i:∀ σ H Q,t' σ H Q->t σ H Q):PW X e t':=λw z0 s σ H Q I q=>h w z0 s σ H Q I (i σ H Q q)
theorem PA.imp{e:List Expr}{t':TA}(h:PA X e t)(i:∀ σ H Q,t' σ H Q->t σ H Q):PA X e t':=λw z0 s σ H Q I q=>h w z0 s σ H Q I (i σ H Q q)
variable{R:List V->Hp->Prop}
section
variable{β:Type}{K:Hp->Hp->β->Prop}
theorem aQ{f:aa->M PV}{g:aa->PV->M β}{R:VK}(kg:KG K)(h:tG E (λenv=>(f env).bind (g env)) K σ H)
  (k:∀ B H₀ Hs H1 env p v,SR B H₀ Hs H1 σ env->Rep Hs p v->ah (g env p) (K Hs H1) (XW (E σ) Hs H1)->R v H1):tE E f σ H R:=by
 obtain⟨B,H₀,Hs,env,sr,h⟩:=h;refine⟨B,H₀,Hs,env,sr,(ah.bind h).imp (λp hp v z8 H' g r=>?_) λe he=>he⟩;exact k B H₀ z8 H' env p v (sr.grow g) r (hp.imp (λq hq=>kg _ _ _ _ q hq g) λe he=>he.grow g)
theorem eW{f:aa->M Bool}{g:aa->Bool->M β}{R:Bool->Hp->Prop}(kg:KG K)(h:tG E (λenv=>(f env).bind (g env)) K σ H)
  (k:∀ B H₀ Hs H1 env p,SR B H₀ Hs H1 σ env->ah (g env p) (K Hs H1) (XW (E σ) Hs H1)->R p H1):tT E f σ H R:=by
 obtain⟨B,H₀,Hs,env,sr,h⟩:=h;refine⟨B,H₀,Hs,env,sr,(ah.bind h).imp (λp hp z8 H' g=>?_) λe he=>he⟩;exact k B H₀ z8 H' env p (sr.grow g) (hp.imp (λq hq=>kg _ _ _ _ q hq g) λe he=>he.grow g)
theorem dc{f:aa->M (List PV)}{g:aa->List PV->M β}(kg:KG K)(h:tG E (λenv=>(f env).bind (g env)) K σ H)
  (k:∀ B H₀ Hs H1 env p v,SR B H₀ Hs H1 σ env->aw Hs p v->ah (g env p) (K Hs H1) (XW (E σ) Hs H1)->R v H1):tL E f σ H R:=by
 obtain⟨B,H₀,Hs,env,sr,h⟩:=h;refine⟨B,H₀,Hs,env,sr,(ah.bind h).imp (λp hp v z8 H' g r=>?_) λe he=>he⟩;exact k B H₀ z8 H' env p v (sr.grow g) r (hp.imp (λq hq=>kg _ _ _ _ q hq g) λe he=>he.grow g)
end
def lD:PV->M Bool
 | .bl b=>M.ok b
 | _=>none
def cm(f:aa->M PV):aa->M Bool:=λenv=>(f env).bind lD
theorem ah.yi{Q:Bool->Prop}{E:EX->Prop}(h:ah (lD p) Q E):∃ b,p=.bl b/\Q b:=by
 cases p with
 | bl b=>exact⟨b,rfl,h⟩
 | _=>exact h.elim
variable{r:List V->Hp->VK->Prop}
section
variable{a b:Expr}{f g h:aa->M PV}{u v:aa->M Bool}{rest:List Expr}
theorem hX{Q:Bool->Hp->Prop}(q:tT E (cm f) σ H Q):tB (tE E f) σ H Q:=by
 refine aQ KB.g q λB H₀ Hs H1 env p v sr rp hp=>?_;obtain⟨k,rfl,hp⟩:=ah.yi hp;cases rp;exact⟨k,rfl,hp Hs H1 (.refl sr.gr.sub)⟩
theorem jv(he:PE X e (tE E f))(hw:autoParam (∀ whole,isTrue e X.env whole=(do let v <- whole;standAt e.pos;holding [v] (truthy v))) aI._auto_1):PT X e (tT E (cm f)) :=
 (wG he hw).imp fun σ H Q q=>hX q
theorem dI{r:R2}{o:PV->PV->M PV}(ho:cR X (compareOp op) r)(hv:eQ E r o)(ha:PE X a (tE E f))(hb:PE X b (tE E g))(hm:behindInMarks op b=false):PT X (.Compare a [op] [b] pos) (tT E (cm (aj o f g))):=by
 refine(qJ ho ha hb hm).imp fun σ H Q q=>?_;have q':=hX q;exact lZ q' λHs H1 p q v u s rp rq h=>hv σ Hs H1 p q v u _ s rp rq h
def gD(u:aa->M Bool):aa->M Bool:=λenv=>(u env).bind λb=>M.ok (!b)
def vE(u v:aa->M Bool):aa->M Bool:=λenv=>(u env).bind λb=>if b=true then v env else M.ok false
def rR(u v:aa->M Bool):aa->M Bool:=λenv=>(u env).bind λb=>if b=true then M.ok true else v env
theorem vp(ha:PT X a (tT E u)):PT X (.UnaryOp .Not a pos) (tT E (gD u)) :=
 (uO ha).imp fun σ H Q q=>eW KB.g q λB H₀ Hs H1 env p sr hp=>hp Hs H1 (.refl sr.gr.sub)
theorem rf(ha:PT X a (tT E u)):PW X (.BoolOp .And [a] pos) (tT E u):=pw_and1 ha
theorem f9(ha:PT X a (tT E u)):PW X (.BoolOp .Or [a] pos) (tT E u):=pw_or1 ha
theorem uW(ha:PT X a (tT E u))(hb:PW X (.BoolOp .And (b::rest) pos) (tT E v)):PW X (.BoolOp .And (a::b::rest) pos) (tT E (vE u v)):=by
 refine(pw_and ha hb).imp fun σ H Q q=>eW KB.g q λB H₀ Hs H1 env p sr hp=>?_;cases p with
 | true=>exact⟨B,H₀,Hs,env,sr,hp⟩
 | false=>exact hp Hs H1 (.refl sr.gr.sub)
theorem iv(ha:PT X a (tT E u))(hb:PW X (.BoolOp .Or (b::rest) pos) (tT E v)):PW X (.BoolOp .Or (a::b::rest) pos) (tT E (rR u v)):=by
 refine(pw_or ha hb).imp fun σ H Q q=>eW KB.g q λB H₀ Hs H1 env p sr hp=>?_;cases p with
 | true=>exact hp Hs H1 (.refl sr.gr.sub)
 | false=>exact⟨B,H₀,Hs,env,sr,hp⟩
def rm(f:aa->M PV):aa->M PV:=λenv=>(f env).bind λp=>(lD p).bind λb=>M.ok (.bl (!b))
def iC(f g:aa->M PV):aa->M PV:=λenv=>(f env).bind λp=>(lD p).bind λb=>if b=true then g env else M.ok (.bl false)
def y_(f g:aa->M PV):aa->M PV:=λenv=>(f env).bind λp=>(lD p).bind λb=>if b=true then M.ok (.bl true) else g env
theorem pb(ha:PE X a (tE E f)):PE X (.UnaryOp .Not a pos) (tE E (rm f)):=by
 refine(vH ha).imp fun σ H Q q=>aQ (K:=eg Q) eg.g q λB H₀ Hs H1 env p v sr rp hp=>?_;obtain⟨k,rfl,hp⟩:=ah.yi (ah.bind hp);cases rp;exact⟨k,rfl,bb.flat hp sr.gr.sub (.bl _)⟩
theorem dS(ha:PE X a (tE E f))(hb:PE X (.BoolOp .And (b::rest) pos) (tE E g)):PE X (.BoolOp .And (a::b::rest) pos) (tE E (iC f g)):=by
 refine(uv ha hb).imp fun σ H Q q=>aQ (K:=eg Q) eg.g q λB H₀ Hs H1 env p v sr rp hp=>?_;obtain⟨k,rfl,hp⟩:=ah.yi (ah.bind hp);cases rp;refine⟨k,rfl,?_⟩;cases k with
 | true=>exact⟨B,H₀,Hs,env,sr,hp⟩
 | false=>exact bb.flat hp sr.gr.sub (.bl _)
theorem xF(ha:PE X a (tE E f))(hb:PE X (.BoolOp .Or (b::rest) pos) (tE E g)):PE X (.BoolOp .Or (a::b::rest) pos) (tE E (y_ f g)):=by
 refine(xE ha hb).imp fun σ H Q q=>aQ (K:=eg Q) eg.g q λB H₀ Hs H1 env p v sr rp hp=>?_;obtain⟨k,rfl,hp⟩:=ah.yi (ah.bind hp);cases rp;refine⟨k,rfl,?_⟩;cases k with
 | false=>exact⟨B,H₀,Hs,env,sr,hp⟩
 | true=>exact bb.flat hp sr.gr.sub (.bl _)
def om(u:aa->M Bool)(f g:aa->M PV):aa->M PV:=λenv=>(u env).bind λb=>if b=true then f env else g env
theorem vM(hc:PT X c (tT E u))(ha:PE X a (tE E f))(hb:PE X b (tE E g)):PE X (.IfExp c a b pos) (tE E (om u f g)):=by
 refine(oy hc ha hb).imp fun σ H Q q=>eW (K:=eg Q) eg.g q λB H₀ Hs H1 env p sr hp=>?_;cases p with
 | true=>exact⟨B,H₀,Hs,env,sr,hp⟩
 | false=>exact⟨B,H₀,Hs,env,sr,hp⟩
def ay:aa->M (List PV):=λ_=>M.ok []
def af(f:aa->M PV)(fs:aa->M (List PV)):aa->M (List PV):=λenv=>(f env).bind λp=>(fs env).bind λps=>M.ok (p::ps)
variable{fs:aa->M (List PV)}
theorem uM:PA X [] (tL E ay):=by
 refine c8.imp fun σ H Q q=>?_;obtain⟨B,H₀,Hs,env,sr,q⟩:=q;exact q [] Hs H (.refl sr.gr.sub) .nil
theorem sG(ha:PE X e (tE E f))(hr:PA X es (tL E fs))(hs:autoParam (starEach (e::es) X.env=(false,eval e X.env)::starEach es X.env) aR._auto_1):PA X (e::es) (tL E (af f fs)):=by
 refine(aX ha hr hs).imp fun σ H Q q=>aQ (K:=KL Q) KL.g q λB H₀ Hs H1 env p v sr rp hp=>?_;refine⟨B,H₀,Hs,env,sr,(ah.bind hp).imp (λps hps vs z8 H' g r=>?_) λe he=>he⟩;exact hps (v::vs) z8 H' g (.cons (rp.mono g.st) r)
def jl(fs:aa->M (List PV)):aa->M PV:=λenv=>(fs env).bind λps=>bB (ps.length<=sizeLine) (M.ok (.tup ps))
def iM(fs:aa->M (List PV)):aa->M PV:=λenv=>(fs env).bind λps=>bB (ps.length<=sizeLine) (M.ok (.lst ps))
theorem uD(hr:PA X es (tL E fs)):PE X (.Tuple es x1 pos) (tE E (jl fs)):=by
 refine(jm hr).imp fun σ H Q q=>dc (K:=eg Q) eg.g q λB H₀ Hs H1 env p v sr rp hp=>?_;obtain⟨hz,hp⟩:=ah.bB hp;exact⟨by rw[<- rp.length];exact hz,bb.tup hp sr.gr.sub rp⟩
theorem wI(hr:PA X es (tL E fs)):PE X (.List es pos) (tE E (iM fs)):=by
 refine(oO hr).imp fun σ H Q q=>dc (K:=eg Q) eg.g q λB H₀ Hs H1 env p v sr rp hp=>?_;obtain⟨hz,hp⟩:=ah.bB hp;exact⟨by rw[<- rp.length];exact hz,bb.lst hp sr.gr.sub rp⟩
def ak(o:List PV->M PV)(fs:aa->M (List PV)):aa->M PV:=λenv=>(fs env).bind o
def fe(E:St->XK)(r:List V->Hp->VK->Prop)(o:List PV->M PV):Prop:=∀ (σ:St) (Hs H:Hp) (ps:List PV) (vs:List V) (Q:VK),aO Hs H->aw Hs ps vs->ah (o ps) (bb Hs H Q) (XW (E σ) Hs H)->r vs H Q
theorem qA{o:List PV->M PV}{Q:VK}(hv:fe E r o)(q:tE E (ak o fs) σ H Q):yA r (tL E fs) σ H Q :=
 dc (K:=eg Q) eg.g q λB H₀ Hs H1 env p v sr rp hp=>hv σ Hs H1 p v Q sr.gr.sub rp hp
variable{p:Pos}{id T:String}
theorem kG{o:List PV->M PV}(hc:bj X (.builtin id) r)(hv:fe E r o)(hg:Gl X x)(hm:X.mg x=none)(hx:bootBuiltins x=some (.builtin id))(ha:PA X (e::es) (tL E fs))(hn:autoParam (x ≠ "__name__") aD._auto_1)(AR:autoParam ((x==("__debug__" : Str))=false) aD._auto_1)
  (he:autoParam (starEach (e::es) X.env=(false,eval e X.env)::starEach es X.env) aR._auto_1) (Aq:autoParam ((backTo pos (starEach es X.env)).any (·.1)=false) aR._auto_1):PE X (.Call (.Name x p) (e::es) [] pos) (tE E (ak o fs)) :=
 (dR hc hg hm hx ha hn AR he Aq).imp fun σ H Q q=>qA hv q
theorem cP{o:List PV->M PV}(hc:bj X (.type T) r)(hv:fe E r o)(hg:Gl X x)(hm:X.mg x=none)(hx:bootBuiltins x=some (.type T))(ha:PA X (e::es) (tL E fs))(hn:autoParam (x ≠ "__name__") aD._auto_1)(AR:autoParam ((x==("__debug__" : Str))=false) aD._auto_1)
  (he:autoParam (starEach (e::es) X.env=(false,eval e X.env)::starEach es X.env) aR._auto_1) (Aq:autoParam ((backTo pos (starEach es X.env)).any (·.1)=false) aR._auto_1):PE X (.Call (.Name x p) (e::es) [] pos) (tE E (ak o fs)) :=
 (nv hc hg hm hx ha hn AR he Aq).imp fun σ H Q q=>qA hv q
end
variable{xs:List PV}
def cf:PV->Option (List PV)
 | .tup xs=>some xs
 | .lst xs=>some xs
 | .dD xs=>some xs
 | _=>none
theorem pj{K:PySem.W.Frag}(s:aO Hs H)(r:Rep Hs p v)(e:cf p=some xs):∃ a vs,v=.ref a/\(dF K H a vs\/dg K H a vs)/\aw Hs xs vs:=by
 cases r with
 | tup h r=>cases e;exact⟨_,_,rfl,.inr (dg.of (s _ _ h)),r⟩
 | lst h r=>cases e;exact⟨_,_,rfl,.inl (dF.of (s _ _ h)),r⟩
 | dD h r=>cases e;exact⟨_,_,rfl,.inl (.inl (.inr ⟨_,s _ _ h⟩)),r⟩
 | _=>cases e
def ju:PV->M PV
 | .str z=>bB (z.length<=sizeLine) (M.ok (.int z.length))
 | p=>cJ ((cf p).map λxs=>.int xs.length)
def fm:List PV->M PV
 | [p]=>ju p
 | _=>none
theorem aw.one(r:aw H [p] vs):∃ v,vs=[v]/\Rep H p v:=by
 cases r with
 | cons h r=>cases r;exact⟨_,rfl,h⟩
theorem aw.two{q:PV}(r:aw H [p,q] vs):∃ v u,vs=[v,u]/\Rep H p v/\Rep H q u:=by
 cases r with
 | cons h r=>obtain⟨u,rfl,h2⟩:=r.one;exact⟨_,_,rfl,h,h2⟩
def tM(K:PySem.W.Frag):List V->Hp->VK->Prop:=λxs H Q=>(∃ p ys,xs=[.ref p]/\(dF K H p ys\/dg K H p ys)/\Q (.int ys.length) H)\/∃ z,xs=[.str z]/\z.length<=sizeLine/\Q (.int z.length) H
theorem mO:bj X (.builtin "len") (tM X.K):=bj.or jt jQ
theorem vX{K:PySem.W.Frag}:fe E (tM K) fm:=by
 intro σ Hs H ps vs Q s r h
 match ps,r with
 | [],_=>exact h.elim
 | _::_::_,_=>exact h.elim
 | [p],r =>
  obtain⟨v,rfl,rp⟩:=r.one;cases hp:cf p with
  | none =>
   cases p with
   | str z =>
    cases rp;obtain⟨hz,h⟩:=ah.bB h;exact .inr ⟨z,rfl,hz,bb.flat h s (.int _)⟩
   | tup _=>cases hp
   | lst _=>cases hp
   | dD _=>cases hp
   | _=>exact h.elim
  | some xs =>
   obtain⟨a,us,rfl,hq,hx⟩:=pj (K:=K) s rp hp;have h':ah (cJ ((cf p).map λxs=>PV.int xs.length)) (bb Hs H Q) (XW (E σ) Hs H):=by
    cases p with
    | str z=>cases hp
    | _=>exact h
   rw[hp] at h';refine .inl ⟨a,us,rfl,hq,?_⟩;rw[<- hx.length];exact bb.flat h' s (.int _)
def ko:List PV->M PV
 | [p]=>cJ ((cf p).map .lst)
 | _=>none
theorem sU{K:PySem.W.Frag}:fe E (λxs H Q=>∃ p ys,xs=[.ref p]/\(dF K H p ys\/dg K H p ys)/\∀ l,H l=none->Q (.ref l) (upd H l (.lst ys))) ko:=by
 intro σ Hs H ps vs Q s r h
 match ps,r with
 | [],_=>exact h.elim
 | _::_::_,_=>exact h.elim
 | [p],r =>
  obtain⟨v,rfl,rp⟩:=r.one;obtain⟨x,ex,h⟩:=ah.opt h;obtain⟨xs,hp,rfl⟩:=CI.mp ex;obtain⟨a,us,rfl,hq,hx⟩:=pj (K:=K) s rp hp;exact⟨a,us,rfl,hq,bb.lst h s hx⟩
def eG:List PV->M PV
 | [p]=>cJ ((cf p).map .tup)
 | _=>none
theorem oE{K:PySem.W.Frag}:fe E (λxs H Q=>∃ p ys,xs=[.ref p]/\((dF K H p ys/\∀ l,H l=none->Q (.ref l) (upd H l (.tup ys)))\/(dg K H p ys/\Q (.ref p) H))) eG:=by
 intro σ Hs H ps vs Q s r h
 match ps,r with
 | [],_=>exact h.elim
 | _::_::_,_=>exact h.elim
 | [p],r =>
  obtain⟨v,rfl,rp⟩:=r.one;obtain⟨x,ex,h⟩:=ah.opt h;obtain⟨xs,hp,rfl⟩:=CI.mp ex;cases rp with
  | tup ha hx=>cases hp;exact⟨_,_,rfl,.inr ⟨dg.of (s _ _ ha),bb.flat h s (.tup ha hx)⟩⟩
  | lst ha hx=>cases hp;exact⟨_,_,rfl,.inl ⟨dF.of (s _ _ ha),bb.tup h s hx⟩⟩
  | dD ha hx=>cases hp;exact⟨_,_,rfl,.inl ⟨.inl (.inr ⟨_,s _ _ ha⟩),bb.tup h s hx⟩⟩
  | _=>cases hp
def oq:List PV->Option (List Bool)
 | []=>some []
 | .bl i::r=>(oq r).map (i::·)
 | _=>none
theorem qE:∀ {ps:List PV} {ns:List Bool},oq ps=some ns->ps=ns.map PV.bl
 | [],_,e=>by cases e;rfl
 | .bl i::r,_,e=>by
  obtain⟨ms,h1,rfl⟩:=CI.mp e;rw[qE h1];rfl
theorem kH:∀ (ns:List Bool),oq (ns.map PV.bl)=some ns
 | []=>rfl
 | n::r=>by show (oq (r.map PV.bl)).map (n::·)=_;rw[kH r];rfl
def all1:PV->M PV
 | .lst xs=>cJ ((oq xs).map λns=>.bl (ns.all id))
 | _=>none
def nr:List PV->M PV
 | [p]=>all1 p
 | _=>none
theorem wz{K:PySem.W.Frag}:fe E (λxs H Q=>∃ (a:Addr) (bs:List Bool),xs=[.ref a]/\dF K H a (bs.map V.bl)/\Q (.bl (bs.all id)) H) nr:=by
 intro σ Hs H ps vs Q s r h
 match ps,r with
 | [],_=>exact h.elim
 | _::_::_,_=>exact h.elim
 | [p],r =>
  obtain⟨v,rfl,rp⟩:=r.one;cases rp with
  | lst ha hx =>
   obtain⟨x,ex,h⟩:=ah.opt h;obtain⟨ns,hn,rfl⟩:=CI.mp ex;rw[qE hn] at hx;exact⟨_,ns,rfl,hx.zg▸dF.of (s _ _ ha),bb.flat h s (.bl _)⟩
  | _=>exact h.elim
def gp(n:Nat)(sem:List PV->M PV):Sp:=λvs H Q E=>vs.length=n/\∃ Hs ps,aO Hs H/\aw Hs ps vs/\ah (sem ps) (bb Hs H Q) (XW E Hs H)
section
variable{sem:List PV->M PV}{p:Pos}{o:Expr}{fs:aa->M (List PV)}{g:aa->M PV}
theorem rT{Bx:List PV}(F:bK X.prog X.w X.K X.mg X.base (dz X.prog X.w) k f fd ps (gp n sem))(hr:bW k X.A)(hg:Gl X x)(hm:X.mg x=some (.ref f))(hk:PySem.W.keepIn X.K (.ref f)=true)(hb:Binds X.K fd ps ds)(hd:Vals Bb ds)(hdp:∀ H,aw H Bx Bb)(O:ez X E)
  (hl:∀ ps,sem (ps++Bx)≠none->ps.length+Bx.length=n)
  (ha:PA X (e::es) (tL E fs)) (AR:autoParam ((x==("__debug__" : Str))=false) aD._auto_1) (he:autoParam (starEach (e::es) X.env=(false,eval e X.env)::starEach es X.env) aR._auto_1) (Aq:autoParam ((backTo pos (starEach es X.env)).any (·.1)=false) aR._auto_1) :
  PE X (.Call (.Name x p) (e::es) [] pos) (tE E (ak (λps=>sem (ps++Bx)) fs)):=by
 refine(oY F hr hg hm hk hb hd O ha AR he Aq).imp fun σ H Q q=>dc (K:=eg Q) eg.g q λB H₀ Hs H1 env BK v sr rp hp=>?_;have r2:aw Hs (BK++Bx) (v++Bb):=rp.append (hdp Hs);have hn:sem (BK++Bx)≠none:=λz=>by rw[z] at hp;exact hp
 refine⟨?_,Hs,BK++Bx,sr.gr.sub,r2,hp⟩;rw[<- r2.length,CU];exact hl BK hn
end
inductive Out where
 | nx (env:aa) | rt (p:PV) | bk (env:aa) | ct (env:aa)
def KS(D:Ends)(B H₀:Hp):Out->Prop
 | .nx env=>∀ σ Hs H,SR B H₀ Hs H σ env->D.nx σ H
 | .rt p=>∀ v Hs H,aT B H₀ Hs H->Rep Hs p v->D.rt v H
 | .bk env=>∀ σ Hs H,SR B H₀ Hs H σ env->D.bk σ H
 | .ct env=>∀ σ Hs H,SR B H₀ Hs H σ env->D.ct σ H
def tS(E:XK)(f:aa->M Out):TS:=λD σ H=>∃ B H₀ Hs env,SR B H₀ Hs H σ env/\ah (f env) (KS D B H₀) (XW E B H₀)
theorem PS.imp{st:Stmt}{t t':TS}(h:PS X st t)(i:∀ D σ H,t' D σ H->t D σ H):PS X st t':=λz0 s σ H D I q=>h z0 s σ H D I (i D σ H q)
theorem gk.imp{st:List Stmt}{t t':TS}(h:gk X st t)(i:∀ D σ H,t' D σ H->t D σ H):gk X st t':=λz0 s σ H D I q=>h z0 s σ H D I (i D σ H q)
def aq:aa->M Out:=λenv=>M.ok (.nx env)
def oz(g:aa->M Out):Out->M Out
 | .nx env=>g env
 | o=>M.ok o
noncomputable def ar(f g:aa->M Out):aa->M Out:=λenv=>(f env).bind (oz g)
theorem iu{E:XK}{f:aa->M PV}{g:aa->PV->M Out}{D:Ends}{R:VK}(h:tS E (λenv=>(f env).bind (g env)) D σ H)
  (k:∀ B H₀ Hs H1 env p v,SR B H₀ Hs H1 σ env->Rep Hs p v->ah (g env p) (KS D B H₀) (XW E B H₀)->R v H1):tE (λ_=>E) f σ H R:=by
 obtain⟨B,H₀,Hs,env,sr,h⟩:=h;refine⟨B,H₀,Hs,env,sr,(ah.bind h).imp (λp hp v z8 H' g r=>?_) λe he=>he.grow sr.gr⟩;exact k B H₀ z8 H' env p v (sr.grow g) r hp
theorem pT{E:XK}{f:aa->M Bool}{g:aa->Bool->M Out}{D:Ends}{R:Bool->Hp->Prop}(h:tS E (λenv=>(f env).bind (g env)) D σ H)
  (k:∀ B H₀ Hs H1 env p,SR B H₀ Hs H1 σ env->ah (g env p) (KS D B H₀) (XW E B H₀)->R p H1):tT (λ_=>E) f σ H R:=by
 obtain⟨B,H₀,Hs,env,sr,h⟩:=h;refine⟨B,H₀,Hs,env,sr,(ah.bind h).imp (λp hp z8 H' g=>?_) λe he=>he.grow sr.gr⟩;exact k B H₀ z8 H' env p (sr.grow g) hp
theorem qf{E:XK}{f:aa->M (List PV)}{g:aa->List PV->M Out}{D:Ends}(h:tS E (λenv=>(f env).bind (g env)) D σ H)
  (k:∀ B H₀ Hs H1 env p v,SR B H₀ Hs H1 σ env->aw Hs p v->ah (g env p) (KS D B H₀) (XW E B H₀)->R v H1):tL (λ_=>E) f σ H R:=by
 obtain⟨B,H₀,Hs,env,sr,h⟩:=h;refine⟨B,H₀,Hs,env,sr,(ah.bind h).imp (λp hp v z8 H' g r=>?_) λe he=>he.grow sr.gr⟩;exact k B H₀ z8 H' env p v (sr.grow g) r hp
theorem SR.set{B H₀ Hs H:Hp}{σ:St}{env:aa}{p:PV}{v:V}{i:Nat}(r:SR B H₀ Hs H σ env)(h:Rep Hs p v):SR B H₀ Hs H (σ.set i (some v)) (env.set i (some (.sh p))) where
 gr:=r.gr
 len:=by rw[Dp,Dp];exact r.len
 sh:=λj q e=>by
  rw[Cu] at e ⊢
  by_cases z:i=j
  .subst z;rw[if_pos rfl] at e ⊢
   split at e
   .cases e;rw[if_pos (by rw[r.len];assumption)];exact⟨v,rfl,h⟩
   .cases e
  .rw[if_neg z] at e ⊢;exact r.sh j q e
 ow:=λj xs e=>by
  rw[Cu] at e ⊢
  by_cases z:i=j
  .subst z;rw[if_pos rfl] at e
   split at e <;> cases e
  .rw[if_neg z] at e ⊢;exact r.ow j xs e
 sep:=λj k xs ys a n e1 e2 e3 e4=>by
  rw[Cu] at e1 e2 e3 e4
  by_cases z:i=j
  .subst z;rw[if_pos rfl] at e1
   split at e1 <;> cases e1
  .by_cases z2:i=k
   .subst z2;rw[if_pos rfl] at e2
    split at e2 <;> cases e2
   .rw[if_neg z] at e1 e3;rw[if_neg z2] at e2 e4;exact r.sep j k xs ys a n e1 e2 e3 e4
 bd:=λj a C fs e=>by
  rw[Cu] at e ⊢
  by_cases z:i=j
  .subst z;rw[if_pos rfl] at e
   split at e <;> cases e
  .rw[if_neg z] at e ⊢;exact r.bd j a C fs e
 one:=λj k a b C D fs gs e1 e2=>by
  rw[Cu] at e1 e2
  by_cases z:i=j
  .subst z;rw[if_pos rfl] at e1
   split at e1 <;> cases e1
  .by_cases z2:i=k
   .subst z2;rw[if_pos rfl] at e2
    split at e2 <;> cases e2
   .rw[if_neg z] at e1;rw[if_neg z2] at e2;exact r.one j k _ _ C D fs gs e1 e2
theorem SR.own{B:Hp}{env:aa}{p:Addr}(r:SR B H₀ Hs H σ env)(h:aw Hs xs vs)(n:H p=none):SR B H₀ Hs (upd H p (.lst vs)) (σ.set i (some (.ref p))) (env.set i (some (.ow xs))):=by
 have ne:∀ c u,H c=some u->c≠p:=λc u e z=>by rw[z,n] at e;cases e
 have hs:Hs p=none:=by
  cases q:Hs p with
  | none=>rfl
  | some o=>have:=r.gr.sub _ _ q;rw[n] at this;cases this
 have h0:H₀ p=none:=by
  cases q:H₀ p with
  | none=>rfl
  | some o=>have:=r.gr.al _ _ q;rw[n] at this;cases this
 refine⟨⟨r.gr.st,λc u e=>by rw[ai (ne c u (r.gr.al c u e))];exact r.gr.al c u e,λc u e=>by rw[ai (ne c u (r.gr.sub c u e))];exact r.gr.sub c u e,r.gr.nw⟩,by rw[Dp,Dp];exact r.len,λj q e=>?_,λj ys e=>?_,λj k ys zs a nj e1 e2 e3 e4=>?_,λj ba C fs e=>?_,λj k _ _ C D fs gs e1 e2=>?_⟩
 .rw[Cu] at e ⊢
  by_cases z:i=j
  .subst z;rw[if_pos rfl] at e
   split at e <;> cases e
  .rw[if_neg z] at e ⊢;exact r.sh j q e
 .rw[Cu] at e ⊢
  by_cases z:i=j
  .subst z;rw[if_pos rfl] at e ⊢
   split at e
   .cases e;rw[if_pos (by rw[r.len];assumption)];exact⟨p,vs,rfl,au,hs,h0,h⟩
   .cases e
  .rw[if_neg z] at e ⊢;obtain⟨a,us,h1,h2,h3,h4,h5⟩:=r.ow j ys e;exact⟨a,us,h1,by rw[ai (ne a _ h2)];exact h2,h3,h4,h5⟩
 .rw[Cu] at e1 e2 e3 e4
  by_cases z:i=j
  .subst z;rw[if_pos rfl] at e3
   split at e3
   .cases e3;rw[if_neg nj] at e2 e4;obtain⟨a',us,h1,h2,_⟩:=r.ow k zs e2;rw[e4] at h1;cases h1;rw[n] at h2;cases h2
   .cases e3
  .rw[if_neg z] at e1 e3
   by_cases z2:i=k
   .subst z2;rw[if_pos rfl] at e4
    split at e4
    .cases e4;obtain⟨a',us,h1,h2,_⟩:=r.ow j ys e1;rw[e3] at h1;cases h1;rw[n] at h2;cases h2
    .cases e4
   .rw[if_neg z2] at e2 e4;exact r.sep j k ys zs a nj e1 e2 e3 e4
 .rw[Cu] at e ⊢
  by_cases z:i=j
  .subst z;rw[if_pos rfl] at e
   split at e <;> cases e
  .rw[if_neg z] at e ⊢;obtain⟨dx,us,h1,h2,h3,h4,h5⟩:=r.bd j ba C fs e;exact⟨dx,us,h1,by rw[ai (ne ba _ h2)];exact h2,h3,h4,h5⟩
 .rw[Cu] at e1 e2
  by_cases z:i=j
  .subst z;rw[if_pos rfl] at e1
   split at e1 <;> cases e1
  .by_cases z2:i=k
   .subst z2;rw[if_pos rfl] at e2
    split at e2 <;> cases e2
   .rw[if_neg z] at e1;rw[if_neg z2] at e2;exact r.one j k _ _ C D fs gs e1 e2
def pL(i:Nat)(env:aa):aa:=match env[i]? with
 | some (some (.ow xs))=>env.set i (some (.sh (.lst xs)))
 | _=>env
theorem SR.iK{B:Hp}{env:aa}(i:Nat)(r:SR B H₀ Hs H σ env):∃ z8,SR B H₀ z8 H σ (pL i env)/\aO Hs z8:=by
 unfold pL
 split
 .rename_i xs e;obtain⟨a,vs,h1,h2,h3,h4,h5⟩:=r.ow i xs e;have ne:∀ c u,Hs c=some u->c≠a:=λc u q z=>by rw[z,h3] at q;cases q
  have Af:aO Hs (upd Hs a (.lst vs)):=λc u q=>by rw[ai (ne c u q)];exact q
  refine⟨upd Hs a (.lst vs),⟨⟨λc u q=>Af c u (r.gr.st c u q),r.gr.al,λc u q=>?_,λc u q1 q2=>?_⟩,by rw[Dp];exact r.len,λj q ej=>?_,λj ys ej=>?_,λj k ys zs b nj e1 e2 e3 e4=>?_,λj ba C fs ej=>?_,λj k _ _ C D fs gs e1 e2=>?_⟩,Af⟩
  .by_cases z:c=a
   .subst z;rw[au] at q;cases q;exact h2
   .rw[ai z] at q;exact r.gr.sub c u q
  .have z:c≠a:=λz=>by rw[z,h4] at q2;cases q2
   rw[ai z];exact r.gr.nw c u q1 q2
  .rw[Cu] at ej
   by_cases z:i=j
   .subst z;rw[if_pos rfl] at ej
    split at ej
    .cases ej;exact⟨.ref a,h1,.lst au (h5.mono Af)⟩
    .cases ej
   .rw[if_neg z] at ej;obtain⟨v,q1,q2⟩:=r.sh j q ej;exact⟨v,q1,q2.mono Af⟩
  .rw[Cu] at ej
   by_cases z:i=j
   .subst z;rw[if_pos rfl] at ej
    split at ej <;> cases ej
   .rw[if_neg z] at ej;obtain⟨b,us,q1,q2,q3,q4,q5⟩:=r.ow j ys ej;have nb:b≠a:=λw=>by subst w;exact r.sep i j xs ys b z e ej h1 q1
    exact⟨b,us,q1,q2,by rw[ai nb];exact q3,q4,q5.mono Af⟩
  .rw[Cu] at e1 e2
   by_cases z:i=j
   .subst z;rw[if_pos rfl] at e1
    split at e1 <;> cases e1
   .by_cases z2:i=k
    .subst z2;rw[if_pos rfl] at e2
     split at e2 <;> cases e2
    .rw[if_neg z] at e1;rw[if_neg z2] at e2;exact r.sep j k ys zs b nj e1 e2 e3 e4
  .rw[Cu] at ej
   by_cases z:i=j
   .subst z;rw[if_pos rfl] at ej
    split at ej <;> cases ej
   .rw[if_neg z] at ej;obtain⟨dx,us,q1,q2,q3,q4,q5⟩:=r.bd j ba C fs ej;have nb:ba≠a:=λw=>by subst w;rw[h2] at q2;cases q2
    exact⟨dx,us,q1,q2,by rw[ai nb];exact q3,q4,q5.mono Af⟩
  .rw[Cu] at e1 e2
   by_cases z:i=j
   .subst z;rw[if_pos rfl] at e1
    split at e1 <;> cases e1
   .by_cases z2:i=k
    .subst z2;rw[if_pos rfl] at e2
     split at e2 <;> cases e2
    .rw[if_neg z] at e1;rw[if_neg z2] at e2;exact r.one j k _ _ C D fs gs e1 e2
 .exact⟨Hs,r,λ_ _ q=>q⟩
def rh(is:List Nat)(f:aa->M Out):aa->M Out:=λenv=>f (is.foldl (λe i=>pL i e) env)
theorem SR.dM{B H₀ H:Hp}{σ:St}:∀ {is:List Nat} {Hs:Hp} {env:aa},SR B H₀ Hs H σ env->∃ z8,SR B H₀ z8 H σ (is.foldl (λe i=>pL i e) env)/\aO Hs z8
 | [],Hs,_,r=>⟨Hs,r,λ_ _ q=>q⟩
 | i::is,_,_,r=>by
  obtain⟨z_,r1,s1⟩:=r.iK i;obtain⟨Aa,r2,s2⟩:=SR.dM (is:=is) r1;exact⟨Aa,r2,λc u q=>s2 c u (s1 c u q)⟩
variable{pos':Pos}
section
variable{E:XK}{f:aa->M PV}{st:Stmt}{sts rest:List Stmt}{u:aa->M Bool}{g h:aa->M Out}
theorem wJ(is:List Nat)(hs:PS X st (tS E g)):PS X st (tS E (rh is g)):=hs.imp λD σ H q=>by
 obtain⟨B,H₀,Hs,env,sr,q⟩:=q;obtain⟨z8,r,_⟩:=sr.dM (is:=is);exact⟨B,H₀,z8,_,r,q⟩
theorem sS:gk X [] (tS E aq):=mv.imp λD σ H q=>by
 obtain⟨B,H₀,Hs,env,sr,q⟩:=q;exact q σ Hs H sr
theorem p6(h1:PS X st (tS E g))(h2:gk X rest (tS E h)):gk X (st::rest) (tS E (ar g h)):=by
 refine(kz h1 h2).imp λD σ H q=>?_;obtain⟨B,H₀,Hs,env,sr,q⟩:=q;refine⟨B,H₀,Hs,env,sr,(ah.bind q).imp (λo ho=>?_) λe he=>he⟩;cases o with
 | nx Ad=>exact fun σ' z8 H' AZ=>⟨B,H₀,z8,Ad,AZ,ho⟩
 | rt p=>exact ho
 | bk Ad=>exact ho
 | ct Ad=>exact ho
def bI(i:Nat)(f:aa->M PV):aa->M Out:=λenv=>(f env).bind λp=>M.ok (.nx (env.set i (some (.sh p))))
theorem u0(hN:X.N.Nodup)(hi:X.N[i]?=some x)(hx:Loc X.env.scope x)(he:PE X e (tE (λ_=>E) f))(hs:autoParam (swapsWith e (some (.Name x pos')) pos.line X.env=pure false) aR._auto_1)(hf:autoParam (X.fn x=true\/X.env.scope.names.lookup x=some .local) aF._auto_1) :
  PS X (.Assign [.Name x pos'] e pos) (tS E (bI i f)) :=
 (lB hN hi hx he hs hf).imp λD σ H q=>iu q λB H₀ Hs H1 env p v sr rp hp=>hp _ Hs H1 (sr.set rp)
def retS(f:aa->M PV):aa->M Out:=λenv=>(f env).bind λp=>M.ok (.rt p)
theorem wH(he:PE X e (tE (λ_=>E) f)):PS X (.Return (some e) pos) (tS E (retS f)) :=
 (vB he).imp λD σ H q=>iu q λB H₀ Hs H1 env p v sr rp hp=>hp v Hs H1 sr.gr rp
def l6(f:aa->M PV):aa->M Out:=λenv=>(f env).bind λ_=>M.ok (.nx env)
theorem rk(he:PE X e (tE (λ_=>E) f))(hs:autoParam (swapsWith e none pos.line X.env=pure false) aR._auto_1):PS X (.Expr e pos) (tS E (l6 f)) :=
 (mD he hs).imp λD σ H q=>iu q λB H₀ Hs H1 env p v sr rp hp=>hp σ Hs H1 sr
def eL(u:aa->M Bool)(g h:aa->M Out):aa->M Out:=λenv=>(u env).bind λb=>if b=true then g env else h env
theorem xo{a b:List Stmt}(hc:PT X c (tT (λ_=>E) u))(ha:gk X a (tS E g))(hb:gk X b (tS E h)):PS X (.If c a b pos) (tS E (eL u g h)):=by
 refine(xN hc ha hb).imp λD σ H q=>pT q λB H₀ Hs H1 env p sr hp=>?_;cases p with
 | true=>exact⟨B,H₀,Hs,env,sr,hp⟩
 | false=>exact⟨B,H₀,Hs,env,sr,hp⟩
end
def ov(Hs H₀:Hp):Hp:=λa=>match Hs a with
 | some o=>some o
 | none=>H₀ a
theorem gO(h:Hs a=some o):ov Hs H₀ a=some o:=by unfold ov;rw[h]
theorem dr(h:Hs a=none):ov Hs H₀ a=H₀ a:=by unfold ov;rw[h]
theorem rO(s:aO Hs H)(t:aO H₀ H):aO (ov Hs H₀) H:=λa o e=>by
 cases q:Hs a with
 | some o'=>rw[gO q] at e;cases e;exact s _ _ q
 | none=>rw[dr q] at e;exact t _ _ e
theorem SR.rebase{B:Hp}{env:aa}(r:SR B H₀ Hs H σ env):SR Hs (ov Hs H₀) Hs H σ env where
 gr:=⟨λ_ _ e=>e,rO r.gr.sub r.gr.al,r.gr.sub,λ_ _ e _=>e⟩
 len:=r.len
 sh:=r.sh
 ow:=λi xs e=>let ⟨a,vs,h1,h2,h3,h4,h5⟩:=r.ow i xs e;⟨a,vs,h1,h2,h3,by rw[dr h3];exact h4,h5⟩
 sep:=r.sep
 bd:=λi a C fs e=>let ⟨dx,vs,h1,h2,h3,h4,h5⟩:=r.bd i a C fs e;⟨dx,vs,h1,h2,h3,by rw[dr h3];exact h4,h5⟩
 one:=r.one
theorem aT.eD{B Aa H2:Hp}(g:aT B H₀ Hs H)(g2:aT Hs (ov Hs H₀) Aa H2):aT B H₀ Aa H2 where
 st:=λa o e=>g2.st a o (g.st a o e)
 al:=λa o e=>by
  cases q:Hs a with
  | some o' =>
   have h1:=g.sub a o' q;have h2:=g.al a o e;rw[h1] at h2;cases h2;exact g2.al a _ (gO q)
  | none=>exact g2.al a o (by rw[dr q];exact e)
 sub:=g2.sub
 nw:=λa o e q=>by
  have h1:=g.nw a o e q;exact g2.nw a o h1 (by rw[dr h1];exact q)
theorem SR.eD{B H₀ Hs H Aa H2:Hp}{σ:St}{env:aa}(g:aT B H₀ Hs H)(r:SR Hs (ov Hs H₀) Aa H2 σ env):SR B H₀ Aa H2 σ env where
 gr:=g.eD r.gr
 len:=r.len
 sh:=r.sh
 ow:=λi xs e=>by
  obtain⟨a,vs,h1,h2,h3,h4,h5⟩:=r.ow i xs e;refine⟨a,vs,h1,h2,h3,?_,h5⟩;cases q:Hs a with
  | some o=>rw[gO q] at h4;cases h4
  | none=>rw[dr q] at h4;exact h4
 sep:=r.sep
 bd:=λi a C fs e=>by
  obtain⟨dx,vs,h1,h2,h3,h4,h5⟩:=r.bd i a C fs e;refine⟨dx,vs,h1,h2,h3,?_,h5⟩;cases q:Hs a with
  | some o=>rw[gO q] at h4;cases h4
  | none=>rw[dr q] at h4;exact h4
 one:=r.one
theorem XW.rebase{E:XK}{B:Hp}(g:aT B H₀ Hs H){x:EX}(h:XW E B H₀ x):XW E Hs (ov Hs H₀) x:=λea Aa H2 r q=>h ea Aa H2 (g.eD r) q
def w6(k:aa->M Out):Out->M Out
 | .nx env=>k env
 | .ct env=>k env
 | .bk env=>M.ok (.nx env)
 | .rt p=>M.ok (.rt p)
def ik(set:PV->aa->M aa)(body:aa->M Out):List PV->aa->M Out
 | [],env=>M.ok (.nx env)
 | x::xs,env=>(set x env).bind λAd=>(body Ad).bind (w6 (ik set body xs))
def pO(E:XK)(g:TG)(set:PV->aa->M aa):Prop:=∀ (B H₀ Hs H:Hp) (σ:St) (env:aa) (p:PV) (v:V) (Q:St->Hp->Prop) (Z:EX->Prop),SR B H₀ Hs H σ env->Rep Hs p v->ah (set p env) (λAd=>∀ σ',SR B H₀ Hs H σ' Ad->Q σ' H) Z->g v σ H Q
def dm(i:Nat)(p:PV)(env:aa):M aa:=M.ok (env.set i (some (.sh p)))
theorem cW{E:XK}:pO E (cB i) (dm i):=λB H₀ Hs H σ env p v Q Z sr r h=>h _ (sr.set r)
def uh(i j:Nat):PV->aa->M aa
 | .tup [p,q],env=>M.ok ((env.set i (some (.sh p))).set j (some (.sh q)))
 | _,_=>none
theorem sZ{E:XK}{K:PySem.W.Frag}:pO E (vP K 2 (kj (cB i) (kj (cB j) ux))) (uh i j):=by
 intro B H₀ Hs H σ env p v Q Z sr r h;cases r with
 | @tup a xs vs ha hx =>
  match xs,hx with
  | [p,q],hx =>
   obtain⟨v,u,rfl,rp,rq⟩:=hx.two;exact⟨a,[v,u],rfl,dg.of (sr.gr.sub _ _ ha),rfl,v,[u],rfl,u,[],rfl,rfl,h _ ((sr.set rp).set rq)⟩
  | [],_=>exact h.elim
  | [_],_=>exact h.elim
  | _::_::_::_,_=>exact h.elim
 | _=>exact h.elim
section
variable{E:XK}{g:TG}{set:PV->aa->M aa}{body:aa->M Out}{D:Ends}{B:Hp}
def Jv(E:XK)(set:PV->aa->M aa)(body:aa->M Out)(D:Ends)(B H₀ z_:Hp)(xs:List PV)(i:Nat)(σ:St)(H:Hp):Prop:=∃ Hs env,SR B H₀ Hs H σ env/\aO z_ Hs/\ah (ik set body (xs.drop i) env) (KS D B H₀) (XW E B H₀)
theorem Jv.done(j:Jv E set body D B H₀ z_ xs n σ H)(hn:xs.length<=n):D.nx σ H:=by
 obtain⟨Hs,env,sr,_,h⟩:=j;rw[Em hn] at h;exact h σ Hs H sr
theorem Jv.turn{H1 Hx:Hp}{x:PV}(tg:pO E g set)(hx:xs[i]?=some x){env:aa}(sr:SR B H₀ Hs H σ env)(s1:aO z_ Hs)(h:ah (ik set body (xs.drop i) env) (KS D B H₀) (XW E B H₀)){Aa H2:Hp}(gr:aT Hs H Aa H2)(rv:Rep Aa x v) :
  g v σ H2 fun σ2 H3=>tS E body { D with nx:=Jv E set body D B H₀ z_ xs (i+1),ct:=Jv E set body D B H₀ z_ xs (i+1),bk:=D.nx } σ2 H3:=by
 have Am:i<xs.length:=(Dj.mp hx).1;have hd:xs.drop i=x::xs.drop (i+1):=by
  rw[DB Am];rw[Co Am] at hx;rw[CG hx]
 rw[hd] at h;have Ai:=sr.grow gr;refine tg B H₀ Aa H2 σ env x v _ _ Ai rv ((ah.bind h).imp (λAd h' σ' AZ=>?_) λ_ z=>z);refine⟨Aa,ov Aa H₀,Aa,Ad,AZ.rebase,(ah.bind h').imp (λo ho=>?_) λe he=>he.rebase AZ.gr⟩;cases o with
 | nx e2=>exact fun σ3 Az H3 r=>⟨Az,e2,r.eD AZ.gr,λa o z=>r.gr.st a o (gr.st a o (s1 a o z)),ho⟩
 | ct e2=>exact fun σ3 Az H3 r=>⟨Az,e2,r.eD AZ.gr,λa o z=>r.gr.st a o (gr.st a o (s1 a o z)),ho⟩
 | bk e2=>exact fun σ3 Az H3 r=>ho σ3 Az H3 (r.eD AZ.gr)
 | rt p=>exact λv3 Az H3 r q=>ho v3 Az H3 (AZ.gr.eD r) q
end
def pW(it:aa->M (List PV))(set:PV->aa->M aa)(body:aa->M Out):aa->M Out:=λenv=>(it env).bind λxs=>ik set body xs env
def itemsOf(f:aa->M PV):aa->M (List PV):=λenv=>(f env).bind λp=>match cf p with | some xs=>M.ok xs | none=>none
theorem ji{K:PySem.W.Frag}(s:aO Hs H)(r:Rep Hs p v)(e:cf p=some xs):∃ b a vs,v=.ref a/\(∀ z8 H',aO Hs z8->aO z8 H'->kJ K H' b a vs)/\aw Hs xs vs:=by
 cases r with
 | tup h r=>cases e;exact⟨false,_,_,rfl,λz8 H' s1 s2=>dg.of (s2 _ _ (s1 _ _ h)),r⟩
 | lst h r=>cases e;exact⟨true,_,_,rfl,λz8 H' s1 s2=>dF.of (s2 _ _ (s1 _ _ h)),r⟩
 | dD h r=>cases e;exact⟨true,_,_,rfl,λz8 H' s1 s2=>.inl (.inr ⟨_,s2 _ _ (s1 _ _ h)⟩),r⟩
 | _=>cases e
section
variable{E:XK}{p:Pos}{f f2:aa->M PV}{g:TG}{set:PV->aa->M aa}{body:aa->M Out}{bd:List Stmt}
end
def y7:PV->M (List PV)
 | .int n=>bB (-(2^62)<=n/\n<2^62) (M.ok ((DN n.toNat).map λ(i:Nat)=>.int (0+(i:Int))))
 | _=>none
def oC:List PV->M (List PV)
 | [p]=>y7 p
 | _=>none
variable{Z:EX->Prop}
theorem nG{ps:List PV}{k:List PV->M α}{Q:α->Prop}(h:ah ((oC ps).bind k) Q Z):∃ n:Int,ps=[.int n]/\-(2^62)<=n/\n<2^62/\ah (k ((DN n.toNat).map λ(i:Nat)=>.int (0+(i:Int)))) Q Z:=by
 match ps with
 | []=>exact h.elim
 | _::_::_=>exact h.elim
 | [p] =>
  cases p with
  | int n =>
   obtain⟨hc,h⟩:=ah.bB (ah.bind h);exact⟨n,rfl,hc.1,hc.2,h⟩
  | _=>exact h.elim
def zip2:List PV->M (List PV)
 | [p,q]=>match cf p,cf q with
  | some xs,some ys=>M.ok (Ff (λa b=>.tup [a,b]) xs ys)
  | _,_=>none
 | _=>none
theorem nL{ps:List PV}{k:List PV->M α}{Q:α->Prop}(h:ah ((zip2 ps).bind k) Q Z):∃ p q xs ys,ps=[p,q]/\cf p=some xs/\cf q=some ys/\ah (k (Ff (λa b=>.tup [a,b]) xs ys)) Q Z:=by
 match ps with
 | []=>exact h.elim
 | [_]=>exact h.elim
 | _::_::_::_=>exact h.elim
 | [p,q] =>
  unfold zip2 at h;dsimp only at h;cases e1:cf p with
  | none=>rw[e1] at h;exact h.elim
  | some xs =>
   cases e2:cf q with
   | none=>rw[e1,e2] at h;exact h.elim
   | some ys=>rw[e1,e2] at h;exact⟨p,q,xs,ys,rfl,e1,e2,h⟩
theorem mM{f:Nat->PV}(h:i<n):((DN n).map f)[i]?=some (f i):=by
 rw[CL,List.getElem?_range h];rfl
section
variable{E:XK}{a b l l1 l2:Expr}{p tp:Pos}{fs:aa->M (List PV)}{g:TG}{set:PV->aa->M aa}{body:aa->M Out}{bd:List Stmt}
end
def KO(Q:VK):Hp->Hp->List PV->Prop:=λHs H ps=>∀ vs p z8 H',aT Hs H z8 H'->aw z8 ps vs->H' p=none->Q (.ref p) (upd H' p (.lst vs))
def tO(E:St->XK)(f:aa->M (List PV)):TE:=fun σ H Q=>tG E f (KO Q) σ H
section
variable{E:XK}{fs:aa->M (List PV)}{f:aa->M PV}
def tK(i:Nat)(f:aa->M (List PV)):aa->M Out:=λenv=>(f env).bind λps=>M.ok (.nx (env.set i (some (.ow ps))))
theorem tJ(hN:X.N.Nodup)(hi:X.N[i]?=some x)(hx:Loc X.env.scope x)(he:PE X e (tO (λ_=>E) fs))(hs:autoParam (swapsWith e (some (.Name x pos')) pos.line X.env=pure false) aR._auto_1)(hf:autoParam (X.fn x=true\/X.env.scope.names.lookup x=some .local) aF._auto_1) :
  PS X (.Assign [.Name x pos'] e pos) (tS E (tK i fs)):=by
 refine(lB hN hi hx he hs hf).imp λD σ H q=>?_;obtain⟨B,H₀,Hs,env,sr,q⟩:=q;refine⟨B,H₀,Hs,env,sr,(ah.bind q).imp (λps hp vs p z8 H' g r n=>?_) λe he=>he.grow sr.gr⟩;exact hp _ z8 _ ((sr.grow g).own r n)
def kF(fs:aa->M (List PV)):aa->M (List PV):=λenv=>(fs env).bind λps=>if ps.length<=sizeLine then M.ok ps else none
theorem wK{E:St->XK}(hr:PA X es (tL E fs)):PE X (.List es pos) (tO E (kF fs)):=by
 refine(oO hr).imp fun σ H Q q=>?_;obtain⟨B,H₀,Hs,env,sr,q⟩:=q;refine⟨B,H₀,Hs,env,sr,(ah.bind q).imp (λps hp vs z8 H' g r=>?_) λe he=>he⟩
 by_cases hz:ps.length<=sizeLine
 .rw[if_pos hz] at hp;exact⟨by rw[<- r.length];exact hz,λp n=>hp vs p z8 H' g r n⟩
 .rw[if_neg hz] at hp;exact hp.elim
def nq(i:Nat)(f:aa->M PV):aa->M Out:=λenv=>match env[i]? with
 | some (some (.ow xs))=>(f env).bind λp=>if xs.length<sizeLine then M.ok (.nx (env.set i (some (.ow (xs++[p]))))) else none
 | _=>none
theorem SR.put{B:Hp}{env:aa}{ys:List PV}{us:List V}(r:SR B H₀ Hs H σ env)(e:env[i]?=some (some (.ow xs)))(hi:σ[i]?=some (some (.ref a)))(h:aw Hs ys us):SR B H₀ Hs (upd H a (.lst us)) σ (env.set i (some (.ow ys))):=by
 obtain⟨a',vs,h1,h2,h3,h4,h5⟩:=r.ow i xs e;rw[hi] at h1;cases h1;have nS:∀ c u,Hs c=some u->c≠a:=λc u q z=>by rw[z,h3] at q;cases q
 have n0:∀ c u,H₀ c=some u->c≠a:=λc u q z=>by rw[z,h4] at q;cases q
 refine⟨⟨r.gr.st,λc u q=>by rw[ai (n0 c u q)];exact r.gr.al c u q,λc u q=>by rw[ai (nS c u q)];exact r.gr.sub c u q,r.gr.nw⟩,by rw[Dp];exact r.len,λj q ej=>?_,λj zs ej=>?_,λj k y1 y2 b nj e1 e2 e3 e4=>?_,λj ba C fs ej=>?_,λj k _ _ C D fs gs e1 e2=>?_⟩
 .rw[Cu] at ej
  by_cases z:i=j
  .subst z;rw[if_pos rfl] at ej
   split at ej <;> cases ej
  .rw[if_neg z] at ej;exact r.sh j q ej
 .rw[Cu] at ej
  by_cases z:i=j
  .subst z;rw[if_pos rfl] at ej
   split at ej
   .cases ej;exact⟨a,us,hi,au,h3,h4,h⟩
   .cases ej
  .rw[if_neg z] at ej;obtain⟨b,ws,q1,q2,q3,q4,q5⟩:=r.ow j zs ej;have nb:b≠a:=λw=>by subst w;exact r.sep i j xs zs b z e ej hi q1
   exact⟨b,ws,q1,by rw[ai nb];exact q2,q3,q4,q5⟩
 .have o1:∃ w,env[j]?=some (some (.ow w)):=by
   rw[Cu] at e1
   by_cases z:i=j
   .subst z;exact⟨xs,e⟩
   .rw[if_neg z] at e1;exact⟨_,e1⟩
  have o2:∃ w,env[k]?=some (some (.ow w)):=by
   rw[Cu] at e2
   by_cases z:i=k
   .subst z;exact⟨xs,e⟩
   .rw[if_neg z] at e2;exact⟨_,e2⟩
  obtain⟨w1,o1⟩:=o1;obtain⟨w2,o2⟩:=o2;exact r.sep j k w1 w2 b nj o1 o2 e3 e4
 .rw[Cu] at ej
  by_cases z:i=j
  .subst z;rw[if_pos rfl] at ej
   split at ej <;> cases ej
  .rw[if_neg z] at ej;obtain⟨dx,ws,q1,q2,q3,q4,q5⟩:=r.bd j ba C fs ej;have nb:ba≠a:=λw=>by subst w;rw[h2] at q2;cases q2
   exact⟨dx,ws,q1,by rw[ai nb];exact q2,q3,q4,q5⟩
 .rw[Cu] at e1 e2
  by_cases z:i=j
  .subst z;rw[if_pos rfl] at e1
   split at e1 <;> cases e1
  .by_cases z2:i=k
   .subst z2;rw[if_pos rfl] at e2
    split at e2 <;> cases e2
   .rw[if_neg z] at e1;rw[if_neg z2] at e2;exact r.one j k _ _ C D fs gs e1 e2
theorem m5{px:Pos}(hi:X.N[i]?=some x)(hv:vY X.env.scope x)(he:PE X e (tE (λ_=>E) f))(hd:autoParam ((x==("__debug__" : Str))=false) aD._auto_1)(AY:autoParam ((x==("__classdict__" : Str))=false) aD._auto_1)
  (AW:autoParam (attributeBase (.Name x px) "append" X.env (eval (.Name x px) X.env)=eval (.Name x px) X.env) aR._auto_1)
  (Bi:autoParam (((backTo Ac (starEach [e] X.env)).all (λx=>!x.1)&&(backToKw Ac (keywordEach [] X.env)).all (λx=>x.1.isSome)
   && decide (([e]:List Expr).length+([]:List Keyword).length+(if ([]:List Keyword).isEmpty then 0 else 1)<30))=true) aR._auto_1)
  (AX:autoParam ((apos.endLine==Ac.line)=true) aR._auto_1) (Af:autoParam (starEach [e] X.env=(false,eval e X.env)::starEach [] X.env) aR._auto_1) (AB:autoParam ((backTo Ac (starEach [] X.env)).any (·.1)=false) aR._auto_1)
  (hs:autoParam (swapsWith (.Call (.Attribute (.Name x px) "append" apos) [e] [] Ac) none pos.line X.env=pure false) aR._auto_1) :
  PS X (.Expr (.Call (.Attribute (.Name x px) "append" apos) [e] [] Ac) pos) (tS E (nq i f)):=by
 refine(mD (ub PySem.F.plainAttrs_list PySem.F.slot_list_append PySem.F.type_list_append fK (n5 hi hv hd AY) (aX he c8 Af) AW Bi AX Af AB) hs).imp λD σ H q=>?_;obtain⟨B,H₀,Hs,env,sr,q⟩:=q;unfold nq at q
 split at q
 .rename_i xs ex;obtain⟨a,vs,h1,h2,h3,h4,h5⟩:=sr.ow i xs ex;refine⟨.ref a,h1,.inl ⟨rfl,vs,dF.of h2⟩,B,H₀,Hs,env,sr,(ah.bind q).imp (λp hp v z8 H' g r=>?_) λe he=>he.grow sr.gr⟩
  by_cases hz:xs.length<sizeLine
  .rw[if_pos hz] at hp;have AZ:=sr.grow g;have r5:aw z8 (xs++[p]) (vs++[v]):=(h5.mono g.st).snoc r;exact⟨a,vs,v,rfl,rfl,g.al _ _ h2,by rw[<- h5.length];exact hz,hp σ z8 _ (AZ.put ex h1 r5)⟩
  .rw[if_neg hz] at hp;exact hp.elim
 .exact q.elim
end
def uu:Out->M PV
 | .rt p=>M.ok p
 | .nx _=>M.ok .bL
 | _=>none
def a_(m:Nat)(ps:List PV):aa:=ps.map (λp=>some (.sh p))++Cw (m-ps.length) none
def bo(m:Nat)(g:aa->M Out)(ps:List PV):M PV:=(g (a_ m ps)).bind uu
theorem SR.start{Hs H:Hp}{N:List Str}{ps:List PV}{vs:List V}(s:aO Hs H)(r:aw Hs ps vs):SR Hs H Hs H (start N vs) (a_ N.length ps) where
 gr:=.refl s
 len:=by unfold L2.start a_;simp[r.length]
 sh:=λi p e=>by
  unfold a_ at e;unfold L2.start
  by_cases hi:i<ps.length
  .rw[CP (by simpa using hi),CL,Co hi] at e;cases e;obtain⟨v,h1,h2⟩:=r.get (Co hi);exact⟨v,by rw[CP (by simpa using (r.length▸hi)),CL,h1];rfl,h2⟩
  .rw[CF (by simpa using hi),C3] at e
   split at e <;> cases e
 ow:=λi xs e=>by
  unfold a_ at e
  by_cases hi:i<ps.length
  .rw[CP (by simpa using hi),CL,Co hi] at e;cases e
  .rw[CF (by simpa using hi),C3] at e
   split at e <;> cases e
 sep:=λi j xs ys a _ e=>by
  unfold a_ at e
  by_cases hi:i<ps.length
  .rw[CP (by simpa using hi),CL,Co hi] at e;cases e
  .rw[CF (by simpa using hi),C3] at e
   split at e <;> cases e
 bd:=λi a C fs e=>by
  unfold a_ at e
  by_cases hi:i<ps.length
  .rw[CP (by simpa using hi),CL,Co hi] at e;cases e
  .rw[CF (by simpa using hi),C3] at e
   split at e <;> cases e
 one:=λi j a b C D fs gs e=>by
  unfold a_ at e
  by_cases hi:i<ps.length
  .rw[CP (by simpa using hi),CL,Co hi] at e;cases e
  .rw[CF (by simpa using hi),C3] at e
   split at e <;> cases e
theorem v5{K:PySem.W.Frag}{qual:Str}{dV kV doc pm Al ct oc:Value}{an od:Option Addr}{g:aa->M Out}(lk:K.lookup f=some ⟨oc,od,.func (PySem.W.fnOf name qual params body scope dV kV doc pm an Al ct),BJ⟩)(AY:PySem.W.codeIn K Al qual=true)(S:cX N ps scope)
  (hb:∀ (A:Around) (outer:List Env) (s:Shared) (H:Hp) (E:XK),bW k (A.deeper (envOfC qual scope s.heap.objs.size f Al))->gk ((iA (dz P w) P w K mg base N qual scope f Al A outer s H E).out λ_=>E) body (tS E g)) :
  bK P w K mg base (dz P w) (k+1) f (PySem.W.fnOf name qual params body scope dV kV doc pm an Al ct) ps (gp ps.length (bo N.length g)):=by
 refine va lk AY S (λvs H Q E h=>h.1) λA outer s H vs Q E hr hs=>⟨_,hb A outer s H E hr,?_⟩
 obtain⟨_,Hs,BK,sm,r,h⟩:=hs;refine⟨Hs,H,Hs,_,SR.start sm r,(ah.bind h).imp (λo ho=>?_) λe he=>he⟩;cases o with
 | rt p=>exact λv z8 H' gr rv=>ho v z8 H' gr rv
 | nx env=>exact fun σ z8 H' sr=>ho .bL z8 H' sr.gr .bL
 | bk env=>exact ho.elim
 | ct env=>exact ho.elim
section
variable{E:XK}{p:Pos}{fs:aa->M (List PV)}
def eE(C:Addr)(fs:aa->M (List PV)):aa->M Out:=λenv=>(fs env).bind λps=>bB (ps.length<=sizeLine) (some (.error (C,none)))
theorem mW(O:ez X λ_=>E)(z9:X.calm=true)(hc:PySem.W.excIn X.K C iz "ValueError.__new__" = true)(c:fE X.K C)(ht:PySem.W.typeIn X.K (.ref C)=some (.type "type"))(kp:PySem.W.keepIn X.K (.ref C)=true)(hg:Gl X x)(hm:X.mg x=some (.ref C))(ha:PA X (e::es) (tL (λ_=>E) fs))
  (AR:autoParam ((x==("__debug__" : Str))=false) aD._auto_1) (he:autoParam (starEach (e::es) X.env=(false,eval e X.env)::starEach es X.env) aR._auto_1) (Aq:autoParam ((backTo Ac (starEach es X.env)).any (·.1)=false) aR._auto_1) :
  PS X (.Raise (some (.Call (.Name x p) (e::es) [] Ac)) none pos) (tS E (eE C fs)):=by
 refine(n8 O z9 (qY hc kp hg hm ha AR he Aq)).imp λD σ H q=>qf q λB H₀ Hs H1 env BK v sr rp hp=>?_;obtain⟨hz,hp⟩:=ah.bB hp;refine⟨by rw[<- rp.length];exact hz,λa n=>⟨a,C,none,rfl,au,c,ht,?_⟩⟩;rw[rF];exact hp a (upd Hs a (cF C none a)) _ (sr.gr.trans (aT.new sr.gr.sub n)) (.kU au)
end
structure gR (J:It) (z_:Hp) (xs:List PV):Prop where
 stop:∀ (i:Nat) (Hs H:Hp),aO z_ Hs->aO Hs H->xs.length<=i->J.stop i H
 go:∀ (i:Nat) (Hs H:Hp),aO z_ Hs->aO Hs H->i<xs.length->J.go i H
 lK:∀ (i:Nat) (Hs H:Hp) (x:V) (H2:Hp),aO z_ Hs->aO Hs H->i<xs.length->J.lK i H x H2->∃ p Aa,xs[i]?=some p/\aT Hs H Aa H2/\Rep Aa p x
def KI(R:It->Hp->Prop):Hp->Hp->List PV->Prop:=λHs H xs=>∀ J z8 H',aT Hs H z8 H'->gR J z8 xs->R J H'
def nP(E:St->XK)(wi:TI)(it:aa->M (List PV)):Prop:=∀ (σ:St) (H:Hp) (R:It->Hp->Prop),tG E it (KI R) σ H->wi σ H R
theorem KI.g{R:It->Hp->Prop}:KG (KI R):=λHs H z8 H' b k g J Aa H2 g2 o=>k J Aa H2 (g.trans g2) o
section
variable{K:PySem.W.Frag}{f:aa->M PV}{fs:aa->M (List PV)}
theorem qF(hq:∀ z8 H',aO z_ z8->aO z8 H'->kJ K H' b a vs)(hr:aw z_ xs vs):gR (yH K b a) z_ xs where
 stop:=λi Hs H s1 s2 hi=>by
  have q:=hq Hs H s1 s2;cases b with
  | true=>exact⟨vs,q,by rw[<- hr.length];exact hi⟩
  | false=>exact⟨vs,q,by rw[<- hr.length];exact hi⟩
 go:=λi Hs H s1 s2 hi=>by
  have q:=hq Hs H s1 s2;obtain⟨v,e,_⟩:=hr.get (Co hi);cases b with
  | true=>exact⟨vs,v,q,e⟩
  | false=>exact⟨vs,v,q,e⟩
 lK:=λi Hs H x H2 s1 s2 hi y=>by
  have q:=hq Hs H s1 s2;obtain⟨v,e,r⟩:=hr.get (Co hi);have z:H2=H/\vs[i]?=some x:=by
   cases b with
   | true=>exact⟨y.1,y.2 vs q⟩
   | false=>exact⟨y.1,y.2 vs q⟩
  obtain⟨rfl,z⟩:=z;rw[e] at z;cases z;exact⟨xs[i],Hs,Co hi,.refl s2,r.mono s1⟩
theorem eX:nP E (xi K (tE E f)) (itemsOf f):=by
 intro σ H R q;refine aQ (K:=KI R) KI.g q λB H₀ Hs H1 env p v sr rp hp=>?_;cases e:cf p with
 | none=>rw[e] at hp;exact hp.elim
 | some xs =>
  rw[e] at hp;obtain⟨b,a,vs,rfl,hq,hr⟩:=ji (K:=K) sr.gr.sub rp e;exact⟨b,a,rfl,⟨vs,hq Hs H1 (λ_ _ z=>z) sr.gr.sub⟩,hp (yH K b a) Hs H1 (.refl sr.gr.sub) (qF hq hr)⟩
def xr(o:List PV->M (List PV))(fs:aa->M (List PV)):aa->M (List PV):=λenv=>(fs env).bind o
theorem pf{lo:Int}:gR (yn lo n) z_ ((DN n).map λ(i:Nat)=>PV.int (lo+(i:Int))) where
 stop:=λi Hs H s1 s2 hi=>show n<=i by simpa using hi
 go:=λi Hs H s1 s2 hi=>show i<n by simpa using hi
 lK:=λi Hs H x H2 s1 s2 hi y=>by
  obtain⟨rfl,rfl⟩:=y;exact⟨_,Hs,mM (by simpa using hi),.refl s2,.int _⟩
theorem aL(x:M α):x.bind M.ok=x:=by
 cases x with
 | none=>rfl
 | some x=>cases x <;> rfl
theorem qq:nP E (ud (tL E fs)) (xr oC fs):=by
 intro σ H R q;refine dc (K:=KI R) KI.g q λB H₀ Hs H1 env ps v sr rp hp=>?_;rw[<- aL (oC ps)] at hp;obtain⟨n,rfl,h1,h2,hp⟩:=nG hp;obtain⟨w,rfl,Bw⟩:=rp.one;cases Bw;exact⟨n,rfl,h1,h2,hp _ Hs H1 (.refl sr.gr.sub) pf⟩
theorem o_{ys:List PV}(h1:i<xs.length)(h2:i<ys.length):(Ff (λa b=>PV.tup [a,b]) xs ys)[i]?=some (.tup [xs[i],ys[i]]):=by
 rw[List.getElem?_zipWith,Co h1,Co h2]
theorem pA{b1 b2:Bool}{a1 a2:Addr}{ys:List PV}{us:List V}(AH:∀ z8 H',aO z_ z8->aO z8 H'->kJ K H' b1 a1 vs)(B7:aw z_ xs vs)(AI:∀ z8 H',aO z_ z8->aO z8 H'->kJ K H' b2 a2 us)(B8:aw z_ ys us) :
  gR (y6 K b1 b2 a1 a2) z_ (Ff (λa b=>PV.tup [a,b]) xs ys) where
 stop:=λi Hs H s1 s2 hi=>by
  rw[EI,B7.length,B8.length] at hi;exact⟨vs,us,AH Hs H s1 s2,AI Hs H s1 s2,by lia⟩
 go:=λi Hs H s1 s2 hi=>by
  rw[EI] at hi;obtain⟨v,e,_⟩:=B7.get (Co (show i<xs.length by lia));obtain⟨u,e',_⟩:=B8.get (Co (show i<ys.length by lia));exact⟨vs,us,v,u,AH Hs H s1 s2,AI Hs H s1 s2,e,e'⟩
 lK:=λi Hs H x H2 s1 s2 hi y=>by
  rw[EI] at hi;have l1:i<xs.length:=by lia
  have l2:i<ys.length:=by lia
  obtain⟨v,e,r⟩:=B7.get (Co l1);obtain⟨u,e',r'⟩:=B8.get (Co l2);obtain⟨pa,v',u',hn,rfl,rfl,y1,y2⟩:=y;have z1:=y1 vs (AH Hs H s1 s2);have z2:=y2 us (AI Hs H s1 s2);rw[e] at z1;cases z1;rw[e'] at z2;cases z2;have gr:=aT.new (o:=.tup [v,u]) s2 hn;exact⟨_,_,o_ l1 l2,gr,.tup au (.cons ((r.mono s1).mono gr.st) (.cons ((r'.mono s1).mono gr.st) .nil))⟩
theorem qI:nP E (xT K (tL E fs)) (xr zip2 fs):=by
 intro σ H R q;refine dc (K:=KI R) KI.g q λB H₀ Hs H1 env ps v sr rp hp=>?_;rw[<- aL (zip2 ps)] at hp;obtain⟨p,q,xs,ys,rfl,e1,e2,hp⟩:=nL hp;obtain⟨w,u,rfl,Bw,ru⟩:=rp.two;obtain⟨b1,a1,vs,rfl,AH,B7⟩:=ji (K:=K) sr.gr.sub Bw e1;obtain⟨b2,a2,us,rfl,AI,B8⟩:=ji (K:=K) sr.gr.sub ru e2;exact⟨b1,b2,a1,a2,rfl,⟨vs,AH Hs H1 (λ_ _ z=>z) sr.gr.sub⟩,⟨us,AI Hs H1 (λ_ _ z=>z) sr.gr.sub⟩,hp _ Hs H1 (.refl sr.gr.sub) (pA AH B7 AI B8)⟩
end
theorem jI{E:XK}{g:TG}{set:PV->aa->M aa}{body:aa->M Out}{bd:List Stmt}{wi:TI}{it:aa->M (List PV)}(O:ez X λ_=>E)(hc:X.calm=true)(hi:PI X tg iter wi)(hv:nP (λ_=>E) wi it)(hg:PG X tg g)(A4:pO E g set)(hb:gk X bd (tS E body))(hs:autoParam (∀ x,foldedSetIterable iter X.env x=pure x) aI._auto_1) :
  PS X (.For tg iter bd [] pos) (tS E (pW it set body)):=by
 refine(vW O.own hc hi hg hb hs).imp λD σ H q=>hv σ H _ ?_;obtain⟨B,H₀,Hs,env,sr,q⟩:=q;refine⟨B,H₀,Hs,env,sr,(ah.bind q).imp (λxs hp J z8 H' gr ok=>?_) λe he=>he.grow sr.gr⟩;have AZ:=sr.grow gr;refine⟨λi m σ H=>m=xs.length-i/\i<=xs.length/\Jv E set body D B H₀ z8 xs i σ H,⟨xs.length,by simp,DF _,z8,env,AZ,λ_ _ z=>z,hp⟩,?_⟩;rintro i m σ' H2 ⟨rfl,hi,Aa,env2,Ai,s2,h2⟩
 by_cases Am:i<xs.length
 .refine .inr ⟨ok.go i Aa H2 s2 Ai.gr.sub Am,Jv E set body D B H₀ z8 xs (i+1),fun σ3 H3 j=>⟨xs.length-(i+1),by lia,rfl,Am,j⟩,λx H3 y=>?_⟩;obtain⟨p,Az,ep,g3,r3⟩:=ok.lK i Aa H2 x H3 s2 Ai.gr.sub Am y;exact Jv.turn (Hx:=H2) (H1:=H2) A4 ep Ai s2 h2 g3 r3
 .have e:i=xs.length:=by lia
  refine .inl ⟨ok.stop i Aa H2 s2 Ai.gr.sub (by lia),?_⟩;exact Jv.done (E:=E) (set:=set) (body:=body) (xs:=xs) (B:=B) (H₀:=H₀) (z_:=z8) (n:=i) ⟨Aa,env2,Ai,s2,h2⟩ (by lia)
abbrev EF:St->XK:=λ_ _ _ _=>False
def ff(env:aa):Prop:=∀ (i:Nat) (x:SV),env[i]?=some (some x)->∃ p,x=.sh p
theorem ff.ow{env:aa}(n:ff env){i:Nat}{xs:List PV}(e:env[i]?=some (some (.ow xs))):False:=by obtain⟨p,z⟩:=n i _ e;cases z
theorem ff.bd{env:aa}(n:ff env){i:Nat}{a C:Addr}{fs:List (Str×PV)}(e:env[i]?=some (some (.bd a C fs))):False:=by obtain⟨p,z⟩:=n i _ e;cases z
def qH:M α->M α
 | some (.ok a)=>some (.ok a)
 | _=>none
theorem ah.qH{α:Type}{x:M α}{Q:α->Prop}{E:EX->Prop}(h:ah (L2.qH x) Q E):ah x Q (λ_=>False):=by
 cases x with
 | none=>exact h
 | some x=>cases x with
  | ok a=>exact h
  | error e=>exact h
def dJ(n:Nat)(js:List Nat)(env:aa):aa:=Cw n none++js.map λj=>match env[j]? with
 | some (some (.sh p))=>some (.sh p)
 | _=>none
theorem jb{env:aa}{x:SV}(h:(dJ n js env)[i]?=some (some x)):∃ j p,n<=i/\js[i-n]?=some j/\env[j]?=some (some (.sh p))/\x=.sh p:=by
 unfold dJ at h
 by_cases hi:i<n
 .rw[CP (by simpa using hi),C3] at h
  split at h <;> cases h
 .rw[CF (by simpa using hi),CL,Ft] at h;cases hj:js[i-n]? with
  | none=>rw[hj] at h;cases h
  | some j =>
   rw[hj] at h;have h':(match env[j]? with | some (some (.sh p))=>some (SV.sh p) | _=>none)=some x:=CG h
   split at h'
   .rename_i p e;cases h';exact⟨j,p,by lia,rfl,e,rfl⟩
   .cases h'
theorem bQ{env:aa}:ff (dJ n js env):=λi xs e=>by
 obtain⟨_,p,_,_,_,z⟩:=jb e;exact⟨p,z⟩
variable{D:Addr}
theorem SR.block{B:Hp}{env:aa}(r:SR B H₀ Hs H σ env)(hD:H D=none):SR Hs H Hs (upd H D (.lst [])) (bh ts js σ) (dJ ts.length js env) where
 gr:=by
  have ne:∀ c u,H c=some u->c≠D:=λc u q z=>by rw[z,hD] at q;cases q
  exact⟨λ_ _ e=>e,λc u e=>by rw[ai (ne c u e)];exact e,λc u e=>by rw[ai (ne c u (r.gr.sub c u e))];exact r.gr.sub c u e,λ_ _ e _=>e⟩
 len:=by unfold bh dJ;simp
 sh:=λi p e=>by
  obtain⟨j,q,hn,hj,he,z⟩:=jb e;cases z;obtain⟨v,h1,h2⟩:=r.sh j p he;refine⟨v,?_,h2⟩;unfold bh;rw[CF (by simpa using hn),CL,Cv,hj];show some (σ[j]?).join=_;rw[h1];rfl
 ow:=λi xs e=>(bQ.ow e).elim
 sep:=λi j xs ys a _ e=>(bQ.ow e).elim
 bd:=λi a C fs e=>(bQ.bd e).elim
 one:=λi j a b C D fs gs e=>(bQ.bd e).elim
theorem SR.oP{B:Hp}{env:aa}(r:SR B H₀ Hs H σ env)(n:ff env)(h1:Hs D=none)(h2:H₀ D=none):SR B H₀ Hs (upd H D o) σ env where
 gr:=⟨r.gr.st,λc u q=>by rw[ai (λz=>by rw[z,h2] at q;cases q)];exact r.gr.al c u q,λc u q=>by rw[ai (λz=>by rw[z,h1] at q;cases q)];exact r.gr.sub c u q,r.gr.nw⟩
 len:=r.len
 sh:=r.sh
 ow:=λi xs e=>(n.ow e).elim
 sep:=λi j xs ys a _ e=>(n.ow e).elim
 bd:=λi a C fs e=>(n.bd e).elim
 one:=λi j a b C D fs gs e=>(n.bd e).elim
def bO(set:PV->aa->M aa)(t:Option (aa->M Bool))(f:aa->M PV):List PV->aa->M (List PV)
 | [],_=>M.ok []
 | x::xs,env=>(set x env).bind λe=>match t with
  | none=>(f e).bind λy=>(bO set t f xs e).bind λys=>M.ok (y::ys)
  | some t'=>(t' e).bind λb=>if b=true then (f e).bind λy=>(bO set t f xs e).bind λys=>M.ok (y::ys) else bO set t f xs e
def dU(it:aa->M (List PV))(set:PV->aa->M aa)(t:Option (aa->M Bool))(f:aa->M PV)(n:Nat)(js:List Nat):aa->M (List PV):=λenv=>(it env).bind λxs=>bB (xs.length<=sizeLine) (qH (bO set t f xs (dJ n js env)))
def gd(set:PV->aa->M aa):Prop:=∀ p env e,set p env=some (.ok e)->ff env->ff e
theorem q0{env:aa}(n:ff env):ff (env.set i (some (.sh p))):=λj xs e=>by
 rw[Cu] at e
 by_cases z:i=j
 .rw[if_pos z] at e
  split at e
  .cases e;exact⟨p,rfl⟩
  .cases e
 .rw[if_neg z] at e;exact n j xs e
theorem cb:gd (dm i):=λp env e h n=>by
 cases h;exact q0 n
section
variable{set:PV->aa->M aa}{t:Option (aa->M Bool)}{f:aa->M PV}{Q:VK}{H1:Hp}
def Jc(set:PV->aa->M aa)(t:Option (aa->M Bool))(f:aa->M PV)(Q:VK)(z_ H1:Hp)(D:Addr)(xs:List PV)(i:Nat)(σ:St)(H:Hp):Prop:=∃ Hs env ys vs,SR z_ H1 Hs H σ env/\ff env/\H D=some (.lst vs)/\Hs D=none/\aw Hs ys vs/\ys.length<=i ∧
 ah (bO set t f (xs.drop i) env) (λzs=>KO Q z_ H1 (ys++zs)) (λ_=>False)
def rem(H:Hp)(D:Addr):Hp:=λa=>if a=D then none else H a
theorem ku:rem H D D=none:=by unfold rem;rw[if_pos rfl]
theorem h8(n:a≠D):rem H D a=H a:=by unfold rem;rw[if_neg n]
theorem mq(h:H D=some o):upd (rem H D) D o=H:=by
 funext a
 by_cases z:a=D
 .subst z;rw[au,h]
 .rw[ai z,h8 z]
theorem Jc.done(hD:H1 D=none)(j:Jc set t f Q z_ H1 D xs i σ H)(hi:xs.length<=i):Q (.ref D) H:=by
 obtain⟨Hs,env,ys,vs,sr,n,h1,h2,r,_,h⟩:=j;rw[Em hi] at h;have h':KO Q z_ H1 (ys++[]):=h;rw[C1] at h';have gr:aT z_ H1 Hs (rem H D):=by
  refine⟨sr.gr.st,λc u q=>?_,λc u q=>?_,sr.gr.nw⟩
  .rw[h8 (λz=>by rw[z,hD] at q;cases q)];exact sr.gr.al c u q
  .rw[h8 (λz=>by rw[z,h2] at q;cases q)];exact sr.gr.sub c u q
 have:=h' vs D Hs (rem H D) gr r ku;rw[mq h1] at this;exact this
theorem Jc.put{env:aa}{ys:List PV}{y:PV}(hD:H1 D=none)(sr:SR z_ H1 Hs H σ env)(n:ff env)(h1:H D=some (.lst vs))(h2:Hs D=none)(r:aw Hs ys vs)(hy:ys.length<=i)(hi:i<sizeLine)(rv:Rep Hs y v)
  (h:ah ((bO set t f (xs.drop (i+1)) env).bind λzs=>M.ok (y::zs)) (λzs=>KO Q z_ H1 (ys++zs)) (λ_=>False)) :
  ∃ us,H D=some (.lst us)/\us.length<sizeLine/\Jc set t f Q z_ H1 D xs (i+1) σ (upd H D (.lst (us++[v]))):=by
 refine⟨vs,h1,by rw[<- r.length];lia,Hs,env,ys++[y],vs++[v],sr.oP n h2 hD,n,au,h2,r.snoc rv,by rw[CU];show ys.length+1<=i+1;lia,(ah.bind h).imp (λzs hz=>?_) λ_ z=>z⟩;have Bv:KO Q z_ H1 (ys++(y::zs)):=hz;rw[Ek];exact Bv
end
section
variable{cl:List (Str×Addr)}{wi:TI}{it:aa->M (List PV)}{g:TG}{set:PV->aa->M aa}{f:aa->M PV}{u:aa->M Bool}{fs:List Str}
theorem xR{s₀:Shared}{ex:List Addr}:ez (gm X scope cl N C s₀ H₀ ex z0) EF where
 pass:=λ_ _ _ _ _ _ _ h=>by
  obtain⟨_,_,_,_,_,_,_,_,_,_,_,_,_,z⟩:=h;exact z.elim
 new:=λ_ _ _ _ _ _ _ _ _ z=>z.elim
 own:=PassesOwn.never
theorem kn{Q:VK}(hv:nP E wi it)(A4:∀ E,pO E g set)(so:gd set)(q:tO E (dU it set none f ts.length js) σ H Q):jZ wi g (tE EF f) ts js σ H Q:=by
 refine hv σ H _ ?_;obtain⟨B,H₀,Hs,env,sr,q⟩:=q;refine⟨B,H₀,Hs,env,sr,(ah.bind q).imp (λxs hp J z_ H1 gr ok D hD=>?_) λe he=>he⟩;obtain⟨hz,hp⟩:=ah.bB hp;have hp:=ah.qH hp;have Cj:=sr.grow gr;refine⟨λi m σ H=>m=xs.length-i/\i<=xs.length/\Jc set none f Q z_ H1 D xs i σ H,⟨xs.length,by simp,DF _,z_,_,[],[],Cj.block hD,bQ,au,?_,.nil,Cs _,hp.imp (λzs hz vs p Aa H2 g2 r n=>hz vs p Aa H2 (gr.trans g2) r n) λ_ z=>z⟩,?_⟩
 .cases z:z_ D with
  | none=>rfl
  | some o=>have:=gr.sub _ _ z;rw[hD] at this;cases this
 rintro i m σ' H2 ⟨rfl,hi,Aa,env2,ys,vs,Ai,n2,d1,d2,r2,l2,h2⟩
 by_cases Am:i<xs.length
 .refine .inr ⟨ok.go i Aa H2 Ai.gr.st Ai.gr.sub Am,Jc set none f Q z_ H1 D xs (i+1),fun σ3 H3 j=>⟨xs.length-(i+1),by lia,rfl,Am,j⟩,λx H3 y=>?_⟩;obtain⟨p,Az,ep,g3,r3⟩:=ok.lK i Aa H2 x H3 Ai.gr.st Ai.gr.sub Am y;have hd:xs.drop i=p::xs.drop (i+1):=by
   rw[DB Am];rw[Co Am] at ep;rw[CG ep]
  rw[hd] at h2;have h3:=ah.bind h2;have AS:=Ai.grow g3;refine A4 (λ_ _ _=>False) z_ H1 Az H3 σ' env2 p x _ (λ_=>False) AS r3 ?_;cases hset:set p env2 with
  | none=>rw[hset] at h3;exact h3
  | some z=>cases z with
   | error e=>rw[hset] at h3;exact h3
   | ok e3 =>
    rw[hset] at h3;intro σ4 sr4;have n4:=so p env2 e3 hset n2;refine⟨z_,H1,Az,e3,sr4,(ah.bind h3).imp (λy hy v BL H5 g5 r5=>?_) λ_ z=>z.elim⟩;exact Jc.put (set:=set) (t:=none) (f:=f) hD (sr4.grow g5) n4 (g5.al _ _ (g3.al _ _ d1)) (g5.nw _ _ (g3.nw _ _ d2 d1) (g3.al _ _ d1)) ((r2.mono g3.st).mono g5.st) l2 (by lia) r5 hy
 .refine .inl ⟨ok.stop i Aa H2 Ai.gr.st Ai.gr.sub (by lia),?_⟩;exact Jc.done (set:=set) (t:=none) (f:=f) (xs:=xs) (z_:=z_) (H1:=H1) (i:=i) hD ⟨Aa,env2,ys,vs,Ai,n2,d1,d2,r2,l2,h2⟩ (by lia)
theorem nY{Q:VK}(hv:nP E wi it)(A4:∀ E,pO E g set)(so:gd set)(q:tO E (dU it set (some u) f ts.length js) σ H Q):pk wi g (tT EF u) (tE EF f) ts js σ H Q:=by
 refine hv σ H _ ?_;obtain⟨B,H₀,Hs,env,sr,q⟩:=q;refine⟨B,H₀,Hs,env,sr,(ah.bind q).imp (λxs hp J z_ H1 gr ok D hD=>?_) λe he=>he⟩;obtain⟨hz,hp⟩:=ah.bB hp;have hp:=ah.qH hp;have Cj:=sr.grow gr;refine⟨λi m σ H=>m=xs.length-i/\i<=xs.length/\Jc set (some u) f Q z_ H1 D xs i σ H,⟨xs.length,by simp,DF _,z_,_,[],[],Cj.block hD,bQ,au,?_,.nil,Cs _,hp.imp (λzs hz vs p Aa H2 g2 r n=>hz vs p Aa H2 (gr.trans g2) r n) λ_ z=>z⟩,?_⟩
 .cases z:z_ D with
  | none=>rfl
  | some o=>have:=gr.sub _ _ z;rw[hD] at this;cases this
 rintro i m σ' H2 ⟨rfl,hi,Aa,env2,ys,vs,Ai,n2,d1,d2,r2,l2,h2⟩
 by_cases Am:i<xs.length
 .refine .inr ⟨ok.go i Aa H2 Ai.gr.st Ai.gr.sub Am,Jc set (some u) f Q z_ H1 D xs (i+1),fun σ3 H3 j=>⟨xs.length-(i+1),by lia,rfl,Am,j⟩,λx H3 y=>?_⟩;obtain⟨p,Az,ep,g3,r3⟩:=ok.lK i Aa H2 x H3 Ai.gr.st Ai.gr.sub Am y;have hd:xs.drop i=p::xs.drop (i+1):=by
   rw[DB Am];rw[Co Am] at ep;rw[CG ep]
  rw[hd] at h2;have h3:=ah.bind h2;have AS:=Ai.grow g3;refine A4 (λ_ _ _=>False) z_ H1 Az H3 σ' env2 p x _ (λ_=>False) AS r3 ?_;cases hset:set p env2 with
  | none=>rw[hset] at h3;exact h3
  | some z=>cases z with
   | error e=>rw[hset] at h3;exact h3
   | ok e3 =>
    rw[hset] at h3;intro σ4 sr4;have n4:=so p env2 e3 hset n2;refine⟨z_,H1,Az,e3,sr4,(ah.bind h3).imp (λb hb BL H5 g5=>?_) λ_ z=>z.elim⟩;have d5:=g5.al _ _ (g3.al _ _ d1);have e5:=g5.nw _ _ (g3.nw _ _ d2 d1) (g3.al _ _ d1);cases b with
    | true =>
     refine⟨z_,H1,BL,e3,sr4.grow g5,(ah.bind hb).imp (λy hy v Hs6 H6 g6 r6=>?_) λ_ z=>z.elim⟩;exact Jc.put (set:=set) (t:=some u) (f:=f) hD ((sr4.grow g5).grow g6) n4 (g6.al _ _ d5) (g6.nw _ _ e5 d5) (((r2.mono g3.st).mono g5.st).mono g6.st) l2 (by lia) r6 hy
    | false=>exact⟨BL,e3,ys,vs,sr4.grow g5,n4,d5,e5,(r2.mono g3.st).mono g5.st,by lia,hb⟩
 .refine .inl ⟨ok.stop i Aa H2 Ai.gr.st Ai.gr.sub (by lia),?_⟩;exact Jc.done (set:=set) (t:=some u) (f:=f) (xs:=xs) (z_:=z_) (H1:=H1) (i:=i) hD ⟨Aa,env2,ys,vs,Ai,n2,d1,d2,r2,l2,h2⟩ (by lia)
theorem j6(z9:X.calm=true)
  (Ab:closureFor scope X.env=pure cl) (hk:scope.kind=.function) (nc:b_ scope.names=true) (lo:cw scope.names=true) (fh:cv cl scope.names=true) (ag:bJ X cl) (fr:cA X scope cl fs js)
  (hi:PI X tg iter wi) (hv:nP E wi it) (hg:∀ C s₀ H₀ ex z0,PG (gm X scope cl (ts++fs) C s₀ H₀ ex z0) tg g) (A4:∀ E,pO E g set) (so:gd set) (he:∀ C s₀ H₀ ex z0,PE (gm X scope cl (ts++fs) C s₀ H₀ ex z0) elt (tE EF f))
  (hs:autoParam (∀ x,foldedSetIterable iter X.env x=pure x) aI._auto_1):PE X (.ListComp elt [⟨tg,iter,[],0⟩] scope pos) (tO E (dU it set none f ts.length js)):=by
 exact(n6 z9 Ab hk nc lo fh ag fr hi hg he hs).imp fun σ H Q q=>kn hv A4 so q
theorem pI(z9:X.calm=true)
  (Ab:closureFor scope X.env=pure cl) (hk:scope.kind=.function) (nc:b_ scope.names=true) (lo:cw scope.names=true) (fh:cv cl scope.names=true) (ag:bJ X cl) (fr:cA X scope cl fs js)
  (hi:PI X tg iter wi) (hv:nP E wi it) (hg:∀ C s₀ H₀ ex z0,PG (gm X scope cl (ts++fs) C s₀ H₀ ex z0) tg g) (A4:∀ E,pO E g set) (so:gd set) (ht:∀ C s₀ H₀ ex z0,PT (gm X scope cl (ts++fs) C s₀ H₀ ex z0) c (tT EF u)) (he:∀ C s₀ H₀ ex z0,PE (gm X scope cl (ts++fs) C s₀ H₀ ex z0) elt (tE EF f))
  (hs:autoParam (∀ x,foldedSetIterable iter X.env x=pure x) aI._auto_1):PE X (.ListComp elt [⟨tg,iter,[c],0⟩] scope pos) (tO E (dU it set (some u) f ts.length js)):=by
 exact(oh z9 Ab hk nc lo fh ag fr hi hg ht he hs).imp fun σ H Q q=>nY hv A4 so q
def fq(fo:aa->M (List PV)):aa->M PV:=λenv=>(fo env).bind λps=>M.ok (.lst ps)
theorem jM{fo:aa->M (List PV)}(he:PE X e (tO E fo)):PE X e (tE E (fq fo)):=he.imp fun σ H Q q=>by
 obtain⟨B,H₀,Hs,env,sr,q⟩:=q;refine⟨B,H₀,Hs,env,sr,(ah.bind q).imp (λps hp vs p z8 H' g r n=>?_) λe he=>he⟩;have gn:=aT.new (o:=.lst vs) g.sub n;exact hp _ _ _ (g.trans gn) (.lst au (r.mono gn.st))
end
section
variable{E:XK}{px:Pos}{f:aa->M PV}{fl:Str}
end
section
variable{ns:List Str}{sem:Addr->List PV->M (List (Str×PV))}{p:Pos}{fs:aa->M (List PV)}
end
section
variable{a b:Expr}{f g h:aa->M PV}
theorem gq{m:Nat}(h:n.log2<m):n<2^m:=by
 by_cases z:n=0
 .subst z;exact Nat.two_pow_pos m
 .exact(FA z).mp h
theorem aw.rep{H:Hp}{xs:List PV}{vs:List V}(r:aw H xs vs):∀ k:Nat,aw H (Cw k xs).flatten (Cw k vs).flatten
 | 0=>.nil
 | k+1=>by rw[C7,C7,Dm,Dm];exact r.append (r.rep k)
def eK:PV->PV->M PV
 | .int i,.int j=>bB (i.natAbs.log2<67108864/\j.natAbs.log2<67108864) (M.ok (.int (i*j)))
 | .tup xs,.int k=>bB (xs.isEmpty=false/\-(2^63)<=k/\k<2^63/\xs.length*k.toNat<=sizeLine) (M.ok (.tup (Cw k.toNat xs).flatten))
 | .lst xs,.int k=>bB (-(2^63)<=k/\k<2^63/\xs.length*k.toNat<=sizeLine) (M.ok (.lst (Cw k.toNat xs).flatten))
 | _,_=>none
def t6(K:PySem.W.Frag):R2:=λx y H Q=>(rI (λi j=>IntMulOk i j) λi j=>.int (i*j)) x y H Q\/tN K x y H Q\/xB x y H Q
theorem rz:cR X (binaryOp .Mult) (t6 X.K):=cR.or rK (cR.or rG uB)
theorem v8{K:PySem.W.Frag}:eQ E (t6 K) eK:=by
 intro σ Hs H p q v u Q s rp rq h;cases rp with
 | int i=>cases rq with
  | int j =>
   obtain⟨hz,h⟩:=ah.bB h;exact .inl ⟨i,j,rfl,rfl,oo (gq hz.1) (gq hz.2) (Cs _),bb.flat h s (.int _)⟩
  | _=>exact h.elim
 | @tup a xs vs ha hx=>cases rq with
  | int k =>
   obtain⟨⟨h0,h1,h2,h3⟩,h⟩:=ah.bB h;have n1:vs≠[]:=λz=>by
    have:=hx.length;rw[z] at this;cases xs with
    | nil=>cases h0
    | cons _ _=>cases this
   refine .inr (.inl ⟨a,k,vs,rfl,rfl,dg.of (s _ _ ha),n1,h1,h2,by rw[<- hx.length];exact h3,λz=>?_,λz=>bb.tup h s (hx.rep _)⟩);subst z;rw[show (1:Int).toNat=1 from rfl,C7,List.replicate_zero,Dm,List.flatten_nil,C1] at h;exact bb.flat h s (.tup ha hx)
  | _=>exact h.elim
 | @lst a xs vs ha hx=>cases rq with
  | int k =>
   obtain⟨⟨h1,h2,h3⟩,h⟩:=ah.bB h;exact .inr (.inr ⟨a,k,vs,rfl,rfl,s _ _ ha,h1,h2,by rw[<- hx.length];exact h3,bb.lst h s (hx.rep _)⟩)
  | _=>exact h.elim
 | _=>exact h.elim
theorem sk:eQ E (rI pd λi j=>.int (i.fdiv j)) (lF (λ_ j=>decide (j≠0/\j.natAbs.log2<9000)) λi j=>i.fdiv j):=kX λi j z=>(of_decide_eq_true z:j≠0/\j.natAbs.log2<9000)
theorem vz:eQ E (rI (λ_ j=>j≠0) λi j=>.int (i.fmod j)) (lF (λ_ j=>decide (j≠0)) λi j=>i.fmod j):=kX λi j z=>of_decide_eq_true z
theorem vx:eQ E (rI uF λi j=>.int (i^j.toNat)) (lF (λi j=>decide (0<=j/\j<=1000000/\i.natAbs<2^64)) λi j=>i^j.toNat):=kX λi j z=>(of_decide_eq_true z:0<=j/\j<=1000000/\i.natAbs<2^64)
def xv:PV->M PV
 | .int i=>M.ok (.int (-i))
 | _=>none
def yG(f:aa->M PV):aa->M PV:=λenv=>(f env).bind xv
def fz:PV->Bool
 | .bL=>true
 | _=>false
theorem o4(r:Rep H p v):decide (v=.bL)=fz p:=by
 cases r <;> rfl
def f6:PV->PV->M PV
 | p,.bL=>M.ok (.bl (fz p))
 | _,_=>none
theorem qu:eQ E (λx y H Q=>y=.bL/\Q (.bl (decide (x=.bL))) H) f6:=by
 intro σ Hs H p q v u Q s rp rq h;cases rq with
 | bL =>
  have h':ah (M.ok (PV.bl (fz p))) (bb Hs H Q) (XW (E σ) Hs H):=by cases p <;> exact h
  exact⟨rfl,by rw[o4 rp];exact bb.flat h' s (.bl _)⟩
 | _=>cases p <;> exact h.elim
def jk(o o':PV->PV->M PV)(f g h:aa->M PV):aa->M PV:=λenv=>(f env).bind λp=>(g env).bind λq=>(o p q).bind λz=>(lD z).bind λk=>if k=true then (h env).bind λr=>o' q r else M.ok (.bl false)
theorem p9{r r':R2}{o o':PV->PV->M PV}(hv:eQ E r o)(hv':eQ E r' o'){Q:VK}(q:tE E (jk o o' f g h) σ H Q):p8 r r' (tE E f) (tE E g) (tE E h) σ H Q:=by
 refine aQ (K:=eg Q) eg.g q λB H₀ Hs H1 env p v sr rp hp=>?_;refine⟨B,H₀,Hs,env,sr,(ah.bind hp).imp (λq hq u Aa H2 g2 ru=>?_) λe he=>he⟩;have Ai:=sr.grow g2;refine hv σ Aa H2 p q v u _ Ai.gr.sub (rp.mono g2.st) ru ((ah.bind hq).imp (λz hz w Az H3 g3 Bw=>?_) λe he=>he.grow g2);obtain⟨k,ek,hk⟩:=ah.yi (ah.bind hz);subst ek;cases Bw;refine⟨k,rfl,?_⟩;have AS:=Ai.grow g3;cases k with
 | false=>exact hk _ _ _ (g2.trans g3) (.bl _)
 | true =>
  have hk':ah ((h env).bind λr=>o' q r) (eg Q Hs H1) (XW (E σ) Hs H1):=hk;refine⟨B,H₀,Az,env,AS,(ah.bind hk').imp (λr hr w BQ H4 g4 rw4=>?_) λe he=>he.grow (g2.trans g3)⟩;exact hv' σ BQ H4 q r u w Q (AS.grow g4).gr.sub ((ru.mono g3.st).mono g4.st) rw4 (hr.imp (λz hz w' BL H5 g5 r5=>hz w' BL H5 ((g2.trans g3).trans (g4.trans g5)) r5) λe he=>he.grow ((g2.trans g3).trans g4))
theorem pZ{BI:CmpOp}{r r':R2}{o o':PV->PV->M PV}(ho:cR X (compareOp op) r)(hv:eQ E r o)(Bk:cR X (compareOp BI) r')(hv':eQ E r' o')(ha:PE X a (tE E f))(hb:PE X b (tE E g))(hc:PE X c (tE E h))
  (hm:autoParam (lastMarks [op,BI] [b,c]=false) aU._auto_1):PT X (.Compare a [op,BI] [b,c] pos) (tT E (cm (jk o o' f g h))) :=
 (oS ho Bk ha hb hc hm).imp fun σ H Q q=>p9 hv hv' (hX q)
end
def t7:PV->Option String
 | .bL=>some "NoneType"
 | .bl _=>some "bool"
 | .int _=>some "int"
 | .str _=>some "str"
 | .lst _=>some "list"
 | .dD _=>some "list"
 | .tup _=>some "tuple"
 | .emp=>some "dict"
 | _=>none
def eM(a t:String):Bool:=a==t||(a == "bool" && t == "int")
theorem gA(K:PySem.W.Frag):PySem.W.kitOne K (.type "NoneType") (.type "int")=some false:=by with_unfolding_all kernel_rfl
theorem kh(K:PySem.W.Frag):PySem.W.kitOne K (.type "bool") (.type "int")=some true:=by with_unfolding_all kernel_rfl
def tys:List String:=["int", "bool", "str", "list", "tuple"]
theorem ya(K:PySem.W.Frag){a t:String}(ha:t7 p=some a)(ht:t∈tys):PySem.W.kitOne K (.type a) (.type t)=some (eM a t):=by
 have ht2:t = "int" \/ t = "bool" \/ t = "str" \/ t = "list" \/ t = "tuple" := by simpa [tys] using ht
 cases p <;> cases ha <;> rcases ht2 with rfl | rfl | rfl | rfl | rfl <;> first
  | exact gA K
  | exact kt_NoneType_bool K
  | exact kt_NoneType_str K
  | exact kt_NoneType_list K
  | exact kt_NoneType_tuple K
  | exact kh K
  | exact kt_bool_bool K
  | exact kt_bool_str K
  | exact kt_bool_list K
  | exact kt_bool_tuple K
  | exact kt_int_int K
  | exact kt_int_bool K
  | exact kt_int_str K
  | exact kt_int_list K
  | exact kt_int_tuple K
  | exact kt_str_int K
  | exact kt_str_bool K
  | exact kt_str_str K
  | exact kt_str_list K
  | exact kt_str_tuple K
  | exact kt_list_int K
  | exact kt_list_bool K
  | exact kt_list_str K
  | exact kt_list_list K
  | exact kt_list_tuple K
  | exact kt_tuple_int K
  | exact kt_tuple_bool K
  | exact kt_tuple_str K
  | exact kt_tuple_list K
  | exact kt_tuple_tuple K
  | exact kt_dict_int K
  | exact kt_dict_bool K
  | exact kt_dict_str K
  | exact kt_dict_list K
  | exact kt_dict_tuple K
theorem lp{K:PySem.W.Frag}{a:String}(s:aO Hs H)(r:Rep Hs p v)(ha:t7 p=some a):dE K H v (.type a):=by
 cases r with
 | bL=>cases ha;exact .bL
 | bl b=>cases ha;exact .bl b
 | int i=>cases ha;exact .int i
 | str x=>cases ha;exact .str x
 | tup h _=>cases ha;exact .tup (s _ _ h)
 | lst h _=>cases ha;exact .lst (s _ _ h)
 | dD h _=>cases ha;exact .iK (s _ _ h)
 | emp h=>cases ha;exact .dK (s _ _ h)
 | _=>cases ha
theorem mr(K:PySem.W.Frag){p:PV}{a:String}(ha:t7 p=some a):∀ {Ts:List String},(∀ t∈Ts,t∈tys)->PySem.W.kitAny K (.type a) (Ts.map DM)=some (Ts.any λt=>eM a t)
 | [],_=>rfl
 | t::r,h=>by
  have h1:=ya K ha (h t Cz);have h2:=mr K ha (Ts:=r) λt q=>h t (CB _ q);simp only[CZ,PySem.W.kitAny,h1,E4];cases eM a t with
  | true=>rfl
  | false=>exact h2
structure lA (K:PySem.W.Frag) (C:Addr):Prop where
 cls:yu K C
 ha:PySem.W.findIn K (.ref C) "__class__" = some (some (.builtin "object.__class__"))
 hn:PySem.W.specialIn K (.builtin "object.__class__") "__get__" = some (some (.builtin "getset_descriptor.__get__"))
 wX:PySem.W.takesIn K (.builtin "object.__class__")=some true
 hm:PySem.W.mroIn K C (.type "object")=some true
def ot(b:String->Bool)(ob oe:Addr->Option Bool):PV->M PV
 | .obj C _=>cJ ((ob C).map .bl)
 | .exc C _=>cJ ((oe C).map .bl)
 | p=>cJ ((t7 p).map λa=>.bl (b a))
section
variable{p px pt:Pos}{f:aa->M PV}{T:String}{ob oe:Addr->Option Bool}
theorem lJ{fo:Option (List (Str×PV))}(s:aO Hs H)(r:Rep Hs (.exc C fo) v):∃ a Bz,v=.ref a/\ExcAt H a C Bz:=by
 cases r with
 | @kU a _ h=>exact⟨a,none,rfl,s _ _ h⟩
 | @nK a _ d _ vs h h2 _=>exact⟨a,some vs,rfl,d,s _ _ h,s _ _ h2⟩
def kQ(b:String->Bool)(ob oe:Addr->Option Bool)(f:aa->M PV):aa->M PV:=λenv=>(f env).bind (ot b ob oe)
theorem gQ{b:String->Bool}{p:PV}{Q:PV->Prop}{F:EX->Prop}(h:ah (ot b ob oe p) Q F):(∃ a,t7 p=some a/\Q (.bl (b a)))\/(∃ C fs k,p=.obj C fs/\ob C=some k/\Q (.bl k))\/∃ C fo k,p=.exc C fo/\oe C=some k/\Q (.bl k):=by
 cases p with
 | obj C fs =>
  obtain⟨z,e,q⟩:=ah.opt h;obtain⟨k,e2,rfl⟩:=CI.mp e;exact .inr (.inl ⟨C,fs,k,rfl,e2,q⟩)
 | exc C fo =>
  obtain⟨z,e,q⟩:=ah.opt h;obtain⟨k,e2,rfl⟩:=CI.mp e;exact .inr (.inr ⟨C,fo,k,rfl,e2,q⟩)
 | bL=>exact .inl ⟨_,rfl,h⟩
 | bl _=>exact .inl ⟨_,rfl,h⟩
 | int _=>exact .inl ⟨_,rfl,h⟩
 | str _=>exact .inl ⟨_,rfl,h⟩
 | tup _=>exact .inl ⟨_,rfl,h⟩
 | lst _=>exact .inl ⟨_,rfl,h⟩
 | dD _=>exact .inl ⟨_,rfl,h⟩
 | emp=>exact .inl ⟨_,rfl,h⟩
theorem lC{K:PySem.W.Frag}{fs:List (Str×PV)}(s:aO Hs H)(r:Rep Hs (.obj C fs) v)(c:lA K C):dE K H v (.ref C):=by
 cases r with
 | obj h _=>exact .ins (s _ _ h) c.cls c.ha c.hn c.wX c.hm
theorem eO(hg:Gl X "isinstance")(hm:X.mg "isinstance" = none)(hT:PE X (.Name x pt) (tC (.ty T)))(ht:T∈tys)(By:∀ C b,ob C=some b->lA X.K C/\PySem.W.kitOne X.K (.ref C) (.type T)=some b)(Ba:∀ C b,oe C=some b->fE X.K C/\PySem.W.kitOne X.K (.ref C) (.type T)=some b)(he:PE X e (tE E f))
  (h1:autoParam (starEach [e,.Name x pt] X.env=(false,eval e X.env)::starEach [.Name x pt] X.env) aR._auto_1) (h2:autoParam (starEach [.Name x pt] X.env=(false,eval (.Name x pt) X.env)::starEach [] X.env) aR._auto_1) (Aq:autoParam ((backTo pos (starEach [.Name x pt] X.env)).any (·.1)=false) aR._auto_1) :
  PE X (.Call (.Name "isinstance" p) [e,.Name x pt] [] pos) (tE E (kQ (λa=>eM a T) ob oe f)):=by
 refine(dR (bj.or qb kD) hg hm jW (aX he (aX hT c8 h2) h1) (by decide) (by decide) h1 Aq).imp fun σ H Q q=>aQ (K:=eg Q) eg.g q λB H₀ Hs H1 env p v sr rp hp=>?_;rcases gQ hp with ⟨a,ha,q⟩ | ⟨C,fs,k,rfl,e,q⟩ | ⟨C,fo,k,rfl,e,q⟩
 .exact .inl ⟨v,T,_,_,rfl,lp sr.gr.sub rp ha,ya X.K ha ht,bb.flat q sr.gr.sub (.bl _)⟩
 .exact .inl ⟨v,T,_,_,rfl,lC sr.gr.sub rp (By C k e).1,(By C k e).2,bb.flat q sr.gr.sub (.bl _)⟩
 .obtain⟨a,Bz,rfl,hx⟩:=lJ sr.gr.sub rp;exact .inr ⟨a,C,Bz,k,(Ba C k e).1,hx,.inl ⟨T,rfl,(Ba C k e).2⟩,bb.flat q sr.gr.sub (.bl _)⟩
theorem wt(hg:Gl X "isinstance")(hm:X.mg "isinstance" = none)(hT:PE X (.Name x pt) (tC (.ref D)))(hk:∀ p a,t7 p=some a->PySem.W.kitOne X.K (.type a) (.ref D)=some false)(By:∀ C b,ob C=some b->lA X.K C/\PySem.W.kitOne X.K (.ref C) (.ref D)=some b)(Ba:∀ C b,oe C=some b->fE X.K C/\PySem.W.kitOne X.K (.ref C) (.ref D)=some b)(he:PE X e (tE E f))
  (h1:autoParam (starEach [e,.Name x pt] X.env=(false,eval e X.env)::starEach [.Name x pt] X.env) aR._auto_1) (h2:autoParam (starEach [.Name x pt] X.env=(false,eval (.Name x pt) X.env)::starEach [] X.env) aR._auto_1) (Aq:autoParam ((backTo pos (starEach [.Name x pt] X.env)).any (·.1)=false) aR._auto_1) :
  PE X (.Call (.Name "isinstance" p) [e,.Name x pt] [] pos) (tE E (kQ (λ_=>false) ob oe f)):=by
 refine(dR (bj.or o6 kD) hg hm jW (aX he (aX hT c8 h2) h1) (by decide) (by decide) h1 Aq).imp fun σ H Q q=>aQ (K:=eg Q) eg.g q λB H₀ Hs H1 env p v sr rp hp=>?_;rcases gQ hp with ⟨a,ha,q⟩ | ⟨C,fs,k,rfl,e,q⟩ | ⟨C,fo,k,rfl,e,q⟩
 .exact .inl ⟨v,D,_,_,rfl,lp sr.gr.sub rp ha,hk p a ha,bb.flat q sr.gr.sub (.bl _)⟩
 .exact .inl ⟨v,D,_,_,rfl,lC sr.gr.sub rp (By C k e).1,(By C k e).2,bb.flat q sr.gr.sub (.bl _)⟩
 .obtain⟨a,Bz,rfl,hx⟩:=lJ sr.gr.sub rp;exact .inr ⟨a,C,Bz,k,(Ba C k e).1,hx,.inr ⟨D,rfl,(Ba C k e).2⟩,bb.flat q sr.gr.sub (.bl _)⟩
theorem l_{e2:Expr}{t2:TE}{Ts:List String}(hg:Gl X "isinstance")(hm:X.mg "isinstance" = none)(hT:PE X e2 t2)(ht2:∀ σ H R,(∀ p,H p=none->R (.ref p) (upd H p (.tup (Ts.map V.ty))))->t2 σ H R)(ht:∀ t∈Ts,t∈tys)(By:∀ C b,ob C=some b->lA X.K C/\PySem.W.kitAny X.K (.ref C) (Ts.map DM)=some b)(he:PE X e (tE E f))
  (h1:autoParam (starEach [e,e2] X.env=(false,eval e X.env)::starEach [e2] X.env) aR._auto_1) (h2:autoParam (starEach [e2] X.env=(false,eval e2 X.env)::starEach [] X.env) aR._auto_1) (Aq:autoParam ((backTo pos (starEach [e2] X.env)).any (·.1)=false) aR._auto_1) :
  PE X (.Call (.Name "isinstance" p) [e,e2] [] pos) (tE E (kQ (λa=>Ts.any λt=>eM a t) ob (λ_=>none) f)):=by
 refine(dR nA hg hm jW (aX he (aX hT c8 h2) h1) (by decide) (by decide) h1 Aq).imp fun σ H Q q=>aQ (K:=eg Q) eg.g q λB H₀ Hs H1 env p v sr rp hp=>?_;refine ht2 σ H1 _ λtp hn=>?_;have g:=aT.new (o:=.tup (Ts.map V.ty)) sr.gr.sub hn;rcases gQ hp with ⟨a,ha,q⟩ | ⟨C,fs,k,rfl,e,q⟩ | ⟨C,fo,k,rfl,e,q⟩
 .exact⟨v,tp,Ts,_,_,rfl,au,lp g.sub (rp.mono g.st) ha,mr X.K ha ht,q _ _ _ g (.bl _)⟩
 .exact⟨v,tp,Ts,_,_,rfl,au,lC g.sub (rp.mono g.st) (By C k e).1,(By C k e).2,q _ _ _ g (.bl _)⟩
 .cases e
end
section
open PySem.SeqAt (shaped noMix noMixAll)
mutual
def dat:PV->Option PyData
 | .bL=>some .none
 | .bl b=>some (.bool b)
 | .int i=>some (.int i)
 | .str x=>some (.str x)
 | .tup xs=>(dN xs).map .tuple
 | .lst xs=>(dN xs).map .list
 | .dD xs=>(dN xs).map .list
 | .obj _ _=>none
 | .exc _ _=>none
 | .emp=>none
def dN:List PV->Option (List PyData)
 | []=>some []
 | p::r=>(dat p).bind λd=>(dN r).map (d::·)
end
mutual
theorem Rep.reads{Hs:Hp}(I:Inv X z0 σ H s)(sm:aO Hs H):∀ {p:PV} {v:V} {u:Value} {d:PyData},Rep Hs p v->RelV v u->dat p=some d->∃ as,Reads s.heap u d as
 | _,_,u,d,.bL,r,e=>by
  cases e;cases (show u=CV from r);exact⟨_,.none⟩
 | _,_,u,d,.bl b,r,e=>by
  cases e;cases (show u=DH b from r);exact⟨_,.bool b⟩
 | _,_,u,d,.int i,r,e=>by
  cases e;obtain⟨t,rfl⟩:=(show ∃ t,u=FE i t from r);exact⟨_,.int i t⟩
 | _,_,u,d,.str i,r,e=>by
  cases e;obtain⟨t,rfl⟩:=(show ∃ t,u=FG i t from r);exact⟨_,.str i t⟩
 | _,_,u,d,.tup (a:=a) ha hx,r,e=>by
  obtain⟨ds,e2,rfl⟩:=CI.mp (show (dN _).map PyData.tuple=some d from e);cases (show u=CA a from r);obtain⟨z7,r1,⟨o,ho,hc,n,hd⟩,_⟩:=I.tuple (dg.of (sm _ _ ha));obtain⟨as,ra⟩:=aw.reads I sm hx r1 e2;exact⟨_,.tuple ho hc hd (by simpa using ra)⟩
 | _,_,u,d,.lst (a:=a) ha hx,r,e=>by
  obtain⟨ds,e2,rfl⟩:=CI.mp (show (dN _).map GC=some d from e);cases (show u=CA a from r);obtain⟨z7,r1,⟨o,n,ho,hc,_,hd⟩,_⟩:=I.list (dF.of (sm _ _ ha));obtain⟨as,ra⟩:=aw.reads I sm hx r1 e2;exact⟨_,.list ho hc hd (by simpa using ra)⟩
 | _,_,u,d,.dD (a:=a) (o:=ob) ha hx,r,e=>by
  obtain⟨ds,e2,rfl⟩:=CI.mp (show (dN _).map GC=some d from e);cases (show u=CA a from r);obtain⟨z7,r1,⟨o,n,ho,hc,_,hd⟩,_⟩:=I.list (.inl (.inr ⟨ob,sm _ _ ha⟩));obtain⟨as,ra⟩:=aw.reads I sm hx r1 e2;exact⟨_,.list ho hc hd (by simpa using ra)⟩
 | _,_,u,d,.obj _ _,r,e=>by cases e
 | _,_,u,d,.kU _,r,e=>by cases e
 | _,_,u,d,.nK _ _ _,r,e=>by cases e
 | _,_,u,d,.emp _,r,e=>by cases e
theorem aw.reads{Hs:Hp}(I:Inv X z0 σ H s)(sm:aO Hs H):∀ {p:List PV} {v:List V} {u:List Value} {d:List PyData},aw Hs p v->Vals v u->dN p=some d->∃ as,ReadsAll s.heap u d as
 | _,_,_,_,.nil,.nil,e=>by cases e;exact⟨_,.nil⟩
 | _,_,_,d,.cons (p:=p) (ps:=ps) h hr,.cons r rr,e=>by
  obtain⟨d1,e1,e2⟩:=Ef.mp (show (dat p).bind (λd=>(dN ps).map (d::·))=some d from e);obtain⟨ds,e3,rfl⟩:=CI.mp e2;obtain⟨as,ra⟩:=Rep.reads I sm h r e1;obtain⟨bs,rb⟩:=aw.reads I sm hr rr e3;exact⟨_,.cons ra rb⟩
end
def qw(d e:PyData):M Bool:=bB (shaped d=true/\shaped e=true/\noMix d e=true) (M.ok (same d e))
def gI(o:Bool->PV)(p q:PV):M PV:=match dat p,dat q with
 | some d,some e=>(qw d e).bind λb=>M.ok (o b)
 | _,_=>none
def gy:PV->PV->M PV:=gI λb=>.bl b
def j0:PV->PV->M PV:=gI λb=>.bl (!b)
def p5(o:Bool->Bool):R2:=λx y H Q=>∃ Hs p q d e,aO Hs H/\Rep Hs p x/\Rep Hs q y/\dat p=some d/\dat q=some e/\shaped d=true/\shaped e=true/\noMix d e=true/\Q (.bl (o (same d e))) H
theorem pz(hu:X.A.units+64<cLine):cR X (compareOp .Eq) (p5 id):=by
 intro z0 s σ H x y v u Q I rx ry h;obtain⟨Hs,p,q,d,e,sm,rp,rq,hd,he,h1,h2,h3,hq⟩:=h;obtain⟨as,ra⟩:=Rep.reads I sm rp rx hd;obtain⟨bs,rb⟩:=Rep.reads I sm rq ry he;exact eq_dataH_same ra rb h1 h2 hu h3 (jz I hq rfl)
theorem oM(hu:X.A.units+64<cLine):cR X (compareOp .NotEq) (p5 not):=by
 intro z0 s σ H x y v u Q I rx ry h;obtain⟨Hs,p,q,d,e,sm,rp,rq,hd,he,h1,h2,h3,hq⟩:=h;obtain⟨as,ra⟩:=Rep.reads I sm rp rx hd;obtain⟨bs,rb⟩:=Rep.reads I sm rq ry he;exact ne_dataH_same ra rb h1 h2 hu h3 (jz I hq rfl)
theorem qd{o:Bool->Bool}:eQ E (p5 o) (gI λb=>.bl (o b)):=by
 intro σ Hs H p q v u Q s rp rq h;unfold gI at h
 split at h
 .rename_i d e hd he;have h':=ah.bind h;obtain⟨⟨h1,h2,h3⟩,h⟩:=ah.bB h';exact⟨Hs,p,q,d,e,s,rp,rq,hd,he,h1,h2,h3,bb.flat h s (.bl _)⟩
 .exact h.elim
theorem uq:eQ E (p5 id) gy:=qd
theorem ug:eQ E (p5 not) j0:=qd
def iE(xs:List PV)(lo hi:Option Int):List PV:=(xs.drop (HT.bC xs.length 0 lo)).take (HT.bC xs.length xs.length hi-HT.bC xs.length 0 lo)
theorem aw.cut(r:aw H xs vs)(lo hi:Option Int):aw H (iE xs lo hi) (kK vs lo hi):=by
 unfold iE kK;rw[r.length];exact(r.drop _).take _
abbrev xX(Q:Option Int->Hp->Prop):Hp->Hp->Option Int->Prop:=λHs H k=>∀ z8 H',aT Hs H z8 H'->Q k H'
def wR(E:St->XK)(g:aa->M (Option Int)):TO:=fun σ H Q=>tG E g (xX Q) σ H
theorem PO.imp{e:Option Expr}{t t':TO}(h:PO X e t)(i:∀ σ H Q,t' σ H Q->t σ H Q):PO X e t':=λz0 s σ H Q I q=>h z0 s σ H Q I (i σ H Q q)
def lE:PV->M (Option Int)
 | .int i=>M.ok (some i)
 | _=>none
def dC:aa->M (Option Int):=λ_=>M.ok none
def aY(f:aa->M PV):aa->M (Option Int):=λenv=>(f env).bind lE
section
variable{lo hi:Option Expr}{p2:Pos}{f:aa->M PV}{gl gh:aa->M (Option Int)}
theorem xX.g{Q:Option Int->Hp->Prop}:KG (xX Q):=λHs H z8 H' b k g Aa H2 g2=>k Aa H2 (g.trans g2)
theorem cM:PO X none (wR E dC):=sF.imp fun σ H Q q=>by
 obtain⟨B,H₀,Hs,env,sr,q⟩:=q;exact q Hs H (.refl sr.gr.sub)
theorem bZ(he:PE X e (tE E f)):PO X (some e) (wR E (aY f)):=(sT he).imp fun σ H Q q=>aQ (K:=xX Q) xX.g q λB H₀ Hs H1 env p v sr rp hp=>by
 cases rp with
 | int i=>exact⟨i,rfl,hp Hs H1 (.refl sr.gr.sub)⟩
 | _=>exact hp.elim
end
section
variable{K:PySem.W.Frag}{fs:aa->M (List PV)}
end
end
section
variable{K:PySem.W.Frag}{fs:aa->M (List PV)}
end
section
variable{K:PySem.W.Frag}{fs:aa->M (List PV)}
end
section
variable{E:XK}{px:Pos}{fs:aa->M (List PV)}{f h:aa->M PV}
def ownAt(i:Nat)(env:aa):M (List PV):=match env[i]? with
 | some (some (.ow xs))=>M.ok xs
 | _=>none
end
section
variable{sem:List PV->M (List PV)}{p:Pos}{o:Expr}{fs:aa->M (List PV)}{g:aa->M PV}
end
mutual
def pS:PV->Bool
 | .bL=>true
 | .bl _=>true
 | .int _=>true
 | .str _=>true
 | .tup xs=>jG xs
 | _=>false
def jG:List PV->Bool
 | []=>true
 | p::r=>pS p&&jG r
end
mutual
theorem Rep.away{Hs:Hp}{a:Addr}{ws:List V}(ha:Hs a=some (.lst ws)):∀ {p:PV} {v:V},Rep Hs p v->pS p=true->Rep (rem Hs a) p v
 | _,_,.bL,_=>.bL
 | _,_,.bl b,_=>.bl b
 | _,_,.int b,_=>.int b
 | _,_,.str b,_=>.str b
 | _,_,.tup (a:=c) h r,n=>by
  have nc:c≠a:=λz=>by subst z;rw[ha] at h;cases h
  exact .tup (by unfold rem;rw[if_neg nc];exact h) (r.away ha n)
 | _,_,.lst _ _,n=>by cases n
 | _,_,.dD _ _,n=>by cases n
 | _,_,.obj _ _,n=>by cases n
 | _,_,.kU _,n=>by cases n
 | _,_,.nK _ _ _,n=>by cases n
theorem aw.away{Hs:Hp}{a:Addr}{ws:List V}(ha:Hs a=some (.lst ws)):∀ {p:List PV} {v:List V},aw Hs p v->jG p=true->aw (rem Hs a) p v
 | _,_,.nil,_=>.nil
 | _,_,.cons h r,n=>by
  have n':=DG.mp (show (pS _&&jG _)=true from n);exact .cons (h.away ha n'.1) (r.away ha n'.2)
end
section
variable{f:aa->M PV}{u:aa->M Bool}
end
def c_:PV->PV->M PV:=lF (λ_ j=>decide (j≠0/\j.natAbs.log2<9000)) λi j=>i.fdiv j
def cj:PV->PV->M PV:=lF (λ_ j=>decide (j≠0)) λi j=>i.fmod j
def nM:PV->PV->M PV:=lF (λi j=>decide (0<=j/\j<=1000000/\i.natAbs<2^64)) λi j=>i^j.toNat
def x_:PV->PV->M PV:=pG λi j=>decide (i<j)
def wY:PV->PV->M PV:=pG λi j=>decide (i<=j)
def tP:PV->PV->M PV:=pG λi j=>decide (j<i)
def zv:PV->PV->M PV:=pG λi j=>decide (j<=i)
theorem qj:eQ E (rI pd λi j=>.int (i.fdiv j)) c_:=sk
theorem rD:eQ E (rI (λ_ j=>j≠0) λi j=>.int (i.fmod j)) cj:=vz
theorem sR:eQ E (rI uF λi j=>.int (i^j.toNat)) nM:=vx
theorem pD:eQ E (nQ λi j=>.bl (decide (i<j))) x_:=k6
theorem jx:eQ E (nQ λi j=>.bl (decide (i<=j))) wY:=k6
theorem oB:eQ E (nQ λi j=>.bl (decide (j<i))) tP:=k6
def bP(n:Nat)(s:List PV->M PV):List PV->M PV:=λps=>bB (ps.length=n) (s ps)
theorem qa{s:List PV->M PV}{ps:List PV}(h:bP n s ps≠none):ps.length=n:=by
 unfold bP bB at h
 split at h
 .assumption
 .exact(h rfl).elim
section
variable{K:PySem.W.Frag}
theorem pJ{s:List PV->M PV}(F:bK P w K mg base (dz P w) k f fd ps (gp n s)):bK P w K mg base (dz P w) k f fd ps (gp n (bP n s)) where
 len:=λvs H Q E h=>by
  obtain⟨h0,Hs,qs,sm,r,h⟩:=h;exact F.len vs H Q E ⟨h0,Hs,qs,sm,r,(ah.bB h).2⟩
 run:=λA outer s H args us vs Q E hr e hb rv h=>by
  obtain⟨h0,Hs,qs,sm,r,h⟩:=h;exact F.run A outer s H args us vs Q E hr e hb rv ⟨h0,Hs,qs,sm,r,(ah.bB h).2⟩
structure gH (P:Program) (w:World) (K:PySem.W.Frag) (mg:Str->Option Value) (base:Heap) (n:Nat) (x:Str) (m:Nat) (sem:List PV->M PV):Prop where
 ex:∃ (f:Addr) (fd:FuncData) (ps:List Str),mg x=some (.ref f)/\PySem.W.keepIn K (.ref f)=true/\ps.length=m/\Binds K fd ps []/\bK P w K mg base (dz P w) n f fd ps (gp m (bP m sem))
theorem cN.zM{qual:Str}{st:Stmt}{dv:Value}{g:aa->M Out}(F:cN K x qual st dv f fd)(S:cX N ps (aS st))
  (hb:∀ (Al:Value) (A:Around) (outer:List Env) (s:Shared) (H:Hp) (E:XK),bW k (A.deeper (envOfC qual (aS st) s.heap.objs.size f Al))->ez ((iA (dz P w) P w K mg base N qual (aS st) f Al A outer s H E).out λ_=>E) (λ_=>E)->gk ((iA (dz P w) P w K mg base N qual (aS st) f Al A outer s H E).out λ_=>E) (cU st) (tS E g)) :
  bK P w K mg base (dz P w) (k+1) f fd ps (gp ps.length (bP ps.length (bo N.length g))):=by
 obtain⟨oc,od,kV,doc,pm,an,Al,ct,BJ,rfl,lk,AY⟩:=F.ex;exact pJ (v5 lk AY S λA outer s H E hr=>hb Al A outer s H E hr (uf rfl rfl))
end
section
variable{m:Nat}{sem:List PV->M PV}{fs:aa->M (List PV)}{p:Pos}
theorem gH.call(F:gH X.prog X.w X.K X.mg X.base n x m sem)(hr:bW k X.A)(hn:n<=k)(hg:Gl X x)(O:ez X E)(ha:PA X (e::es) (tL E fs))(AR:autoParam ((x==("__debug__" : Str))=false) aD._auto_1)(he:autoParam (starEach (e::es) X.env=(false,eval e X.env)::starEach es X.env) aR._auto_1)(Aq:autoParam ((backTo pos (starEach es X.env)).any (·.1)=false) aR._auto_1) :
  PE X (.Call (.Name x p) (e::es) [] pos) (tE E (ak (bP m sem) fs)):=by
 obtain⟨f,fd,ps,h1,h2,h3,h4,h5⟩:=F.ex;have:=rT (p:=p) (Bx:=[]) h5 (hr.mono hn) hg h1 h2 h4 .nil (λ_=>.nil) O (λBK hp=>by rw[C1] at hp;exact qa hp) ha AR he Aq;refine this.imp fun σ H Q q=>?_;have e:(λps=>bP m sem (ps++[]))=bP m sem:=by funext ps;rw[C1]
 rw[e];exact q
end
section
variable{m:Nat}{fs:aa->M (List PV)}{p:Pos}
end
def gL:Addr->Option Bool:=λ_=>none
theorem eo{P:Addr->Bool->Prop}:∀ C b,gL C=some b->P C b:=λ_ _ h=>by cases h
theorem vr(i:Nat)(hN:autoParam (X.N[i]?=some x) aR._auto_1)(hv:vY X.env.scope x:=by first | exact .inl rfl | exact .inr (.inl rfl) | exact .inr (.inr rfl))(hd:autoParam ((x==("__debug__" : Str))=false) aD._auto_1)(AY:autoParam ((x==("__classdict__" : Str))=false) aD._auto_1):PE X (.Name x pos) (tE E (ae i)):=wm hN hv hd AY
theorem xO{env:Env}(h:(match e with | .Starred ..=>true | _=>false)=false):starEach (e::es) env=(false,eval e env)::starEach es env:=by
 cases e <;> first | rfl | cases h
section
variable{a b:Expr}{f g:aa->M PV}
end
structure sY (K:PySem.W.Frag) (mg:Str->Option Value) (C:Addr) (x:Str):Prop where
 hc:PySem.W.excIn K C iz "ValueError.__new__" = true
 c:fE K C
 ht:PySem.W.typeIn K (.ref C)=some (.type "type")
 kp:PySem.W.keepIn K (.ref C)=true
 m:mg x=some (.ref C)
section
variable{E:XK}{p:Pos}{fl:Str}{fs:aa->M (List PV)}
theorem sY.raise(F:sY X.K X.mg C x)(O:ez X λ_=>E)(z9:X.calm=true)(hg:Gl X x)(ha:PA X (e::es) (tL (λ_=>E) fs))
  (AR:autoParam ((x==("__debug__" : Str))=false) aD._auto_1) (he:autoParam (starEach (e::es) X.env=(false,eval e X.env)::starEach es X.env) aR._auto_1) (Aq:autoParam ((backTo Ac (starEach es X.env)).any (·.1)=false) aR._auto_1) :
  PS X (.Raise (some (.Call (.Name x p) (e::es) [] Ac)) none pos) (tS E (eE C fs)):=mW O z9 F.hc F.c F.ht F.kp hg F.m ha AR he Aq
end
theorem bb.emp{Hs H:Hp}{Q:VK}(h:bb Hs H Q .emp)(s:aO Hs H):∀ p,H p=none->Q (.ref p) (upd H p (.dK [])) :=
 λp n=>h _ (upd Hs p (.dK [])) _ (aT.new s n) (.emp au)
theorem vJ:PE X (.Dict [] [] pos) (tE E λ_=>M.ok .emp):=by
 refine qD.imp fun σ H Q q=>?_;obtain⟨B,H₀,Hs,env,sr,q⟩:=q;exact bb.emp q sr.gr.sub
section
variable{cl:List (Str×Addr)}{wi:TI}{it:aa->M (List PV)}{g:TG}{set:PV->aa->M aa}{f:aa->M PV}{fs:List Str}
variable{E:XK}{py A3:Pos}
theorem md(z9:X.calm=true)
  (Ab:closureFor scope X.env=pure cl) (hk:scope.kind=.function) (nc:b_ scope.names=true) (lo:cw scope.names=true) (fh:cv cl scope.names=true) (ag:bJ X cl) (fr:cA X scope cl fs js)
  (hi:PI X tg iter wi) (hv:nP (λ_=>E) wi it) (hg:∀ C s₀ H₀ ex z0,PG (gm X scope cl (ts++fs) C s₀ H₀ ex z0) tg g) (A4:∀ E,pO E g set) (so:gd set) (he:∀ C s₀ H₀ ex z0,PE (gm X scope cl (ts++fs) C s₀ H₀ ex z0) elt (tE EF f))
  (hN:X.N.Nodup) (hiy:X.N[i]?=some y) (hy:Loc X.env.scope y)
  (hs:autoParam (∀ x,foldedSetIterable iter X.env x=pure x) aI._auto_1) (hsw:autoParam (swapsWith (.ListComp elt [⟨tg,iter,[],0⟩] scope pos) (some (.Name y py)) A3.line X.env=pure true) aR._auto_1)
  (hf:autoParam (X.fn y=true\/X.env.scope.names.lookup y=some .local) aF._auto_1) :
  PS X (.Assign [.Name y py] (.ListComp elt [⟨tg,iter,[],0⟩] scope pos) A3) (tS E (bI i (fq (dU it set none f ts.length js)))):=by
 refine(qN hN hiy hy z9 Ab hk nc lo fh ag fr hi hg he hs hsw hf).imp λD σ H q=>?_;refine kn hv A4 so ?_;obtain⟨B,H₀,Hs,env,sr,q⟩:=q;refine⟨B,H₀,Hs,env,sr,(ah.bind (ah.bind q)).imp (λps hp vs p z8 H' g r n=>?_) λe he=>he.grow sr.gr⟩;have gn:=aT.new (o:=.lst vs) g.sub n;exact hp _ _ _ ((sr.grow (g.trans gn)).set (.lst au (r.mono gn.st)))
end
section
variable{a:Expr}{ta:TA}{p:Pos}
end
section
variable{fs:aa->M (List PV)}{a:Expr}{p p2 pos2:Pos}
end
section
open AutoSeq1 (wpAny_loadPart')
section
variable{E:Value->Shared->Prop}
end
section
variable{K:PySem.W.Frag}{fs:aa->M (List PV)}
end
end
def yV(E:St->XK)(f:aa->M Out):TS:=λD σ H=>∃ B H₀ Hs env,SR B H₀ Hs H σ env/\ah (f env) (KS D B H₀) (XW (E σ) Hs H)
theorem nh{f:aa->M PV}{g:aa->PV->M Out}{D:Ends}{R:VK}(h:yV E (λenv=>(f env).bind (g env)) D σ H)
  (k:∀ B H₀ Hs H1 env p v,SR B H₀ Hs H1 σ env->Rep Hs p v->ah (g env p) (KS D B H₀) (λ_=>True)->R v H1):tE E f σ H R:=by
 obtain⟨B,H₀,Hs,env,sr,h⟩:=h;refine⟨B,H₀,Hs,env,sr,(ah.bind h).imp (λp hp v z8 H' g r=>?_) λe he=>he⟩;exact k B H₀ z8 H' env p v (sr.grow g) r (hp.imp (λ_ z=>z) λ_ _=>trivial)
section
variable{f:aa->M PV}
end
theorem SR.unset{B:Hp}{env:aa}(r:SR B H₀ Hs H σ env):SR B H₀ Hs H (σ.set i none) (env.set i none):=by
 have key:∀ (j:Nat) (q:SV),(env.set i none)[j]?=some (some q)->env[j]?=some (some q)/\i≠j:=λj q e=>by
  rw[Cu] at e
  by_cases z:i=j
  .rw[if_pos z] at e
   split at e <;> cases e
  .rw[if_neg z] at e;exact⟨e,z⟩
 have old:∀ j,i≠j->(σ.set i none)[j]?=σ[j]?:=λj z=>by rw[Cu,if_neg z]
 refine⟨r.gr,by rw[Dp,Dp];exact r.len,λj q e=>?_,λj xs e=>?_,λj k xs ys a n e1 e2 e3=>?_,λj a C fs e=>?_,λj k a b C D fs gs e1 e2=>?_⟩
 .obtain⟨e,z⟩:=key j _ e;rw[old j z];exact r.sh j q e
 .obtain⟨e,z⟩:=key j _ e;rw[old j z];exact r.ow j xs e
 .obtain⟨e1,z1⟩:=key j _ e1;obtain⟨e2,z2⟩:=key k _ e2;rw[old j z1] at e3;rw[old k z2];exact r.sep j k xs ys a n e1 e2 e3
 .obtain⟨e,z⟩:=key j _ e;rw[old j z];exact r.bd j a C fs e
 .exact r.one j k a b C D fs gs (key j _ e1).1 (key k _ e2).1
section
variable{f:aa->M PV}
theorem vy(hN:X.N.Nodup)(hi:X.N[i]?=some x)(hx:Loc X.env.scope x)(he:PE X e (tE E f))(hs:autoParam (swapsWith e (some (.Name x pos')) pos.line X.env=pure false) aR._auto_1)(hf:autoParam (X.fn x=true\/X.env.scope.names.lookup x=some .local) aF._auto_1) :
  gk X [.Assign [.Name x pos'] e pos] (yV E (bI i f)):=by
 intro z0 s σ H D I q;exact kz (lB hN hi hx he hs hf) mv z0 s σ H D I (nh q λB H₀ Hs H1 env p v sr rp hp=>hp _ Hs H1 (sr.set rp))
end
abbrev Cx.gX(X:Cx)(pn:List (Addr×Obj)):Cx:={ X with pn:=pn }
abbrev Cx.hand(X:Cx)(ea:Addr):Cx:={ X with A:=X.A.mark (some (.ref ea)),calm:=false,xe:=λ_ _=>False }
section
variable{AQ:List (Addr×Obj)}{ea:Addr}
theorem Cx.Ok.gX(ok:X.Ok)(pn:List (Addr×Obj)):(X.gX pn).Ok:=⟨ok.mod,ok.kind,ok.glob,ok.blt,ok.above,ok.inj,ok.has,ok.um,ok.hd,ok.frames,ok.wB,ok.wQ,ok.bs,ok.pH,ok.iJ,ok.jq,ok.eS,ok.rN⟩
theorem Cx.Ok.iB{pn:List (Addr×Obj)}(ok:(X.gX pn).Ok):X.Ok:=⟨ok.mod,ok.kind,ok.glob,ok.blt,ok.above,ok.inj,ok.has,ok.um,ok.hd,ok.frames,ok.wB,ok.wQ,ok.bs,ok.pH,ok.iJ,ok.jq,ok.eS,ok.rN⟩
theorem Cx.Ok.hand(ok:X.Ok)(ea:Addr):(X.hand ea).Ok:=⟨ok.mod,ok.kind,ok.glob,ok.blt,ok.above,ok.inj,ok.has,ok.um,(λz=>nomatch z),ok.frames,ok.wB,ok.wQ,ok.bs,ok.pH,ok.iJ,ok.jq,ok.eS,ok.rN⟩
theorem Inv.gX(I:Inv X z0 σ H s):Inv (X.gX (X.pn++z0)) [] σ H s:=⟨I.ok.gX _,I.os,I.bare,I.base,I.loc,I.cell,I.free,I.cC,(λp hp=>I.pin p (by rw[C1] at hp;exact hp)),I.aJ,I.len⟩
theorem Inv.iB(I:Inv (X.gX (X.pn++z0)) AQ σ H s):Inv X z0 σ H s:=⟨I.ok.iB,I.os,I.bare,I.base,I.loc,I.cell,I.free,I.cC,(λp hp=>I.pin p (DE _ hp)),I.aJ,I.len⟩
theorem Inv.hand(I:Inv X z0 σ H s)(ea:Addr):Inv (X.hand ea) z0 σ H s:=⟨I.ok.hand ea,I.os,I.bare,I.base,I.loc,I.cell,I.free,I.cC,I.pin,I.aJ,I.len⟩
theorem Inv.c6(I:Inv (X.hand ea) z0 σ H s)(ok:X.Ok):Inv X z0 σ H s:=⟨ok,I.os,I.bare,I.base,I.loc,I.cell,I.free,I.cC,I.pin,I.aJ,I.len⟩
theorem Inv.p4(I:Inv X z0 σ (du Hc ea T C dd fl) s)(h1:Hc ea=some (cF C dd ea))(h2:Hc T=none)(h3:T≠ea):Inv X z0 σ Hc s:=by
 have no:∀ b,du Hc ea T C dd fl b=none->Hc b=none:=λb e=>by
  by_cases z:b=ea
  .rw[z,fc] at e;cases e
  .by_cases z2:b=T
   .rw[z2];exact h2
   .rw[cq z z2] at e;exact e
 have so:∀ b o,du Hc ea T C dd fl b=some o->(∀ φ,o≠.ext φ)->Hc b=some o:=λb o e n=>by
  by_cases z:b=ea
  .rw[z,fc] at e;cases e;exact absurd rfl (n _)
  .by_cases z2:b=T
   .rw[z2,eT h3] at e;cases e;exact absurd rfl (n _)
   .rw[cq z z2] at e;exact e
 refine⟨I.ok,I.os,I.bare,⟨I.base.keep,I.base.slot,λb o e n hx=>no b (I.base.free b o e n hx),I.base.there,λb xs e=>so b _ (I.base.fV b xs e) (λ_ z=>nomatch z),λb o u e=>so b _ (I.base.dM b o u e) (λ_ z=>nomatch z),λb ps e=>?_⟩,I.loc,I.cell,no _ I.free,λx c e=>no _ (I.cC x c e),λp hp=>?_,λb o e=>?_,I.len⟩
 .obtain⟨more,q⟩:=I.base.fM b ps e;exact⟨more,so b _ q λ_ z=>nomatch z⟩
 .obtain⟨e,n,r⟩:=I.pin p hp;exact⟨e,no _ n,r⟩
 .by_cases z:b=ea
  .subst z;rw[h1] at e;cases e;obtain⟨vs,_,_,hx,_⟩:=I.jH h3;exact tf hx
  .by_cases z2:b=T
   .rw[z2,h2] at e;cases e
   .refine(I.aJ b o (by rw[cq z z2];exact e)).fD (λ_ _ _ q=>q) (λc q=>so c _ q λ_ z=>nomatch z) λc xs q=>so c _ q λ_ z=>nomatch z
theorem Inv.gone{E:Value->Shared->Prop}{n:Str}{Q:Unit->Shared->Prop}(I:Inv X z0 σ H s)(hN:X.N.Nodup)(hi:X.N[i]?=some n)(hx:X.env.scope.names.lookup n=some .local)
  (h:∀ s',Inv X z0 (σ.set i none) H s'->Q () s'):wpAny (model X.prog X.w) A (do bindName X.env n .none;unbindBehindTheSuite X.env n pos) Q E s:=by
 obtain⟨m,hn,hl⟩:=id I.loc;have pv:=I.pv;refine wpAny_nameGoes_keeps hx hn (by rw[I.ok.kind];rfl) λh' v hn' hs=>?_;obtain⟨oL,_,_,hoL,_⟩:=id hn;have tracked:fJ X.prog X.w H h':=λb ob e=>by
  refine(I.aJ b ob e).fD (λc w' hc q=>(hs.2 c ?_).trans q) (λ_ q=>q) λ_ _ q=>q;rintro rfl;rcases hc with z | hc
  .rw[<- z,I.free] at e;cases e
  .rw[I.free] at hc;cases hc
 refine h _ ⟨I.ok,I.os,I.bare,⟨λb o e n hb hx=>?_,λb o e n hb hx=>?_,I.base.free,λb o e hx=>?_,I.base.fV,I.base.dM,I.base.fM⟩,⟨_,hn',λj y v' e1 e2 e3=>?_⟩,λy c e=>?_,I.free,I.cC,λp hp=>?_,tracked,by simpa using I.len⟩
 .exact(hs.2 b (CC (Cr (Cq e) I.ok.above))).trans (I.base.keep b o e n hb hx)
 .obtain⟨sl,e1⟩:=I.base.slot b o e n hb hx;exact⟨sl,(hs.2 b (CC (Cr (Cq e) I.ok.above))).trans e1⟩
 .obtain⟨o',e1⟩:=I.base.there b o e hx;exact⟨o',(hs.2 b (CC (Cr (Cq e) I.ok.above))).trans e1⟩
 .have hj:i≠j:=λz=>by
   subst z;rw[Cu,if_pos rfl] at e2
   split at e2 <;> cases e2
  rw[EA hj] at e2;obtain⟨u',r',q⟩:=hl j y v' e1 e2 e3;refine⟨u',r',?_⟩;rcases q with ⟨k,e⟩ | ⟨k,c,e,z⟩
  .refine .inl ⟨k,?_⟩;have:y≠n:=λe=>hj (hU hN hi (e▸e1));simp[this,e]
  .exact .inr ⟨k,c,e,z.sameBut hs (pv y c e)⟩
 .obtain⟨w',z⟩:=I.cell y c e;exact⟨w',z.sameBut hs (pv y c e)⟩
 .obtain⟨e,n,ne,nf,d⟩:=I.pin p hp;exact⟨(hs.2 p.1 ne).trans e,n,ne,nf,d⟩
end
abbrev Hd:=(Addr->Option Bool)×Option Nat×(aa->M Out)
def oZ(i:Nat):Out->Out
 | .nx e=>.nx (e.set i none)
 | .bk e=>.bk (e.set i none)
 | .ct e=>.ct (e.set i none)
 | .rt p=>.rt p
def lu(o:Option Nat)(h:aa->M Out)(x:EX)(env:aa):M Out:=match o with
 | none=>qH (h env)
 | some i=>(qH (h (env.set i (some (.sh (.exc x.1 x.2)))))).bind λout=>M.ok (oZ i out)
def k8(b:Option Bool)(x y:M Out):M Out:=match b with
 | some true=>x
 | some false=>y
 | none=>none
def dO:List Hd->EX->aa->M Out
 | [],_,_=>none
 | (t,o,h)::r,x,env=>k8 (t x.1) (lu o h x env) (dO r x env)
def kW(r:M Out)(k:EX->M Out):M Out:=match r with
 | some (.error x)=>k x
 | r=>r
def og(f:aa->M Out)(hs:List Hd):aa->M Out:=λenv=>kW (f env) λx=>dO hs x env
inductive t9 (X:Cx) (E:XK):List ExceptHandler->List Hd->Prop where
 | nil:t9 X E [] []
 | xS {x:Str} {np pos:Pos} {b₀:Stmt} {AG:List Stmt} {rest:List ExceptHandler} {t:Addr->Option Bool} {h:aa->M Out} {hs:List Hd} {D:Addr} (hg:Gl X x) (hm:X.mg x=some (.ref D)) (hd:(x==("__debug__" : Str))=false)
   (ht:∀ C b,t C=some b->PySem.W.exmOne X.K (.ref C) (.ref D)=some b) (hb:∀ ea,gk (X.hand ea) (b₀::AG) (tS E h)) (r:t9 X E rest hs):t9 X E (.ExceptHandler (some (.Name x np)) none (b₀::AG) pos::rest) ((t,none,h)::hs)
 | t5 {x n:Str} {i:Nat} {np pos:Pos} {b₀:Stmt} {AG:List Stmt} {rest:List ExceptHandler} {t:Addr->Option Bool} {h:aa->M Out} {hs:List Hd} {D:Addr} (hg:Gl X x) (hm:X.mg x=some (.ref D)) (hd:(x==("__debug__" : Str))=false)
   (hN:X.N.Nodup) (hi:X.N[i]?=some n) (hx:X.env.scope.names.lookup n=some .local)
   (ht:∀ C b,t C=some b->PySem.W.exmOne X.K (.ref C) (.ref D)=some b) (hb:∀ ea,gk (X.hand ea) (b₀::AG) (tS E h)) (r:t9 X E rest hs):t9 X E (.ExceptHandler (some (.Name x np)) (some n) (b₀::AG) pos::rest) ((t,some i,h)::hs)
variable{hd:List Hd}{hls:List ExceptHandler}
section
variable{B:Hp}{ea:Addr}{E:XK}{env:aa}{fo:Option (List (Str×PV))}{D:Ends}{F:Value->Shared->Prop}
theorem SP.c6{D:Ends}{f:Flow}{s':Shared}(h:SP (X.hand ea) z0 D f s')(ok:X.Ok):SP X z0 D f s':=by
 cases f with
 | next=>obtain⟨σ',H',I,q⟩:=h;exact⟨σ',H',I.c6 ok,q⟩
 | brk=>obtain⟨σ',H',I,q⟩:=h;exact⟨σ',H',I.c6 ok,q⟩
 | cont=>obtain⟨σ',H',I,q⟩:=h;exact⟨σ',H',I.c6 ok,q⟩
 | ret u=>obtain⟨v,σ',H',I,r,q⟩:=h;exact⟨v,σ',H',I.c6 ok,r,q⟩
theorem ah.err{r:M α}{Q:α->Prop}(h:ah r Q (λ_=>False)):ah r Q E':=h.imp (λ_ z=>z) λ_ z=>z.elim
def Ends.gone(D:Ends)(i:Nat):Ends:=⟨fun σ H=>D.nx (σ.set i none) H,D.rt,fun σ H=>D.bk (σ.set i none) H,fun σ H=>D.ct (σ.set i none) H⟩
theorem KS.gone{i:Nat}{o:Out}(h:KS D B H₀ (oZ i o)):KS (D.gone i) B H₀ o:=by
 cases o with
 | nx e=>exact fun σ Hs H sr=>h _ Hs H sr.unset
 | bk e=>exact fun σ Hs H sr=>h _ Hs H sr.unset
 | ct e=>exact fun σ Hs H sr=>h _ Hs H sr.unset
 | rt p=>exact h
theorem oV{M:Model}{o:Obj}(hx:s.heap.get? ea=some o):PySem.W.Looks M s.heap (typeOf (.ref ea)) o.cls:=by
 intro A Q E s' k q;exact pC (k _ _ hx) q
theorem t9.run(hh:t9 X E hls hd):∀ {s:Shared},Inv X z0 σ (du Hc ea T C dd .none) s->Hc ea=some (cF C dd ea)->Hc T=none->T≠ea->SR B H₀ Hs Hc σ env->Rep Hs (.exc C fo) (.ref ea) ->
  ah (dO hd (C,fo) env) (KS D B H₀) Z->wpAny (model X.prog X.w) X.A (handleBy (.ref ea) X.env hls) (SP X z0 D) F s:=by
 induction hh with
 | nil=>intro s I h1 h2 h3 sr rp q;exact q.elim
 | @xS x np pos b₀ AG rest t h hs Dc hg hm hd ht hb r ih =>
  intro s I h1 h2 h3 sr rp q;obtain⟨vs,oT,ts,hx,_⟩:=I.jH h3;refine FL (Fv (e_ (I.hand ea) hg hm ?_ hd)) (λq=>nomatch q);have LT:=oV (M:=model X.prog X.w) hx;cases e:t C with
  | none=>simp only[dO,e,k8] at q;exact q.elim
  | some b =>
   refine(PySem.W.exm_one I.gx LT (ht C b e)).here ?_;cases b with
   | false =>
    simp only[dO,e,k8] at q;exact ih I h1 h2 h3 sr rp q
   | true =>
    simp only[dO,e,k8,lu] at q;refine codeAny_handlers_suite ((I.hand ea).eB (fr:=none) h3 λh' I2=>?_);refine CO (hb ea z0 _ σ Hc D (I2.p4 h1 h2 h3) ⟨B,H₀,Hs,env,sr,(ah.qH q).err⟩) (λf s' z=>z.c6 I.ok) λ_ _ z=>z.elim
 | @t5 x n i np pos b₀ AG rest t h hs Dc hg hm hd hN hi hxn ht hb r ih =>
  intro s I h1 h2 h3 sr rp q;obtain⟨vs,oT,ts,hx,_⟩:=I.jH h3;refine FL (Fv (e_ (I.hand ea) hg hm ?_ hd)) (λq=>nomatch q);have LT:=oV (M:=model X.prog X.w) hx;cases e:t C with
  | none=>simp only[dO,e,k8] at q;exact q.elim
  | some b =>
   refine(PySem.W.exm_one I.gx LT (ht C b e)).here ?_;cases b with
   | false =>
    simp only[dO,e,k8] at q;exact ih I h1 h2 h3 sr rp q
   | true =>
    simp only[dO,e,k8,lu] at q;refine codeAny_handlers_suite_as ((I.hand ea).eB (fr:=none) h3 λh' I2=>?_);refine ig (X:=X.hand ea) (v:=.ref ea) (i:=i) (I2.p4 h1 h2 h3) hN hi (.inl hxn) rfl (λs3 I3=>?_) (.inr hxn);refine CO (hb ea z0 _ _ Hc (D.gone i) I3 ⟨B,H₀,Hs,_,sr.set rp,(ah.qH (E:=Z) ?_).err⟩) (λf s' z=>?_) λ_ _ z=>z.elim
    .exact(ah.bind q).imp (λo z=>KS.gone z) λ_ z=>z
    .cases f with
     | next=>obtain⟨σ',H',I4,d⟩:=z;exact(I4.c6 I.ok).gone hN hi hxn λs5 I5=>⟨_,H',I5,d⟩
     | brk=>obtain⟨σ',H',I4,d⟩:=z;exact(I4.c6 I.ok).gone hN hi hxn λs5 I5=>⟨_,H',I5,d⟩
     | cont=>obtain⟨σ',H',I4,d⟩:=z;exact(I4.c6 I.ok).gone hN hi hxn λs5 I5=>⟨_,H',I5,d⟩
     | ret u=>obtain⟨v,σ',H',I4,rv,d⟩:=z;exact(I4.c6 I.ok).gone hN hi hxn λs5 I5=>⟨v,_,H',I5,rv,d⟩
theorem vO{h₀:ExceptHandler}{f:aa->M Out}(Af:X.stack=X.env::X.outer)(hf:X.env.frame=some X.env.locals)
  (hb:∀ (pn:List (Addr×Obj)) (E2:St->XK),ez ((X.gX pn).out E2) E2->gk ((X.gX pn).out E2) body (yV E2 f)) (hh:t9 X E (h₀::hls) hd):PS X (.Try body (h₀::hls) [] [] pos) (tS E (og f hd)):=by
 intro z0 s σ H D I q;obtain⟨B,H₀,Hs,env,sr,q⟩:=q;refine wpAny_Try_except ?_
 let E2:St->XK:=fun σ v _ Hc=>∃ Hs C fo ea,v=.ref ea/\SR B H₀ Hs Hc σ env/\Rep Hs (.exc C fo) (.ref ea)/\ah (dO hd (C,fo) env) (KS D B H₀) (XW E B H₀)
 have q1:ah (f env) (KS D B H₀) (XW (E2 σ) Hs H):=by
  unfold og at q;cases e:f env with
  | none=>rw[e] at q;exact q
  | some r =>
   rw[e] at q;cases r with
   | ok o=>exact q
   | error x=>exact λea z8 H' g rp=>⟨z8,x.1,x.2,ea,rfl,sr.grow g,rp,q⟩
 refine CO (hb (X.pn++z0) E2 (uf Af hf) [] s σ H D (I.gX.fX _) ⟨B,H₀,Hs,env,sr,q1⟩) (λfl s1 hq=>?_) (λe s1 z=>?_)
 .cases fl with
  | next=>obtain⟨σ',H',I',d⟩:=hq;exact Fl ⟨σ',H',I'.bg.iB,d⟩
  | brk=>obtain⟨σ',H',I',d⟩:=hq;exact⟨σ',H',I'.bg.iB,d⟩
  | cont=>obtain⟨σ',H',I',d⟩:=hq;exact⟨σ',H',I'.bg.iB,d⟩
  | ret u=>obtain⟨v,σ',H',I',r,d⟩:=hq;exact⟨v,σ',H',I'.bg.iB,r,d⟩
 .refine Zx.note (X:=X.gX (X.pn++z0)) z Af hf λs' ea C dd AQ σ' Hc T he I2 h1 h2 h3 h4=>?_;subst he;refine I2.eB (fr:=none) h3 λh' I3=>?_;obtain⟨z8,C',fo,ea',ee,AZ,rp,hp⟩:=h4;cases ee;have I4:=I3.p4 h1 h2 h3;have eC:C'=C:=by
   obtain⟨vs,hx⟩:=I4.gY h1;cases rp with
   | kU hr =>
    obtain⟨vs2,AD⟩:=I4.gY (AZ.gr.sub _ _ hr);rw[hx] at AD;injection AD with AD;injection AD with AD;injection AD with AD;exact AD.symm
   | nK hr _ _ =>
    obtain⟨vs2,AD⟩:=I4.gY (AZ.gr.sub _ _ hr);rw[hx] at AD;injection AD with AD;injection AD with AD;injection AD with AD;exact AD.symm
  subst eC;exact hh.run I3.iB h1 h2 h3 AZ rp hp
end
def kb(ys ns:List Addr)(C:Addr):Option Bool:=if ys.contains C=true then some true else if ns.contains C=true then some false else none
variable{ns:List Addr}
theorem h9{ys:List Addr}(h:kb ys ns C=some b):(b=true/\C∈ys)\/(b=false/\C∈ns):=by
 unfold kb at h
 by_cases h1:ys.contains C=true
 .rw[if_pos h1] at h;cases h;exact .inl ⟨rfl,by simpa using h1⟩
 .rw[if_neg h1] at h
  by_cases h2:ns.contains C=true
  .rw[if_pos h2] at h;cases h;exact .inr ⟨rfl,by simpa using h2⟩
  .rw[if_neg h2] at h;cases h
def nR(f:Addr->Option Bool)(ys ns:List Addr):Bool:=ys.all (λC=>f C==some true)&&ns.all λC=>f C==some false
theorem ll{f:Addr->Option Bool}{ys:List Addr}(h:nR f ys ns=true)(e:kb ys ns C=some b):f C=some b:=by
 unfold nR at h;rw[C5,CD,CD] at h;rcases h9 e with ⟨rfl,m⟩ | ⟨rfl,m⟩
 .exact eq_of_beq (h.1 C m)
 .exact eq_of_beq (h.2 C m)
structure yT (K:PySem.W.Frag) (mg:Str->Option Value) (x:Str) (D:Addr) (ys ns:List Addr):Prop where
 mg:mg x=some (.ref D)
 ok:∀ C b,kb ys ns C=some b->PySem.W.exmOne K (.ref C) (.ref D)=some b
theorem yT.of{K:PySem.W.Frag}{ys:List Addr}(h1:mg x=some (.ref D))(h2:nR (λC=>PySem.W.exmOne K (.ref C) (.ref D)) ys ns=true):yT K mg x D ys ns:=⟨h1,λ_ _ e=>ll h2 e⟩
theorem gK{p:α->Prop}:∀ x∈([]:List α),p x:=λ_ h=>nomatch h
theorem yX{p:α->Prop}{a:α}{l:List α}(h:p a)(r:∀ x∈l,p x):∀ x∈a::l,p x:=λx m=>by
 rcases CK.mp m with rfl | m
 .exact h
 .exact r x m
def pY:List String:=["NoneType", "bool", "int", "str", "tuple", "list", "dict"]
theorem qP{a:String}(h:t7 p=some a):a∈pY:=by
 cases p <;> first | (cases h;decide) | cases h
structure rg (K:PySem.W.Frag) (mg:Str->Option Value) (x:Str) (D:Addr) (ys ns yo no:List Addr):Prop where
 mg:mg x=some (.ref D)
 ty:∀ p a,t7 p=some a->PySem.W.kitOne K (.type a) (.ref D)=some false
 ob:∀ C b,kb yo no C=some b->lA K C/\PySem.W.kitOne K (.ref C) (.ref D)=some b
 oe:∀ C b,kb ys ns C=some b->fE K C/\PySem.W.kitOne K (.ref C) (.ref D)=some b
theorem rg.of{K:PySem.W.Frag}{ys yo no:List Addr}(h1:mg x=some (.ref D))(h2:(pY.all λa=>PySem.W.kitOne K (.type a) (.ref D)==some false)=true)
  (h3:nR (λC=>PySem.W.kitOne K (.ref C) (.ref D)) yo no=true) (h4:nR (λC=>PySem.W.kitOne K (.ref C) (.ref D)) ys ns=true) (o1:∀ C∈yo,lA K C) (o2:∀ C∈no,lA K C) (e1:∀ C∈ys,fE K C) (e2:∀ C∈ns,fE K C):rg K mg x D ys ns yo no where
 mg:=h1
 ty:=λp a h=>by
  rw[CD] at h2;exact eq_of_beq (h2 a (qP h))
 ob:=λC b h=>⟨by rcases h9 h with ⟨_,m⟩ | ⟨_,m⟩ <;> first | exact o1 C m | exact o2 C m,ll h3 h⟩
 oe:=λC b h=>⟨by rcases h9 h with ⟨_,m⟩ | ⟨_,m⟩ <;> first | exact e1 C m | exact e2 C m,ll h4 h⟩
section
variable{p px pt:Pos}{f:aa->M PV}{ys yo no:List Addr}
theorem rg.is(c:rg X.K X.mg x D ys ns yo no)(hg:Gl X "isinstance")(hm:X.mg "isinstance" = none)(hx:Gl X x)(he:PE X e (tE E f))(hd:autoParam ((x==("__debug__" : Str))=false) aD._auto_1)
  (h1:autoParam (starEach [e,.Name x pt] X.env=(false,eval e X.env)::starEach [.Name x pt] X.env) aR._auto_1) (h2:autoParam (starEach [.Name x pt] X.env=(false,eval (.Name x pt) X.env)::starEach [] X.env) aR._auto_1) (Aq:autoParam ((backTo pos (starEach [.Name x pt] X.env)).any (·.1)=false) aR._auto_1) :
  PE X (.Call (.Name "isinstance" p) [e,.Name x pt] [] pos) (tE E (kQ (λ_=>false) (kb yo no) (kb ys ns) f)) :=
 wt hg hm (gN hx c.mg rfl hd) c.ty c.ob c.oe he h1 h2 Aq
end
section
variable{o:Expr}{f g:aa->M PV}
end
section
open PySem PySem.Spec PyProof.Rows _root_.HT
section
variable{E:Value->Shared->Prop}
theorem eZ{t sl:Addr}{vl vu:Value}{lo hi:Option Int}(ht:IsTup s.heap t z6)(hs:s.heap.IsSliceOf sl vl vu .none)(pl:IsPart vl lo)(pu:IsPart vu hi)
  (hw:bC z6.size 0 lo=0/\bC z6.size z6.size hi=z6.size) (h:Q (.ref t) s):wpAny (model prog w) A (getItem (.ref t) (.ref sl)) Q E s:=by
 obtain⟨os,BF,Bq,BD⟩:=id hs;have hTs:s.TypeIs (.ref sl) "slice" := ⟨os,BF,Bq⟩
 unfold getItem
 try with_reducible refine Df ?_
 first | refine Ck (Cp ?_) | skip
 refine Ck (F2 ht.typeIs (by decide) ?_);refine Ck (De (name:=Cn "__getitem__") ht.typeIs C0
  (DK C0 ht.typeIs FH ?_ (FT _ _)))
 show wpAny _ _ (ES (.ref t) >>= _) _ _ s;refine Ck (tupleItemsOf_ ht ?_);refine Ck (F3 hTs ?_);rw[if_pos (by decide)];refine Ck (de hs pl pu ?_);have hyes:(((bC z6.size 0 lo:Nat):Int)==0&&(1:Int)==1&&(bC z6.size z6.size hi-bC z6.size 0 lo)==z6.size)=true:=by
  rw[hw.1,hw.2];simp
 show wpAny _ _ (if (((bC z6.size 0 lo:Nat):Int)==0&&(1:Int)==1&&(bC z6.size z6.size hi-bC z6.size 0 lo)==z6.size)=true then _ else _) _ _ s;rw[if_pos hyes];unfold Builtin.Tuple.tupleIsExact;refine Ck (Ck (F3 ht.typeIs (Cp ?_)));rw[if_pos (show ((DM "tuple" == DM "tuple")=true) from beq_self_eq_true _)];refine Ck (FU ?_)
 first
  | exact Ck (Cp (Cp ⟨_,rfl,Cp h⟩))
  | exact Ck (Cp ⟨_,rfl,Cp h⟩)
  | exact Cp ⟨_,rfl,Cp h⟩
end
section
variable{lo hi:Option Expr}{p2:Pos}{f:aa->M PV}{gl gh:aa->M (Option Int)}
def yS(K:PySem.W.Frag):V->Option Int->Option Int->Hp->VK->Prop:=λx lo hi H Q=>∃ a xs,x=.ref a/\dg K H a xs/\(bC xs.length 0 lo=0/\bC xs.length xs.length hi=xs.length)/\Q (.ref a) H
theorem rj:nU X (yS X.K):=by
 intro z0 s σ H x v vl vu lo hi sl Q I rx hs pl pu h;obtain⟨a,xs,rfl,hx,hw,q⟩:=h;cases rx;obtain⟨z7,r,ht,hz⟩:=I.tuple hx;have hlen:z7.toArray.size=xs.length:=by rw[Ct];exact r.length.symm
 refine⟨"tuple", _,C0.lookup,ht.typeIs,?_⟩;exact eZ ht hs pl pu (by rw[hlen];exact hw) ⟨.ref a,H,I,rfl,q⟩
def yt(p:PV)(lo hi:Option Int):M PV:=match p with
 | .tup xs=>M.ok (.tup (iE xs lo hi))
 | .lst xs=>M.ok (.lst (iE xs lo hi))
 | .dD xs=>M.ok (.lst (iE xs lo hi))
 | _=>none
def kR(f:aa->M PV)(lo hi:aa->M (Option Int)):aa->M PV:=λenv=>(f env).bind λp=>(lo env).bind λl=>(hi env).bind λh=>yt p l h
theorem mS(he:PE X e (tE E f))(hl:PO X lo (wR E gl))(hh:PO X hi (wR E gh)):PE X (.Subscript e (.Slice lo hi none p2) pos) (tE E (kR f gl gh)):=by
 refine(j8 (nU.or ve (nU.or rj r8)) he hl hh).imp fun σ H Q q=>aQ (K:=eg Q) eg.g q λB H₀ Hs H1 env p v sr rp hp=>?_;refine⟨B,H₀,Hs,env,sr,(ah.bind hp).imp (λl hl Aa H2 g2=>?_) λe he=>he⟩;have Ai:=sr.grow g2;refine⟨B,H₀,Aa,env,Ai,(ah.bind hl).imp (λh hh Az H3 g3=>?_) λe he=>he.grow g2⟩;have AS:=Ai.grow g3;have hz:ah (yt p l h) (bb Az H3 Q) (λ_=>True):=hh.imp (λz hz w BQ H4 g4 r=>hz w BQ H4 ((g2.trans g3).trans g4) r) λ_ _=>trivial;have rp3:=(rp.mono g2.st).mono g3.st;cases rp3 with
 | @tup a xs vs ha hx =>
  by_cases hn:bC xs.length 0 l=0/\bC xs.length xs.length h=xs.length
  .refine .inr (.inl ⟨_,_,rfl,dg.of (AS.gr.sub _ _ ha),by rw[<- hx.length];exact hn,?_⟩);have e:iE xs l h=xs:=by
    unfold iE;rw[hn.1,hn.2,Gv,Nat.sub_zero,List.take_length]
   have Bv:bb Az H3 Q (.tup xs):=by
    have z:bb Az H3 Q (.tup (iE xs l h)):=hz;rw[e] at z;exact z
   exact bb.flat Bv AS.gr.sub (.tup ha hx)
  .exact .inl ⟨_,_,rfl,dg.of (AS.gr.sub _ _ ha),by rw[<- hx.length];exact hn,bb.tup hz AS.gr.sub (hx.cut l h)⟩
 | lst ha hx=>exact .inr (.inr ⟨_,_,rfl,dF.of (AS.gr.sub _ _ ha),bb.lst hz AS.gr.sub (hx.cut l h)⟩)
 | dD ha hx=>exact .inr (.inr ⟨_,_,rfl,.inl (.inr ⟨_,AS.gr.sub _ _ ha⟩),bb.lst hz AS.gr.sub (hx.cut l h)⟩)
 | _=>exact hz.elim
end
end
section
variable{o:Expr}{g:aa->M PV}{fs:aa->M (List PV)}{L:List (Addr×(List PV->M PV))}{K:PySem.W.Frag}
end
section
open PySem.SeqAt (shaped EqAt RcAt RcNeAt)
section
variable{b:Addr}
end
end
end L2
namespace HT
open PySem PyProof.Rows
variable{E:Value->Shared->Prop}{A:Around}{w:World}{prog:Program}
section
variable{a b v:Value}{k:Bool}{I S ax:Addr}{t:Shared}{n:Nat}{R:Result->Shared->Prop}
end
section
open PySem.SeqAt
open PySem.AutoSeq1 (wpAny_loadPart')
open PySem.MeetsSeq PySem.MeetsSeq2 PySem.MeetsSeq3
end
section
variable{s:Shared}
end
end HT
namespace L2
open PySem PySem.Spec PyProof.Rows
variable{E:St->XK}{X:Cx}
variable{js:List Nat}{ts:List Str}{wi:TI}{pos:Pos}{scope:Scope}{tg:Expr}
variable{y:Str}{i:Nat}
section
variable{elt iter c:Expr}{cl:List (Str×Addr)}{it:aa->M (List PV)}{g:TG}{set:PV->aa->M aa}{f:aa->M PV}{fs:List Str}
variable{E:XK}{py A3:Pos}
end
section
variable{elt iter c:Expr}{cl:List (Str×Addr)}{it:aa->M (List PV)}{g:TG}{set:PV->aa->M aa}{f:aa->M PV}{u:aa->M Bool}{fs:List Str}
variable{E:XK}{py A3:Pos}
end
section
variable{o:Expr}{f:aa->M PV}{apos Ac:Pos}
end
variable{A:Around}{k:Nat}
theorem bW.zC(r:bW k A):A.units+65<cLine:=by have:=r.un;lia
variable{s:Shared}
section
open PySem.SeqAt (shaped)
def wU(s:Shared)(d:PyData)(w:Value):Bool:=@decide (∃ d' as,Reads s.heap w d' as/\d'.canLay0=true/\DY d' d=true) (Eg _)
theorem nW{d d':PyData}{w:Value}{as:List Addr}(r:Reads s.heap w d' as)(h:d'.canLay0=true):wU s d w=DY d' d:=by
 unfold wU;cases e:DY d' d with
 | true=>exact @decide_eq_true _ (Eg _) ⟨d',as,r,h,e⟩
 | false =>
  refine @decide_eq_false _ (Eg _) ?_;rintro⟨d2,as2,r2,h2,e2⟩;rw[SeqAt.Reads.unique d' d2 w as as2 h r r2,e2] at e;cases e
def yh(K:PySem.W.Frag):R2:=λx y H Q=>∃ Hs p ps vs a d ds,aO Hs H/\Rep Hs p x/\y=.ref a/\dF K H a vs/\aw Hs ps vs/\dat p=some d/\dN ps=some ds/\shaped d=true/\ds.all shaped=true/\Q (.bl (ds.any λe=>DY e d)) H
theorem mx{z0:List (Addr×Obj)}{σ:St}{H Hs:Hp}{s:Shared}(I:Inv X z0 σ H s)(sm:aO Hs H){d:PyData}:∀ {ps:List PV} {vs:List V} {us:List Value} {ds:List PyData},aw Hs ps vs->Vals vs us->dN ps=some ds->ds.all shaped=true->us.any (wU s d)=(ds.any λe=>DY e d)/\∀ w∈us,∃ d' as,Reads s.heap w d' as/\shaped d'=true
 | [],_,_,_,.nil,.nil,e,_=>by cases e;exact⟨rfl,by simp⟩
 | p::r,_,_,_,.cons h t,.cons h2 t2,e,hs=>by
  obtain⟨d1,e1,e2⟩:=Ef.mp e;obtain⟨ds,e3,rfl⟩:=CI.mp e2;obtain⟨as,rd⟩:=Rep.reads I sm h h2 e1;rw[Ew,C5] at hs;obtain⟨a,b⟩:=mx I sm t t2 e3 hs.2;refine⟨by rw[E4,E4,a,nW rd (DQ hs.1)],λw hw=>?_⟩;rcases CK.mp hw with rfl | hw
  .exact⟨_,_,rd,hs.1⟩
  .exact b w hw
theorem u5(hu:X.A.units+65<cLine):cR X (compareOp .In) (yh X.K):=by
 intro z0 s σ H x y v u Q I rx ry h;obtain⟨Hs,p,ps,vs,a,d,ds,sm,rp,rfl,hq,rl,hd,BD,h1,h2,q⟩:=h;cases ry;obtain⟨z7,r,pl,hz⟩:=I.list hq;obtain⟨as,rv⟩:=Rep.reads I sm rp rx hd;obtain⟨e1,e2⟩:=mx (d:=d) I sm rl r BD h2;refine SeqAt.in_listAt (wU s d) pl.isList (λw hw=>?_) ⟨.bl _,H,I,rfl,?_⟩
 .obtain⟨d',as',rd,hs⟩:=e2 w (by simpa using hw);rw[nW rd (DQ hs)];exact SeqAt.eqAt_reads d' d _ _ _ _ _ _ rd rv (DQ hs) (DQ h1) (SeqAt.room_of_shaped hs (show X.A.units+1+64<cLine by lia))
 .rw[show z7.toArray.any (wU s d)=z7.any (wU s d) by simp,e1];exact q
def inD(p q:PV):M PV:=match dat p,q with
 | some d,.lst ps=>(match dN ps with
  | some ds=>bB (shaped d=true/\ds.all shaped=true) (M.ok (.bl (ds.any λe=>DY e d)))
  | none=>none)
 | _,_=>none
theorem u3{K:PySem.W.Frag}:eQ E (yh K) inD:=by
 intro σ Hs H p q v u Q s rp rq h;unfold inD at h
 split at h
 .rename_i d ps e1
  split at h
  .rename_i ds e2;obtain⟨⟨h1,h2⟩,h⟩:=ah.bB h;cases rq with
   | lst ha hx=>exact⟨Hs,p,ps,_,_,d,ds,s,rp,rfl,dF.of (s _ _ ha),hx,e1,e2,h1,h2,bb.flat h s (.bl _)⟩
  .exact h.elim
 .exact h.elim
end
variable{H:Hp}{σ:St}{z0:List (Addr×Obj)}
variable{Q:Unit->Shared->Prop}{dd:Option Addr}{Hc:Hp}{L:Addr}{Ae:List Env}
theorem Inv.t4{a_:Env}{e C:Addr}{to:Option Addr}{vs:Array Value}{φ:Heap->Prop}{E:Value->Shared->Prop}(I:Inv X z0 σ H s)(Af:X.stack=a_::Ae)(hf:a_.frame=some L)
  (he:H e=some (.ext φ)) (hx:s.heap.get? e=some ⟨.ref C,dd,.fields vs,#[]⟩) (lies:Lies s.heap e vs to) (hT:∀ T,to=some T->(∃ ψ,H T=some (.ext ψ))/\Hc T=none) (hc:∀ b,b≠e->(∀ T,to=some T->b≠T)->Hc b=H b)
  (h:∀ h' T,Hc T=none->T≠e->Inv X z0 σ (du Hc e T C dd (rawInt L)) { s with heap:=h' }->Q () { s with heap:=h' }) :
  wpAny (model X.prog X.w) X.A (noteFrame (.ref e) a_) Q E s:=by
 have hl:=I.stack;have A6:=I.ok.frames;have sf:=I.eU;rw[Af] at hl A6 sf;refine iP (base:=X.base) A6 hl hf hx rfl lies λh' T oT ts a1 a2 a3 a4 a5 a6 a7 a8 a9=>?_;have BY:H T=none:=I.aJ.fresh a2;have nT:∀ b u,H b=some u->b≠T:=λb u q z=>by rw[z,BY] at q;cases q
 have AA:∀ b u,H b=some u->(∀ ψ,u≠.ext ψ)->b≠e/\∀ T0,to=some T0->b≠T0:=by
  intro b u q hu;refine⟨λz=>?_,λT0 z w=>?_⟩
  .rw[z,he] at q;exact hu _ (CG q).symm
  .obtain⟨⟨ψ,q2⟩,_⟩:=hT T0 z;rw[w,q2] at q;exact hu _ (CG q).symm
 have old:∀ b u,H b=some u->(∀ ψ,u≠.ext ψ)->du Hc e T C dd (rawInt L) b=some u:=λb u q hu=>by
  obtain⟨n1,n2⟩:=AA b u q hu;rw[cq n1 (nT b u q),hc b n1 n2];exact q
 have Bu:Hc T=none:=by
  by_cases z:∃ T0,to=some T0/\T=T0
  .obtain⟨T0,z1,z2⟩:=z;rw[z2];exact(hT T0 z1).2
  .rw[hc T a3 λT0 z1 z2=>z ⟨T0,z1,z2⟩];exact BY
 have un:∀ b o,s.heap.get? b=some o->H b=none->b≠e/\(∀ T0,to=some T0->b≠T0)/\b≠T:=by
  intro b o q n;refine⟨λz=>?_,λT0 z w=>?_,CC (Cr (Cq q) a2)⟩
  .rw[z,he] at n;cases n
  .obtain⟨⟨ψ,q2⟩,_⟩:=hT T0 z;rw[w,q2] at n;cases n
 refine h h' T Bu a3 ?_;have U:Un (j1 X.stack) [] H (du Hc e T C dd (rawInt L)) s.heap h':=by
  rw[Af];refine⟨λb o q n nf _=>?_,λb o q n _ _=>?_,λb o q n _=>?_,λb o q _=>a9 b o q,λb xs q=>old b _ q (λ_ z=>nomatch z),λb ob u q=>old b _ q (λ_ z=>nomatch z),λb ps q=>⟨#[],?_⟩⟩
  .obtain⟨n1,n2,_⟩:=un b o q n;exact a7 b o n1 n2 nf q
  .obtain⟨n1,n2,_⟩:=un b o q n;exact a8 b o n1 n2 q
  .obtain⟨n1,n2,n3⟩:=un b o q n;rw[cq n1 n3,hc b n1 n2];exact n
  .rw[old b _ q (λ_ z=>nomatch z)];simp
 have ok:fJ X.prog X.w (du Hc e T C dd (rawInt L)) h':=λb u q=>by
  by_cases z:b=e
  .subst z;rw[fc] at q;cases q;refine⟨⟨_,a1,?_⟩,⟨_,a1⟩,λh1 h2 ⟨ws,q1,q2⟩ k=>⟨ws,k _ q1,q2⟩⟩;have A1:1<vs.size:=by
    cases to with
    | none=>exact(CY.mp (show vs[1]?=some .none from lies)).1
    | some T0=>exact(CY.mp lies.1).1
   simp[A1]
  .by_cases z2:b=T
   .subst z2;rw[eT a3] at q;cases q;exact⟨⟨oT,ts,a4,a5,a6⟩,⟨_,a4⟩,λh1 h2 ⟨o1,t1,q1,q2,q3⟩ k=>⟨o1,t1,k _ q1,q2,q3⟩⟩
   .rw[cq z z2] at q;have z3:∀ T0,to=some T0->b≠T0:=λT0 w w2=>by rw[w2,(hT T0 w).2] at q;cases q
    rw[hc b z z3] at q;have nf:∀ c u',H c=some u'->c ∉ j1 (a_::Ae):=λc u' q' hm=>by have:=sf c hm;rw[q'] at this;cases this
    refine(I.aJ b u q).fD (λc v Bc q'=>?_) (λc q'=>old c _ q' (λ_ z=>nomatch z)) λc xs q'=>old c _ q' (λ_ z=>nomatch z);rcases Bc with rfl | Bc
    .exact a7 c v z z3 (nf c u q) q'
    .obtain⟨n1,n2⟩:=AA c _ Bc (λ_ z=>nomatch z);exact a7 c v n1 n2 (nf c _ Bc) q'
 exact I.call (ch:=[]) U ok I.bare (λb z=>absurd z (by simp))
theorem Inv.uL{a_:Env}{e T C:Addr}{fl:Value}{E:Value->Shared->Prop}(I:Inv X z0 σ (du Hc e T C dd fl) s)(hfl:fl=.none\/fl=rawInt L)(n:T≠e)(Bu:Hc T=none)(Af:X.stack=a_::Ae)(hf:a_.frame=some L)
  (h:∀ h' T,Hc T=none->T≠e->Inv X z0 σ (du Hc e T C dd (rawInt L)) { s with heap:=h' }->Q () { s with heap:=h' }) :
  wpAny (model X.prog X.w) X.A (noteFrame (.ref e) a_) Q E s:=by
 obtain⟨vs,oT,ts,hx,h1,hT,hd,h3⟩:=I.jH n;rcases hfl with rfl | rfl
 .refine I.t4 (Hc:=Hc) (to:=some T) Af hf fc hx ⟨h1,n,oT,ts,hT,hd,h3⟩ (λT0 z=>?_) (λb n1 n2=>(cq n1 (n2 T rfl)).symm) h;cases z;exact⟨⟨_,eT n⟩,Bu⟩
 .unfold noteFrame;simp only[hf];refine Ck (CM hx rfl h1 ?_);rw[if_pos (show (CA T != CV)=true from by simp)];refine Ck (CM hT hd h3 ?_);rw[if_pos (show (rawInt L==rawInt L)=true from by simp)];exact Cp (h s.heap T Bu n I)
theorem Inv.uV{a_:Env}{e C:Addr}{E:Value->Shared->Prop}(I:Inv X z0 σ H s)(he:H e=some (jy C dd e))(Af:X.stack=a_::Ae)(hf:a_.frame=some L)
  (h:∀ h' T,upd H e (cF C dd e) T=none->T≠e->Inv X z0 σ (du (upd H e (cF C dd e)) e T C dd (rawInt L)) { s with heap:=h' }->Q () { s with heap:=h' }) :
  wpAny (model X.prog X.w) X.A (noteFrame (.ref e) a_) Q E s:=by
 obtain⟨t,hx⟩:=(I.aJ e _ he).1;exact I.t4 (Hc:=upd H e (cF C dd e)) (to:=none) Af hf he hx rfl (λ_ z=>by cases z) (λb n1 _=>ai n1) h
variable{e:Value}
theorem k4{env a_:Env}(h:env.frame=a_.frame):noteFrame e env=noteFrame e a_:=by
 unfold noteFrame PySem.frameOf;rw[h]
def ZL (X : Cx) (L : Addr) (E : XK) (e : Value) (s : Shared) : Prop := ∃ (ea C : Addr) (dd : Option Addr) (z0 : List (Addr × Obj)) (σ : St), e = .ref ea ∧
  ((∃ H, Inv X z0 σ H s /\ H ea = some (jy C dd ea) /\ E (.ref ea) none (upd H ea (cF C dd ea))) ∨
   (∃ Hc T fl, Inv X z0 σ (du Hc ea T C dd fl) s /\ (fl = .none \/ fl = rawInt L) /\ Hc ea = some (cF C dd ea) /\ Hc T = none /\ T ≠ ea /\ E (.ref ea) none Hc))
theorem ZL.note{E:XK}{a_:Env}{F:Value->Shared->Prop}(z:ZL X L E e s)(Af:X.stack=a_::Ae)(hf:a_.frame=some L)(hx:X.env.frame=a_.frame)
  (h:∀ s' ea C dd z0 σ Hc T,e=.ref ea->Inv X z0 σ (du Hc ea T C dd (rawInt L)) s'->Hc ea=some (cF C dd ea)->Hc T=none->T≠ea->E (.ref ea) none Hc->Q () s') :
  wpAny (model X.prog X.w) X.A (noteFrame e X.env) Q F s:=by
 rw[k4 hx];obtain⟨ea,C,dd,z0,σ,rfl,⟨H,I,h1,h2⟩ | ⟨Hc,T,fl,I,h1,h2,h3,h4,h5⟩⟩:=z
 .exact I.uV h1 Af hf λh' T q1 q2 I2=>h _ ea C dd z0 σ _ T rfl I2 au q1 q2 h2
 .exact I.uL h1 h4 h3 Af hf λh' T q1 q2 I2=>h _ ea C dd z0 σ _ T rfl I2 h2 q1 q2 h5
theorem xw{E:XK}{a_:Env}(Af:X.stack=a_::Ae)(hf:a_.frame=some L)(hx:X.env.frame=a_.frame):ez (X.fX (ZL X L E)) (λ_=>E) where
 pass:=by
  intro z0 σ H s e s' I h;obtain⟨ea,T,C,dd,Hc,rfl,os,bare,un,aJ,h1,h2,h3,hE⟩:=h;have I':=I.bg.i9 (ch:=[]) os un aJ bare (λb z=>absurd z (by simp));exact⟨ea,C,dd,z0,σ,rfl,.inr ⟨Hc,T,.none,I',.inl rfl,h1,h2,h3,hE⟩⟩
 new:=λz0 σ H s e C dd I he hE=>⟨e,C,dd,z0,σ,rfl,.inl ⟨H,I.bg,he,hE⟩⟩
 own:=by
  intro e s z;have z:ZL X L E e s:=z;show wpAny (model X.prog X.w) X.A (noteFrame e X.env) _ _ s;refine z.note Af hf hx λs' ea C dd z0 σ Hc T he I h1 h2 h3 h4=>?_;subst he;obtain⟨vs,oT,ts,hx',q1,_⟩:=I.jH h3;show wpAny _ _ _ _ _ _;refine Ck (CM hx' rfl q1 ?_);rw[if_neg (show ¬ ((CA T==CV)=true) from by simp)];show wpAny _ _ (setFlight (.ref ea) X.env.frame) _ _ _;rw[hx,hf];refine I.eB h3 λh' I2=>⟨ea,C,dd,z0,σ,rfl,.inr ⟨Hc,T,_,I2,.inr rfl,h1,h2,h3,h4⟩⟩
variable{w:World}{prog:Program}
variable{ifs:List Expr}
section
variable{R:Result->Shared->Prop}
theorem lH{elt target iter:Expr}{it acc:Value}{env:Env}(I:Nat->Shared->Prop)
  (turn:∀ n s,I n s->wpAny (model prog w) A (pyNext it) (λr s₁=>match r with
   | none=>R (.ok .next) s₁
   | some v=>wpAny (model prog w) A (letOwnedTupleGo target it v) (λ_ s₂=>wpAny (model prog w) A (assign target env v) (λ_ s₃ =>
     wpAny (model prog w) A (forIn ifs true λc r=>if r=true then do let ok <- isTrue c env (eval c env);pure (EG ok) else pure (EG r)) (λok s₄ =>
      if ok=true then wpAny (model prog w) A (eval elt env) (λx s₅ =>
       wpAny (model prog w) A (call (.builtin "list.append") [acc,x]) (λ_ s₆=>∃ m,m<n/\I m s₆) (notedBy (model prog w) A env λx s'=>R (.error x) s') s₅) (notedBy (model prog w) A env λx s'=>R (.error x) s') s₄
      else ∃ m,m<n/\I m s₄) (notedBy (model prog w) A env λx s'=>R (.error x) s') s₃) (notedBy (model prog w) A env λx s'=>R (.error x) s') s₂) (notedBy (model prog w) A env λx s'=>R (.error x) s') s₁) (notedBy (model prog w) A env λx s'=>R (.error x) s') s)
  (n:Nat) (h:I n s) :
  codeAny (model prog w) A (.compLoop (.ListComp elt [⟨target,iter,ifs,0⟩] scope pos) 0 it acc env) R s:=by
 refine codeAny_loop rfl I (λn s hI=>?_) n h;show wpAny _ A ((compTurn (.ListComp elt [⟨target,iter,ifs,0⟩] scope pos) 0 it acc env).onRaise (λx=>do noteFrame x env;theTreesLotGoes x)) _ _ s;refine wpAny_noted ?_;rw[compTurn_list];refine Ck (D9 (Ck (CO (turn n s hI) (λr s₁ h₁=>?_) λ_ _ h'=>h')));cases r with
 | none=>exact Cp h₁
 | some v =>
  refine Ck (CO h₁ (λ_ s₂ h₂=>Ck (CO h₂ (λ_ s₃ h₃=>Ck (CO h₃ (λok s₄ h₄=>?_) λ_ _ h'=>h')) λ_ _ h'=>h')) λ_ _ h'=>h');cases ok with
  | false=>exact Cp ⟨rfl,h₄⟩
  | true =>
   exact Ck (Ck (CO h₄ (λx s₅ h₅=>Ck (CO h₅ (λ_ s₆ h₆=>Cp (Cp ⟨rfl,h₆⟩)) λ_ _ h'=>h')) λ_ _ h'=>h'))
end
def fu(M:Model)(A:Around)(E:Value->Shared->Prop)(Q:Value->Shared->Prop)(acc:Value)(cenv:Env)(r:Result)(s':Shared):Prop:=match r with
 | .ok _=>∃ m,s'.heap.Ns cenv.locals m/\∀ h',D0 cenv.locals s'.heap h'->Q acc { s' with heap:=h' }
 | .error x=>∃ m,s'.heap.Ns cenv.locals m/\∀ h',D0 cenv.locals s'.heap h'->wpAny M A (passOn "comprehension.variables-let-go" x cenv:Sem Value) (λ_ _=>False) E { s' with heap:=h' }
theorem k9{M:Model}{E:Value->Shared->Prop}{env:Env}{e:Expr}{Bn first:Sem Value}{g:Comprehension}{gs:List Comprehension}{cl:List (Str×Addr)}{Q:Value->Shared->Prop}
  (hcl:clausesOf e=g::gs) (hs:∀ x,foldedSetIterable g.iter env x=pure x) (Ab:closureFor scope env=pure cl)
  (hk:scope.kind=.function) (hn:∀ x∈scope.names,x.2=.local->scope.names.lookup x.1=some .local)
  (h:wpAny M A first (λx s₁=>wpAny M A (pyIter x) (λit s₂=>wpAny M A Bn (λacc s₃ =>
   wpAny M A (newFunctionEnv scope env.globals cl [] env.qual none .none (some env)) (λcenv s₄ =>
    codeAny M A (.compStart e 0 it acc { cenv with scope:=relabel scope env }) (fu M A E Q acc { cenv with scope:=relabel scope env }) s₄) E s₃) E s₂) E s₁) E s) :
  wpAny M A (comprehension e scope env pos Bn false first none) Q E s:=by
 unfold comprehension;rw[Ab,hcl];refine Ck (CO h (λx s₁ h₁=>Ck (D9 (Ck (Ge (hs x) (Ck (Df (CO h₁ (λit s₂ h₂ =>
  wpAny_standIf (Ck (CO h₂ (λacc s₃ h₃=>Ck (Cp (Ck (CO h₃ (λcenv s₄ h₄=>?_) λ_ _ q=>q)))) λ_ _ q=>q)))
   λ_ _ q=>q))))))) λ_ _ q=>q)
 dsimp only;have hv:∀ x∈(scope.names.filter λx=>(x.2==.local||x.2==.cell)&&x.1 != (".0" : Str)).reverse,x.2=.local ->
   Env.kindOf { cenv with scope:=relabel scope env } x.1=some .local:=λx hx hl=>lookup_relabel_local (hn x (EC.mp (List.mem_reverse.mp hx)).1 hl)
 refine Df (Ck (Ey (Df (wpAny_run (Fd h₄ λr s' hr=>?_)))));cases r with
 | ok f =>
  obtain⟨m,q,hr⟩:=hr;exact Ck (Df (wpAny_comp_letGo (cenv:={ cenv with scope:=relabel scope env }) hk _ s' m hv q λh' m' _ Bl=>Cp (hr h' Bl)))
 | error x =>
  obtain⟨m,q,hr⟩:=hr;exact Ck (Df (wpAny_comp_letGo (cenv:={ cenv with scope:=relabel scope env }) hk _ s' m hv q λh' m' _ Bl=>CO (hr h' Bl) (λ_ _ f=>f.elim) λ_ _ y=>y))
abbrev uP(X:Cx)(Ex:XK)(scope:Scope)(cl:List (Str×Addr))(N:List Str)(C:Addr)(s₀:Shared)(H₀:Hp)(ex:List Addr)(z0:List (Addr×Obj)):Cx:=(gm X scope cl N C s₀ H₀ ex z0).fX (ZL (gm X scope cl N C s₀ H₀ ex z0) X.env.locals Ex)
theorem nt{Ex:XK}{elt iter:Expr}{cl:List (Str×Addr)}{Ac:Pos}{g:TG}{tt:Option TT}{te:TE}{fs:List Str}(z9:X.calm=true)(Af:X.stack=X.env::Ae)(hf:X.env.frame=some X.env.locals)
  (Ab:closureFor scope X.env=pure cl) (hk:scope.kind=.function) (nc:b_ scope.names=true) (lo:cw scope.names=true) (fh:cv cl scope.names=true) (ag:bJ X cl) (fr:cA X scope cl fs js)
  (hi:PI X tg iter wi) (hg:∀ C s₀ H₀ ex z0,PG (uP X Ex scope cl (ts++fs) C s₀ H₀ ex z0) tg g)
  (ht:∀ C s₀ H₀ ex z0,match ifs,tt with | [],none=>True | [c],some t=>PT (uP X Ex scope cl (ts++fs) C s₀ H₀ ex z0) c t | _,_=>False)
  (he:∀ C s₀ H₀ ex z0,PE (uP X Ex scope cl (ts++fs) C s₀ H₀ ex z0) elt te)
  (hs:∀ x,foldedSetIterable iter X.env x=pure x) {Q:VK} (I:Inv X z0 σ H s) (h:mm wi g tt te ts js σ H Q)
  (Qv:Value->Shared->Prop)
  (qc:∀ (D:Addr) (H':Hp) (s':Shared) (C:Addr),Inv X z0 σ H' s'->Q (.ref D) H'->(∃ m,s'.heap.Ns C m)->eJ X z0 H' C->fu (model X.prog X.w) X.A X.xe Qv (.ref D) (compEnvC scope cl C X.env) (.ok .next) s')
  (hout:∀ (ea T:Addr) (Cc:Addr) (dd:Option Addr) (Hc:Hp) (s':Shared),Inv X z0 σ (du Hc ea T Cc dd (rawInt X.env.locals)) s'->Hc ea=some (cF Cc dd ea)->Hc T=none->T≠ea->Ex (.ref ea) none Hc->X.xe (.ref ea) s') :
  wpAny (model X.prog X.w) X.A (comprehension (.ListComp elt [⟨tg,iter,ifs,0⟩] scope pos) scope X.env Ac (newList []) false (eval iter X.env) none) Qv X.xe s:=by
 have AM:∀ y∈scope.names,y.2≠.cell:=λy hy=>by
  have:=CD.mp nc y hy;simpa using this
 have A0:∀ y∈scope.names,y.2=.local->scope.names.lookup y.1=some .local:=λy hy hl=>by
  have:=CD.mp lo y hy;rw[hl] at this;simpa using this
 refine k9 rfl hs Ab hk A0 (bM (hi z0 s σ H _ I h) λv s1 h1=>bM h1 λitv s2 h2=>?_);obtain⟨it,fp,tn,J,H1,e,I2,T,Br,f2,hJ⟩:=h2;subst e;refine C8 (Fy AM (by intro y hy;simp at hy) (λh₁ hns1 hsb1=>?_) hk);dsimp only at hns1 hsb1 ⊢;generalize hH2:s2.heap.push { cls:=.type "list", dict:=none,data:=.seq ([]:List Value).toArray }=G at hns1 hsb1 ⊢;have hC:G.objs.size=s2.heap.objs.size+1:=by rw[<- hH2,Du]
 have old:∀ b o,s2.heap.get? b=some o->h₁.get? b=some o:=λb o e=>by
  have hb:=Cq e;refine hsb1.extBut b o (CC (Cr hb (DZ (by rw[hC];exact Dk _)))) (Cm _ ?_);rw[<- hH2];exact Cm _ e
 have BA:h₁.get? s2.heap.objs.size=some { cls:=.type "list", dict:=none,data:=.seq #[] }:=by
  refine hsb1.extBut _ _ (CC (by rw[hC];exact Dk _)) (Cm _ ?_);rw[<- hH2];exact Cy _ rfl
 have nD:H1 s2.heap.objs.size=none:=I2.aJ.fresh (Cs _);have nC:H1 G.objs.size=none:=I2.aJ.fresh (by lia);obtain⟨W,⟨m0,w0⟩,turn⟩:=hJ _ nD;have Bj:∀ b∈fp,b<s2.heap.objs.size:=λb hb=>by
  obtain⟨o,e,_⟩:=T.obj _ _ Br b hb;exact Cq e
 have Cf:∀ (x:Str) (c:Addr),cl.lookup x=some c->c<s2.heap.objs.size/\H1 c=none/\(∃ v,s2.heap.IsCell c v):=λx c e=>by
  have e':=ag.at x c e;obtain⟨v,q⟩:=I2.cell x c e';exact⟨q.lt,I2.cC x c e',v,q⟩
 let X':=uP X Ex scope cl (ts++fs) G.objs.size s2 H1 fp z0
 have BH:X'.Ok:=by
  refine⟨I2.ok.mod,hk,I2.ok.glob,I2.ok.blt,by show s2.heap.objs.size<=G.objs.size;lia,λx y c e1 e2=>I2.ok.inj x y c (ag.at x c e1) (ag.at y c e2),λx hx=>?_,λx c hf _=>(nomatch (show (false:Bool)=true from hf)),I2.ok.hd,I2.ok.frames,.inl rfl,λb hb=>⟨?_,λx c e z=>?_⟩,λb o e=>I2.bs b o e,CN I2.ok.pH I2.sz,λb o e hb=>?_,λb hb hz=>?_,I2.stack,λb hb=>I2.eU b hb⟩
  .have AO:=dH (env:=X.env) hx nc;have hm:∃ y∈scope.names,y.1=x/\y.2=.free:=by
    have:∀ (l:List (Str×NameKind)),l.lookup x=some .free->∃ y∈l,y.1=x/\y.2=.free:=by
     intro l
     induction l with
     | nil=>intro h;simp at h
     | cons p r ih =>
      intro h;rw[C6] at h;cases q:x==p.1 with
      | true =>
       rw[q] at h;exact⟨p,Cz,(by simpa using q:x=p.1).symm,CG h⟩
      | false =>
       rw[q] at h;obtain⟨y,hy,r1,r2⟩:=ih h;exact⟨y,CB _ hy,r1,r2⟩
    exact this _ AO
   obtain⟨y,hy,r1,r2⟩:=hm;have:=CD.mp fh y hy;rw[r2] at this;have h':(cl.lookup y.1).isSome=true:=by simpa using this
   rw[r1] at h';exact DI.mp h'
  .exact CC (Cr (Bj b hb) (by show s2.heap.objs.size<=G.objs.size;lia))
  .exact(f2 b hb).2.2.2.2.1 x c (ag.at x c e) z
  .obtain⟨_,_,_,f3,_,_⟩:=f2 b hb;rcases f3 with z | z
   .exact I2.ok.iJ b o e z
   .exact absurd (Cr (Cq (I2.ok.bs b o e).1) z) (Ds _)
  .rcases CK.mp (I2.fZ b hz) with z | z
   .exact(f2 b hb).2.1 z
   .exact(f2 b hb).2.2.1 z
 have Ce:∀ b o,s2.heap.get? b=some o->h₁.get? b=some o:=old;have I3:Inv X' [] (bh ts js σ) (upd H1 s2.heap.objs.size (.lst [])) { s2 with heap:=h₁,toks:=s2.toks+([]:List (Str×Value)).length }:=by
  have neD:∀ b o,s2.heap.get? b=some o->b≠s2.heap.objs.size:=λb o e=>CC (Cq e);refine⟨BH,rfl,I2.bare,⟨λb o e n hb hx=>old b o e,λb o e n hb hx=>⟨o.slots,old b o e⟩,λb o e n hx=>by rw[ai (neD b o e)];exact n,λb o e hx=>⟨o,old b o e⟩,λb xs e=>?_,λb o u e=>?_,λb ps e=>?_⟩,⟨_,hns1,λi x v e1 e2 e3=>?_⟩,λx c e=>?_,?_,λx c e=>?_,λp hp=>?_,?_,?_⟩
  .rw[ai (aC e nD)];exact e
  .rw[ai (aC e nD)];exact e
  .exact⟨#[],by rw[ai (aC e nD)];exact CS e (by simp)⟩
  .
   have hlen:(ts.map (λ_=>(none:Option V))).length=ts.length:=Cv _;unfold bh at e2
   by_cases Am:i<ts.length
   .rw[CP (by rw[hlen];exact Am),CL] at e2;cases q:ts[i]? <;> rw[q] at e2 <;> cases e2
   .rw[CF (by rw[hlen];lia),hlen] at e2;have Bs:fs[i-ts.length]?=some x:=by
     have Bs:(ts++fs)[i]?=some x:=e1;rw[CF (by lia)] at Bs;exact Bs
    have all:∀ {fs:List Str} {js:List Nat},cA X scope cl fs js->∀ k:Nat,fs[k]?=some x->(js.map λj=>(σ[j]?).join)[k]?=some (some v) ->
      ∃ (j:Nat) (c:Addr),X.N[j]?=some x/\σ[j]?=some (some v)/\(X.env.kindOf x=some .cell\/X.env.kindOf x=some .free)/\X.env.cells.lookup x=some c/\cl.lookup x=some c/\scope.names.lookup x=some .free:=by
     intro fs js r
     induction r with
     | nil=>intro k e;simp at e
     | @cons y j c fs js hN hf hv hc hl r ih =>
      intro k e e';cases k with
      | zero =>
       have e0:y=x:=by simpa using e
       subst e0;have Bf:(σ[j]?).join=some v:=by simpa using e'
       refine⟨j,c,hN,?_,hv,hc,hl,hf⟩;cases q:σ[j]? with
       | none=>rw[q] at Bf;cases Bf
       | some z=>rw[q] at Bf;cases z with
        | none=>cases Bf
        | some z =>
         have:z=v:=by simpa using Bf
         rw[this]
      | succ k=>exact ih k (by simpa using e) (by simpa using e')
    obtain⟨j,c,q1,q2,q3,q4,q5,q6⟩:=all fr (i-ts.length) Bs e2;obtain⟨m,hn,hl⟩:=I2.loc;have vis:vY X.env.scope x:=by
     rcases q3 with z | z
     .exact .inr (.inl z)
     .exact .inr (.inr z)
    obtain⟨u,ru,lk⟩:=hl j x v q1 q2 vis;refine⟨u,ru,.inr ⟨?_,c,q5,?_⟩⟩
    .rcases e3 with z | z | z
     .exfalso;have key:∀ (l:List (Str×NameKind)),(l.map λ(n,k)=>if (k==DS&&X.env.scope.kind==.function&&X.env.kindOf n==some .cell) then (n,E1) else (n,k)).lookup x=some .local->l.lookup x=some .local:=by
       intro l
       induction l with
       | nil=>intro h;simp at h
       | cons p r ih =>
        obtain⟨n,k⟩:=p;intro h;rw[CZ] at h;dsimp only at h
        by_cases hc:(k==DS&&X.env.scope.kind==.function&&X.env.kindOf n==some .cell)=true
        .rw[if_pos hc] at h;rw[C6] at h ⊢;cases q:x==n with
         | true=>rw[q] at h;cases h
         | false=>rw[q] at h;exact ih h
        .rw[if_neg hc] at h;rw[C6] at h ⊢;cases q:x==n with
         | true=>rw[q] at h;exact h
         | false=>rw[q] at h;exact ih h
      have:=key _ z;rw[q6] at this;cases this
     .exact .inl z
     .exact .inr z
    .rcases lk with ⟨k,_⟩ | ⟨_,c',e4,z⟩
     .rcases q3 with z | z <;> rw[z] at k <;> cases k
     .rw[q4] at e4;cases e4;obtain⟨o,ho,hd⟩:=z;exact⟨o,old c o ho,hd⟩
  .obtain⟨_,_,v,o,ho,hd⟩:=Cf x c e;exact⟨v,o,old c o ho,hd⟩
  .show upd H1 s2.heap.objs.size (.lst []) G.objs.size=none;rw[ai (Ei (by rw[hC];exact Dk _))];exact nC
  .obtain⟨q1,q2,_⟩:=Cf x c e;rw[ai (CC q1)];exact q2
  .have hp':p∈X.pn++z0:=by
    have:p∈(X.pn++z0)++[]:=hp
    rwa [C1] at this
   obtain⟨e,n,ne,nf,d⟩:=I2.pin p hp';have Am:=Cq e;refine⟨old _ _ e,by rw[ai (CC Am)];exact n,?_,λhz=>?_,d⟩
   .show p.1≠G.objs.size;exact CC (Fc Am (by rw[hC];exact Dk _))
   .rcases CK.mp (I2.fZ _ hz) with z | z
    .exact ne z
    .exact nf z
  .exact I2.aJ.laid old (Cs _) ⟨DF _,[],0,.nil,BA⟩
  .show (bh ts js σ).length=(ts++fs).length;have frl:∀ {fs:List Str} {js:List Nat},cA X scope cl fs js->fs.length=js.length:=by
    intro fs js r
    induction r with
    | nil=>rfl
    | cons _ _ _ _ _ _ ih=>rw[C2,C2,ih]
   unfold bh;rw[CU,CU,Cv,Cv,frl fr]
 have AF:∀ {H':Hp},(∀ b∈fp,H' b=none)->∀ b∈fp,eJ X' [] H' b:=λ{H'} hn b hb=>by
  obtain⟨_,f1,f3,_,f4,f5⟩:=f2 b hb;refine⟨hn b hb,BH.wQ b hb |>.1,BH.jq b hb,.inl hb,λx c e=>f4 x c (ag.at x c e),λp hp=>f5 p ?_⟩;have:p∈(X.pn++z0)++[]:=hp
  rwa [C1] at this
 have fin:∀ {σ':St} {H':Hp} {s':Shared},Inv X' [] σ' H' s'->Q (.ref s2.heap.objs.size) H' ->
   fu (model X.prog X.w) X.A X.xe Qv (.ref s2.heap.objs.size) (compEnvC scope cl G.objs.size X.env) (.ok .next) s':=by
  intro σ' H' s' I4 q;obtain⟨m,hn,_⟩:=I4.loc;have fC:H' G.objs.size=none:=I4.free;have Io:Inv X z0 σ H' s':=by
   refine I2.i9 (s':=s') (ch:=fp) I4.os ⟨λb o e n hb hx=>?_,λb o e n hb hx=>?_,λb o e n hx=>I4.base.free b o e n hx,λb o e hx=>?_,I4.base.fV,I4.base.dM,I4.base.fM⟩ I4.aJ I4.bare λb hb=>?_
   .exact I4.base.keep b o e n hb hx
   .exact I4.base.slot b o e n hb hx
   .exact I4.base.there b o e hx
   .obtain⟨_,f1,_,f3,f4,f5⟩:=f2 b hb;exact⟨f3,f1,f4,f5⟩
  have BW:s2.heap.objs.size<=G.objs.size:=by rw[hC];exact Gd _
  exact qc _ H' s' _ Io q ⟨m,hn⟩ (I2.ka BW fC)
 let NE:Value->Shared->Prop:=notedBy (model X.prog X.w) X.A (compEnvC scope cl G.objs.size X.env) λx s'=>fu (model X.prog X.w) X.A X.xe Qv (.ref s2.heap.objs.size) (compEnvC scope cl G.objs.size X.env) (.error x) s'
 have lets:∀ x s',X'.xe x s'->NE x s':=by
  intro x s' z;have z:ZL (gm X scope cl (ts++fs) G.objs.size s2 H1 fp z0) X.env.locals Ex x s':=z;refine z.note (a_:=X.env) (Ae:=Ae) Af hf rfl λs' ea Cc dd AQ σ' Hc T he I4 h1 h2 h3 h4=>?_;subst he;obtain⟨m,hn,_⟩:=I4.loc;have fC:du Hc ea T Cc dd (rawInt X.env.locals) G.objs.size=none:=I4.free;have Io:Inv X z0 σ (du Hc ea T Cc dd (rawInt X.env.locals)) s':=by
   refine I2.i9 (s':=s') (ch:=fp) I4.os ⟨λb o e n hb hx=>I4.base.keep b o e n hb hx,λb o e n hb hx=>I4.base.slot b o e n hb hx,λb o e n hx=>I4.base.free b o e n hx,λb o e hx=>I4.base.there b o e hx,I4.base.fV,I4.base.dM,I4.base.fM⟩ I4.aJ I4.bare λb hb=>?_;obtain⟨_,f1,_,f3,f4,f5⟩:=f2 b hb;exact⟨f3,f1,f4,f5⟩
  have BW:s2.heap.objs.size<=G.objs.size:=by rw[hC];exact Gd _
  refine⟨m,hn,λh' Bl=>?_⟩;have Ih:=Io.other (I2.ka BW fC) Bl;obtain⟨vs,oT,ts',hx',q1,_⟩:=Ih.jH h3;unfold PySem.passOn;refine Ck (CM hx' rfl q1 ?_);rw[if_neg (show ¬ ((CA T==CV)=true) from by simp)];show wpAny _ _ (setFlight (.ref ea) X.env.frame >>= λ_=>throw (CA ea)) _ _ _;rw[hf];refine Ck (Ih.eB h3 λh2' I5=>?_);exact wpAny_throw (hout ea T Cc dd Hc _ I5 h1 h2 h3 h4)
 have loop:∀ s3:Shared,s3={ s2 with heap:=h₁,toks:=s2.toks+([]:List (Str×Value)).length } ->
   codeAny (model X.prog X.w) X.A (.compLoop (.ListComp elt [⟨tg,iter,ifs,0⟩] scope pos) 0 (.ref it) (.ref s2.heap.objs.size) (compEnvC scope cl G.objs.size X.env))
    (fu (model X.prog X.w) X.A X.xe Qv (.ref s2.heap.objs.size) (compEnvC scope cl G.objs.size X.env)) s3:=by
  rintro s3 rfl;refine lH (λn s'=>∃ i σ' H',Inv X' [] σ' H' s'/\tn i s'.heap/\(∀ b∈fp,H' b=none)/\W i n σ' H') ?_ m0 ⟨0,_,_,I3,T.keep _ _ _ Br λb _ o e=>old b o e,λb hb=>?_,w0⟩
  .rintro n s3 ⟨i,σ3,H3,I3,st3,fr3,w3⟩;rcases turn i n σ3 H3 w3 with ⟨stop,qn⟩ | ⟨go,N,hN,step⟩
   .refine bM (T.done X' rfl rfl rfl z9 i [] s3 σ3 H3 _ I3 (AF fr3) st3 stop) λr s4 ⟨hr,I4⟩=>?_;subst hr;exact fin I4 qn
   .refine bM (T.item X' rfl rfl rfl z9 i [] s3 σ3 H3 _ I3 (AF fr3) st3 go) λr s4 ⟨u,hr,h4⟩=>?_;subst hr;refine bM h4 λ_ s5 ⟨x,H5,I5,r5,y5,st5,fr5⟩=>?_;have BR:=I5.pinned (AF fr5) (T.obj _ _ st5);refine CO (hg _ _ _ _ _ _ s5 σ3 H5 x u _ BR r5 (step x H5 y5)) (λ_ s6 ⟨σ6,H6,I6,q6⟩=>?_) lets;have again:∀ {σ7:St} {H7:Hp} {s7:Shared},Inv X' ([]++dQ fp s5.heap) σ7 H7 s7->N σ7 H7->∃ m,m<n/\∃ i σ' H',Inv X' [] σ' H' s7/\tn i s7.heap/\(∀ b∈fp,H' b=none)/\W i m σ' H':=λ{σ7 H7 s7} I7 n7=>by
     obtain⟨m',hm,w7⟩:=hN σ7 H7 n7;refine⟨m',hm,i+1,σ7,H7,I7.dW,T.keep _ _ _ st5 λb hb o e=>(I7.pin (b,o) (CH _ (CH _ (cp hb e)))).1,λb hb=>?_,w7⟩;obtain⟨o,e,d⟩:=T.obj _ _ st5 b hb;exact(I7.pin (b,o) (CH _ (CH _ (cp hb e)))).2.1
    have tail:∀ {H7:Hp} {s7:Shared},Inv X' ([]++dQ fp s5.heap) σ6 H7 s7->(te σ6 H7 λy H4=>∃ ys,H4 s2.heap.objs.size=some (.lst ys)/\ys.length<sizeLine/\N σ6 (upd H4 s2.heap.objs.size (.lst (ys++[y])))) ->
      wpAny (model X.prog X.w) X.A (eval elt (compEnvC scope cl G.objs.size X.env)) (λx s₅=>wpAny (model X.prog X.w) X.A (call (.builtin "list.append") [.ref s2.heap.objs.size,x])
       (λ_ s₆=>∃ m,m<n/\∃ i σ' H',Inv X' [] σ' H' s₆/\tn i s₆.heap/\(∀ b∈fp,H' b=none)/\W i m σ' H') NE s₅) NE s7:=by
     intro H7 s7 I7 q7;refine CO (he _ _ _ _ _ _ s7 σ6 H7 _ I7 q7) (λuy s8 ⟨y,H8,I8,ry,ys,hy,hl,q8⟩=>?_) lets;refine CO (fK (X:=X') _ s8 σ6 H8 (.ref s2.heap.objs.size) [y] (.ref s2.heap.objs.size) [uy] (λ_ H9=>N σ6 H9) I8 rfl (.cons ry .nil) ⟨_,ys,y,rfl,rfl,hy,hl,q8⟩) (λ_ s9 ⟨_,H9,I9,_,q9⟩=>?_) lets;exact again I9 q9
    cases ifs with
    | nil =>
     cases tt with
     | none=>exact wpAny_tests_nil (tail I6 q6)
     | some t=>exact(ht 0 s2 H1 [] []).elim
    | cons c r =>
     cases r with
     | nil =>
      cases tt with
      | none=>exact(ht 0 s2 H1 [] []).elim
      | some t =>
       refine wpAny_tests_one (CO (ht G.objs.size s2 H1 fp z0 _ s6 σ6 H6 _ I6 q6) (λb s7 ⟨H7,I7,q7⟩=>?_) lets);cases b with
       | true =>
        rw[if_pos rfl] at q7 ⊢;exact tail I7 q7
       | false =>
        rw[if_neg C4] at q7 ⊢;exact again I7 q7
     | cons _ _=>cases tt <;> exact(ht 0 s2 H1 [] []).elim
  .rw[ai (CC (Bj b hb))];exact(f2 b hb).1
 exact Fe (loop _ rfl) (T.self _ 0 _ _ _ (T.keep _ _ _ Br λb _ o e=>old b o e) (loop _ rfl))
variable{xs:List PV}
variable{ys:List PV}
section
variable{Z:EX->Prop}{set:PV->aa->M aa}{f:aa->M PV}{Q:VK}{z_ H1:Hp}{D:Addr}
def Jx(Z:EX->Prop)(set:PV->aa->M aa)(f:aa->M PV)(Q:VK)(z_ H1:Hp)(D:Addr)(xs:List PV)(i:Nat)(σ:St)(H:Hp):Prop:=∃ Hs env ys vs,SR z_ H1 Hs H σ env/\ff env/\H D=some (.lst vs)/\Hs D=none/\aw Hs ys vs/\ys.length<=i ∧
 ah (bO set none f (xs.drop i) env) (λzs=>KO Q z_ H1 (ys++zs)) Z
theorem Jx.done(hD:H1 D=none)(j:Jx Z set f Q z_ H1 D xs i σ H)(hi:xs.length<=i):Q (.ref D) H:=by
 obtain⟨Hs,env,ys,vs,sr,n,h1,h2,r,_,h⟩:=j;rw[Em hi] at h;have h':KO Q z_ H1 (ys++[]):=h;rw[C1] at h';have gr:aT z_ H1 Hs (rem H D):=by
  refine⟨sr.gr.st,λc u q=>?_,λc u q=>?_,sr.gr.nw⟩
  .rw[h8 (λz=>by rw[z,hD] at q;cases q)];exact sr.gr.al c u q
  .rw[h8 (λz=>by rw[z,h2] at q;cases q)];exact sr.gr.sub c u q
 have:=h' vs D Hs (rem H D) gr r ku;rw[mq h1] at this;exact this
theorem Jx.put{Hs:Hp}{env:aa}{vs:List V}{y:PV}{v:V}(hD:H1 D=none)(sr:SR z_ H1 Hs H σ env)(n:ff env)(h1:H D=some (.lst vs))(h2:Hs D=none)(r:aw Hs ys vs)(hy:ys.length<=i)(hi:i<sizeLine)(rv:Rep Hs y v)
  (h:ah ((bO set none f (xs.drop (i+1)) env).bind λzs=>M.ok (y::zs)) (λzs=>KO Q z_ H1 (ys++zs)) Z) :
  ∃ us,H D=some (.lst us)/\us.length<sizeLine/\Jx Z set f Q z_ H1 D xs (i+1) σ (upd H D (.lst (us++[v]))):=by
 refine⟨vs,h1,by rw[<- r.length];lia,Hs,env,ys++[y],vs++[v],sr.oP n h2 hD,n,au,h2,r.snoc rv,by rw[CU];show ys.length+1<=i+1;lia,(ah.bind h).imp (λzs hz=>?_) λ_ z=>z⟩;have Bv:KO Q z_ H1 (ys++(y::zs)):=hz;rw[Ek];exact Bv
end
theorem Zx.un{Y:Cx}(z:Zx (Y.out E) E e s):(Y.out E).xe e s:=by
 obtain⟨ea,C,dd,z0,σ,rfl,⟨H,I,h⟩ | ⟨Hc,T,fl,I,h⟩⟩:=z
 .exact⟨ea,C,dd,z0,σ,rfl,.inl ⟨H,I.bg,h⟩⟩
 .exact⟨ea,C,dd,z0,σ,rfl,.inr ⟨Hc,T,fl,I.bg,h⟩⟩
def me(it:aa->M (List PV))(set:PV->aa->M aa)(f:aa->M PV)(n:Nat)(js:List Nat):aa->M (List PV):=λenv=>(it env).bind λxs=>bB (xs.length<=sizeLine) (bO set none f xs (dJ n js env))
section
variable{elt iter c:Expr}{cl:List (Str×Addr)}{it:aa->M (List PV)}{g:TG}{set:PV->aa->M aa}{f:aa->M PV}{u:aa->M Bool}{fs:List Str}
theorem pE{Q:VK}(hv:nP E wi it)(A4:∀ E,pO E g set)(so:gd set)(q:tO E (me it set f ts.length js) σ H Q):jZ wi g (tE (λ_=>E σ) f) ts js σ H Q:=by
 refine hv σ H _ ?_;obtain⟨B,H₀,Hs,env,sr,q⟩:=q;refine⟨B,H₀,Hs,env,sr,(ah.bind q).imp (λxs hp J z_ H1 gr ok D hD=>?_) λe he=>he⟩;obtain⟨hz,hp⟩:=ah.bB hp;have Cj:=sr.grow gr;refine⟨λi m σ1 H=>m=xs.length-i/\i<=xs.length/\Jx (XW (E σ) z_ H1) set f Q z_ H1 D xs i σ1 H,⟨xs.length,by simp,DF _,z_,_,[],[],Cj.block hD,bQ,au,?_,.nil,Cs _,hp.imp (λzs hz vs p Aa H2 g2 r n=>hz vs p Aa H2 (gr.trans g2) r n) λ_ z=>z.grow gr⟩,?_⟩
 .cases z:z_ D with
  | none=>rfl
  | some o=>have:=gr.sub _ _ z;rw[hD] at this;cases this
 rintro i m σ' H2 ⟨rfl,hi,Aa,env2,ys,vs,Ai,n2,d1,d2,r2,l2,h2⟩
 by_cases Am:i<xs.length
 .refine .inr ⟨ok.go i Aa H2 Ai.gr.st Ai.gr.sub Am,Jx (XW (E σ) z_ H1) set f Q z_ H1 D xs (i+1),fun σ3 H3 j=>⟨xs.length-(i+1),by lia,rfl,Am,j⟩,λx H3 y=>?_⟩;obtain⟨p,Az,ep,g3,r3⟩:=ok.lK i Aa H2 x H3 Ai.gr.st Ai.gr.sub Am y;have hd:xs.drop i=p::xs.drop (i+1):=by
   rw[DB Am];rw[Co Am] at ep;rw[CG ep]
  rw[hd] at h2;have h3:=ah.bind h2;have AS:=Ai.grow g3;refine A4 (E σ) z_ H1 Az H3 σ' env2 p x _ (XW (E σ) z_ H1) AS r3 ?_;cases hset:set p env2 with
  | none=>rw[hset] at h3;exact h3
  | some z=>cases z with
   | error e=>rw[hset] at h3;exact h3
   | ok e3 =>
    rw[hset] at h3;intro σ4 sr4;have n4:=so p env2 e3 hset n2;refine⟨z_,H1,Az,e3,sr4,(ah.bind h3).imp (λy hy v BL H5 g5 r5=>?_) λ_ z=>z.grow sr4.gr⟩;exact Jx.put (set:=set) (f:=f) hD (sr4.grow g5) n4 (g5.al _ _ (g3.al _ _ d1)) (g5.nw _ _ (g3.nw _ _ d2 d1) (g3.al _ _ d1)) ((r2.mono g3.st).mono g5.st) l2 (by lia) r5 hy
 .refine .inl ⟨ok.stop i Aa H2 Ai.gr.st Ai.gr.sub (by lia),?_⟩;exact Jx.done (Z:=XW (E σ) z_ H1) (set:=set) (f:=f) (xs:=xs) (z_:=z_) (H1:=H1) (i:=i) hD ⟨Aa,env2,ys,vs,Ai,n2,d1,d2,r2,l2,h2⟩ (by lia)
theorem oG(Af:X.stack=X.env::Ae)(hf:X.env.frame=some X.env.locals)(hz:∀ e s,Zx X E e s->X.xe e s)(z9:X.calm=true)
  (Ab:closureFor scope X.env=pure cl) (hk:scope.kind=.function) (nc:b_ scope.names=true) (lo:cw scope.names=true) (fh:cv cl scope.names=true) (ag:bJ X cl) (fr:cA X scope cl fs js)
  (hi:PI X tg iter wi) (hv:nP E wi it) (hg:∀ Ex C s₀ H₀ ex z0,PG (uP X Ex scope cl (ts++fs) C s₀ H₀ ex z0) tg g) (A4:∀ E,pO E g set) (so:gd set) (he:∀ Ex C s₀ H₀ ex z0,ez (uP X Ex scope cl (ts++fs) C s₀ H₀ ex z0) (λ_=>Ex)->PE (uP X Ex scope cl (ts++fs) C s₀ H₀ ex z0) elt (tE (λ_=>Ex) f))
  (hs:autoParam (∀ x,foldedSetIterable iter X.env x=pure x) aI._auto_1):PE X (.ListComp elt [⟨tg,iter,[],0⟩] scope pos) (tO E (me it set f ts.length js)):=by
 intro z0 s σ H Q I q;rw[eval_ListComp];refine nt (Ex:=E σ) (tt:=none) (te:=tE (λ_=>E σ) f) z9 Af hf Ab hk nc lo fh ag fr hi (hg (E σ)) (λ_ _ _ _ _=>trivial) (λC s₀ H₀ ex z0=>he (E σ) C s₀ H₀ ex z0 (xw (X:=gm X scope cl (ts++fs) C s₀ H₀ ex z0) (a_:=X.env) (Ae:=Ae) Af hf rfl)) hs I (pE hv A4 so q) _ (λD H' s' C Io q hm f=>?_) λea T Cc dd Hc s' I' h1 h2 h3 h4=>?_
 .obtain⟨m,hn⟩:=hm;exact⟨m,hn,λh' Bl=>⟨.ref D,H',Io.other f Bl,rfl,q⟩⟩
 .exact hz _ _ ⟨ea,Cc,dd,z0,σ,rfl,.inr ⟨Hc,T,_,I',.inr rfl,h1,h2,h3,h4⟩⟩
end
section
variable{E:Value->Shared->Prop}{d it:Addr}{es:Array DictEntry}{ep:Nat}
end
section
variable{iL iS ic:Nat}{a b0 b1:Addr}{B H₀ Hs:Hp}{env:aa}{vs ws:List V}
end
section
variable{E:XK}{st1 Br:Stmt}{rest:List Stmt}{iL iS ic:Nat}{it:aa->M (List PV)}{fi fv:aa->M PV}{g:aa->M Out}
end
section
variable{κ:Type}[DecidableEq κ]
end
section
variable(sm:List Int->List Int->List Int)(z r:List Int)
end
section
variable{d p:Addr}{H':Hp}{Ar kvs':List (List Key×V)}{vs vs':List Int}
end
section
variable{K:PySem.W.Frag}{sem:List PV->M PV}{sm:List Int->List Int->List Int}{S:List Int}
end
variable{base:Heap}{mg:Str->Option Value}{P:Program}
section
variable{K:PySem.W.Frag}
end
def lL:V->List V->Hp->VK->Prop:=λx xs H Q=>∃ a b,x=.str a/\xs=[.str b]/\Q (.bl (decide (0+b.length<=a.length)&&E0 a b 0)) H
theorem nI:xc X "str.startswith" lL:=by
 intro z0 s σ H x xs v us Q I rx rs h;obtain⟨a,b,rfl,rfl,q⟩:=h;obtain⟨t,rfl⟩:=rx;obtain⟨u,rfl,ru⟩:=vals1 rs;obtain⟨t',rfl⟩:=ru;exact call_gives F.slot_str_startswith (Er s a t) F.entry_str_startswith (F.args_str_startswith_2 _ _) (gives_str_startswith a b t t') ⟨.bl _,H,I,rfl,q⟩
theorem i4:∀ l:List (Str×Tok),Vals ((l.map (·.1)).map V.str) (strValues l)
 | []=>.nil
 | (x,t)::r=>.cons ⟨t,rfl⟩ (i4 r)
def pP:V->List V->Hp->VK->Prop:=λx xs H Q=>∃ a b,x=.str a/\xs=[.str b]/\(b.length==0)=false/\a.length+2<=sizeLine/\∀ l,H l=none->Q (.ref l) (upd H l (.lst ((Txt.split a b).map V.str)))
theorem eN{Q:VK}{ws:List Str}{l:List (Str×Tok)}(I:Inv X z0 σ H s)(e:l.map (·.1)=ws)(hl:ws.length<=sizeLine)(q:∀ l,H l=none->Q (.ref l) (upd H l (.lst (ws.map V.str)))) :
  EP X z0 σ Q (.ref s.heap.objs.size) { s with heap:=s.heap.push { cls:=.type "list", data:=.seq (strValues l).toArray },toks:=k }:=by
 subst e;refine⟨.ref s.heap.objs.size,_,I.laid (a:=s.heap.objs.size) (t':=k) (λ_ _ q=>Cm _ q) (Cs _) (show aP X.prog X.w _ _ _ (.lst ((l.map (·.1)).map V.str)) from ⟨by rw[Cv];exact hl,strValues l,0,i4 l,Cy _ rfl⟩),rfl,q _ (I.aJ.fresh (Cs _))⟩
theorem kr:xc X "str.split" pP:=by
 intro z0 s σ H x xs v us Q I rx rs h;obtain⟨a,b,rfl,rfl,hy,hz,q⟩:=h;obtain⟨t,rfl⟩:=rx;obtain⟨u,rfl,ru⟩:=vals1 rs;obtain⟨t',rfl⟩:=ru;have hn:(Ea a (CT a b 0 a.length (a.length+1)) b.length).length<=sizeLine:=by
  have e1:=StrLaws.occ_length_le a b 0 a.length (a.length+1);rw[length_partsBetween];lia
 cases h1:(decide (a.length<b.length)||decide (FN a<FN b))
 .cases hf:(CT a b 0 a.length (a.length+1)).isEmpty
  .have e:Txt.split a b=Ea a (CT a b 0 a.length (a.length+1)) b.length:=(if_neg (ne_true_of_eq_false h1)).trans (if_neg (ne_true_of_eq_false hf));refine DP F.slot_str_split (Er _ _ _) F.entry_str_split (F.args_str_split_2 _ _) (meets_str_split_sep a b t t' h1 hy hf (by lia) hn) ?_;show wants (EP X z0 σ Q) X.xe _ { s with toks:=_,heap:=s.heap.push { cls:=.type "list", data:=.seq (strsFrom s.toks (Ea a (CT a b 0 a.length (a.length+1)) b.length)).toArray } };rw[strsFrom_eq];exact eN (l:=numbered s.toks _) I ((numbered_texts _ _).trans e.symm) (by rw[e];exact hn) q
  .have e:Txt.split a b=[a]:=(if_neg (ne_true_of_eq_false h1)).trans (if_pos hf);exact DP F.slot_str_split (Er _ _ _) F.entry_str_split (F.args_str_split_2 _ _) (meets_str_split_not_found a b t t' h1 hy hf) (eN (l:=[(a,t)]) I e.symm (by rw[e];show 1<=sizeLine;decide) q)
 .have e:Txt.split a b=[a]:=if_pos h1;exact DP F.slot_str_split (Er _ _ _) F.entry_str_split (F.args_str_split_2 _ _) (meets_str_split_cannot_occur a b t t' h1) (eN (l:=[(a,t)]) I e.symm (by rw[e];show 1<=sizeLine;decide) q)
theorem i8:∀ {ws:List Str} {us:List Value},Vals (ws.map V.str) us->∃ l:List (Str×Tok),us=strValues l/\l.map (·.1)=ws
 | [],_,.nil=>⟨[],rfl,rfl⟩
 | w::r,_,.cons ⟨t,e⟩ h=>by
  obtain⟨l,e1,e2⟩:=i8 h;exact⟨(w,t)::l,by rw[e,e1];rfl,by rw[<- e2];rfl⟩
def rJoin(K:PySem.W.Frag):V->List V->Hp->VK->Prop:=λx xs H Q=>∃ a p ws,x=.str a/\xs=[.ref p]/\dF K H p (ws.map V.str)/\JoinOk a ws=true/\Q (.str (Txt.join a ws)) H
theorem lO:xc X "str.join" (rJoin X.K):=by
 intro z0 s σ H x xs v us Q I rx rs h;obtain⟨a,p,ws,rfl,rfl,hq,ok,q⟩:=h;obtain⟨t,rfl⟩:=rx;obtain⟨u,rfl,ru⟩:=vals1 rs;cases ru;obtain⟨z7,r,pl,hz⟩:=I.list hq;obtain⟨l,rfl,e⟩:=i8 r;exact SC.join pl.isList e ok λt' k=>⟨.str _,H,I.kept (t':=k) λ_ _ e=>e,⟨_,rfl⟩,q⟩
def tW:List V->Hp->VK->Prop:=λxs H Q=>∃ a n,xs=[.str a]/\intText? a=some n/\a.length<=640/\Q (.int n) H
theorem i7:bj X (.type "int") tW:=by
 intro z0 s σ H xs us Q I r h;obtain⟨a,n,rfl,hn,hl,q⟩:=h;obtain⟨u,rfl,ru⟩:=vals1 r;obtain⟨t,rfl⟩:=ru;exact PySem.W.KIN.call_text hn hl ⟨.int n,H,I.tok _,⟨_,rfl⟩,q⟩
def xK(a:Str):It:=⟨λi _=>i<a.length,λi H x H'=>H'=H/\∃ c,a.cps[i]?=some c/\x=.str ⟨#[c]⟩,λi _=>a.length<=i⟩
variable{x:Str}
theorem IsStrIter.at{h h':Heap}{it:Addr}{ty:String}{t:Tok}(y:h.IsStrIter it ty x t i)(k:∀ o,h.get? it=some o->h'.get? it=some o):h'.IsStrIter it ty x t i:=by
 obtain⟨o,e,r⟩:=y;exact⟨o,k o e,r⟩
theorem lq{K:PySem.W.Frag}(it:Addr)(a:Str)(t:Tok):Turn P w K tg (xK a) [it] it (λi h=>h.IsStrIter it "str_ascii_iterator" a t i) where
 mem:=by simp
 obj:=λi h st b hb=>by
  have e:b=it:=by simpa using hb
  subst e;obtain⟨o,e,c,d⟩:=st;exact⟨o,e,λv z=>by rw[d] at z;cases z⟩
 keep:=λi h h' st k=>IsStrIter.at st λo e=>k it (by simp) o e
 item:=by
  intro X hP hw hK hc i z0 s σ H E I hf st hg;subst hP hw hK;obtain⟨f0,f1,f2,f3,f4,f5⟩:=hf it (by simp);have hx:a.cps[i]?=some (a.cps[i]'hg):=EY hg;refine wpAny_pyNext_ascii_item st hx λh' A8 sb=>?_;have I1:Inv X z0 σ H { s with heap:=h',toks:=s.toks+1 }:=I.turned (t':=s.toks+1) (λb o hb e=>(sb.2 b hb).trans e) f0 f1 f3 f4 f5;obtain⟨o,e,c,d⟩:=id A8;exact⟨_,rfl,kc (s:={ s with heap:=h',toks:=s.toks+1 }) e c d (by decide) ⟨.str _,H,I1,⟨_,rfl⟩,⟨rfl,_,hx,rfl⟩,A8,λb hb=>(hf b hb).1⟩⟩
 done:=by
  intro X hP hw hK hc i z0 s σ H E I hf st hg;subst hP hw hK;obtain⟨f0,f1,f2,f3,f4,f5⟩:=hf it (by simp);exact wpAny_pyNext_ascii_end (I.ok.hd hc) st (Fg hg) λh' eb=>⟨rfl,I.turned (t':=s.toks) (λb o hb e=>eb b o hb e) f0 f1 f3 f4 f5⟩
 self:=λ_ _ _ _ _ st h=>wpAny_pyIter_striter_ascii st h
theorem m_{K:PySem.W.Frag}(it:Addr)(a:Str)(t:Tok):Turn P w K tg (xK a) [it] it (λi h=>h.IsStrIter it "str_iterator" a t i) where
 mem:=by simp
 obj:=λi h st b hb=>by
  have e:b=it:=by simpa using hb
  subst e;obtain⟨o,e,c,d⟩:=st;exact⟨o,e,λv z=>by rw[d] at z;cases z⟩
 keep:=λi h h' st k=>IsStrIter.at st λo e=>k it (by simp) o e
 item:=by
  intro X hP hw hK hc i z0 s σ H E I hf st hg;subst hP hw hK;obtain⟨f0,f1,f2,f3,f4,f5⟩:=hf it (by simp);have hx:a.cps[i]?=some (a.cps[i]'hg):=EY hg;refine wpAny_pyNext_wide_item st hx λh' A8 sb=>?_;have I1:Inv X z0 σ H { s with heap:=h',toks:=s.toks+1 }:=I.turned (t':=s.toks+1) (λb o hb e=>(sb.2 b hb).trans e) f0 f1 f3 f4 f5;obtain⟨o,e,c,d⟩:=id A8;exact⟨_,rfl,kc (s:={ s with heap:=h',toks:=s.toks+1 }) e c d (by decide) ⟨.str _,H,I1,⟨_,rfl⟩,⟨rfl,_,hx,rfl⟩,A8,λb hb=>(hf b hb).1⟩⟩
 done:=by
  intro X hP hw hK hc i z0 s σ H E I hf st hg;subst hP hw hK;obtain⟨f0,f1,f2,f3,f4,f5⟩:=hf it (by simp);exact wpAny_pyNext_wide_end (I.ok.hd hc) st (Fg hg) λh' eb=>⟨rfl,I.turned (t':=s.toks) (λb o hb e=>eb b o hb e) f0 f1 f3 f4 f5⟩
 self:=λ_ _ _ _ _ st h=>wpAny_pyIter_striter_wide st h
def xW(tl:TE):TI:=fun σ H R=>tl σ H λx H1=>∃ a,x=.str a/\R (xK a) H1
theorem pK{l:Expr}{tl:TE}(hl:PE X l tl):PI X tg l (xW tl):=by
 intro z0 s σ H R I h;refine bM (hl z0 s σ H _ I h) λv s1 ⟨x,H1,I1,r1,q1⟩=>?_;obtain⟨a,e,q⟩:=q1;subst e;obtain⟨t,rfl⟩:=r1;have fp:∀ (h':Heap) b,b∈[s1.heap.objs.size]->eJ X z0 H1 b:=λh' b hb=>by
  have e:b=s1.heap.objs.size:=by simpa using hb
  subst e;exact I1.ka (Cs _) (I1.aJ.fresh (Cs _))
 cases ha:a.cps.all (·<128)
 .refine wpAny_pyIter_wide ha ?_;exact⟨s1.heap.objs.size,[s1.heap.objs.size],_,_,H1,rfl,I1.kept (t':=s1.toks) λb o e=>Cm _ e,m_ _ a t,⟨_,Cy _ rfl,rfl,rfl⟩,fp s1.heap,q⟩
 .refine wpAny_pyIter_ascii ha ?_;exact⟨s1.heap.objs.size,[s1.heap.objs.size],_,_,H1,rfl,I1.kept (t':=s1.toks) λb o e=>Cm _ e,lq _ a t,⟨_,Cy _ rfl,rfl,rfl⟩,fp s1.heap,q⟩
def ck(x:Str)(lo hi:Option Int):Str:=if ((CJ lo hi 1 x.length).length==x.length)=true then x else ⟨((CJ lo hi 1 x.length).filterMap (x.cps[·]?)).toArray⟩
def zd:V->Option Int->Option Int->Hp->VK->Prop:=λx lo hi H Q=>∃ a,x=.str a/\(ck a lo hi).length<=sizeLine/\Q (.str (ck a lo hi)) H
theorem part_of{v:Value}{o:Option Int}(p:IsPart v o):∃ l:Option (Int×Tok),v=partValue l/\l.map (·.1)=o:=by
 cases p with
 | none=>exact⟨none,rfl,rfl⟩
 | int i t=>exact⟨some (i,t),rfl,rfl⟩
theorem vC:nU X zd:=by
 intro z0 s σ H x v vl vu lo hi sl Q I rx hs pl pu h;obtain⟨a,rfl,hz,q⟩:=h;obtain⟨t,rfl⟩:=rx;obtain⟨l,rfl,el⟩:=part_of pl;obtain⟨u,rfl,eu⟩:=part_of pu;refine⟨"str", _,slot_str_getitem.lookup,Er s a t,?_⟩;refine wpAny_getItem_str_slice (l:=l) (u:=u) (st:=none) hs rfl ?_;unfold sliceMade slicePicked;rw[el,eu];unfold ck at hz q
 by_cases z:((CJ lo hi 1 a.length).length==a.length)=true
 .rw[if_pos z] at hz q;rw[if_pos (by simpa using z)];exact⟨.str a,H,I,⟨t,rfl⟩,q⟩
 .rw[if_neg z] at hz q;rw[if_neg (by simpa using z)];exact⟨hz,⟨.str _,H,I.tok _,⟨_,rfl⟩,q⟩⟩
def qQ(i j:Str):Bool:=!(CT j i 0 j.length 1).isEmpty
def sy:PV->PV->M PV
 | .str i,.str j=>M.ok (.bl (qQ i j))
 | _,_=>none
def mz:PV->PV->M PV
 | .str i,.str j=>M.ok (.bl (!qQ i j))
 | _,_=>none
def kA:List PV->M PV
 | [.int i]=>bB (i.natAbs.log2<1920) (M.ok (.str (toString i)))
 | _=>none
def mI:List PV->M PV
 | [.str a]=>bB (a.length<=640) (cJ ((intText? a).map .int))
 | _=>none
theorem vt:eQ E (λx y H Q=>∃ i j,x=.str i/\y=.str j/\Q (.bl (!(CT j i 0 j.length 1).isEmpty)) H) sy:=by
 intro σ Hs H p q v u Q s rp rq h;cases rp with
 | str i=>cases rq with
  | str j=>exact⟨i,j,rfl,rfl,bb.flat h s (.bl _)⟩
  | _=>exact h.elim
 | _=>exact h.elim
theorem ti:eQ E (λx y H Q=>∃ i j,x=.str i/\y=.str j/\Q (.bl (!(!(CT j i 0 j.length 1).isEmpty))) H) mz:=by
 intro σ Hs H p q v u Q s rp rq h;cases rp with
 | str i=>cases rq with
  | str j=>exact⟨i,j,rfl,rfl,bb.flat h s (.bl _)⟩
  | _=>exact h.elim
 | _=>exact h.elim
theorem l8:fe E (λxs H Q=>∃ i,xs=[.int i]/\i.natAbs.log2<1920/\Q (.str (toString i)) H) kA:=by
 intro σ Hs H ps vs Q s r h
 match ps,r with
 | [],_=>exact h.elim
 | _::_::_,r=>cases r with | cons a r=>cases a <;> exact h.elim
 | [p],r =>
  obtain⟨v,rfl,rp⟩:=r.one;cases rp with
  | int i =>
   obtain⟨hz,h⟩:=ah.bB h;exact⟨i,rfl,hz,bb.flat h s (.str _)⟩
  | _=>exact h.elim
theorem mj:fe E tW mI:=by
 intro σ Hs H ps vs Q s r h
 match ps,r with
 | [],_=>exact h.elim
 | _::_::_,r=>cases r with | cons a r=>cases a <;> exact h.elim
 | [p],r =>
  obtain⟨v,rfl,rp⟩:=r.one;cases rp with
  | str a =>
   obtain⟨hz,h⟩:=ah.bB h;cases e:intText? a with
   | none=>rw[e] at h;exact h.elim
   | some n =>
    rw[e] at h;exact⟨a,n,rfl,e,hz,bb.flat h s (.int _)⟩
  | _=>exact h.elim
def nO(op:Str->PV->M PV)(f g:aa->M PV):aa->M PV:=λenv=>(f env).bind λp=>match p with
 | .str a=>(g env).bind (op a)
 | _=>none
def gM(a:Str):PV->M PV
 | .str b=>M.ok (.bl (decide (0+b.length<=a.length)&&E0 a b 0))
 | _=>none
def jB(a:Str):PV->M PV
 | .str b=>bB ((b.length==0)=false/\a.length+2<=sizeLine) (M.ok (.lst ((Txt.split a b).map .str)))
 | _=>none
def strsOf:List PV->Option (List Str)
 | []=>some []
 | .str a::r=>(strsOf r).map (a::·)
 | _::_=>none
theorem iT:∀ {xs:List PV} {ws:List Str},strsOf xs=some ws->xs=ws.map .str
 | [],_,e=>by cases e;rfl
 | x::r,ws,e=>by
  cases x with
  | str a =>
   obtain⟨w,e1,rfl⟩:=CI.mp (show (strsOf r).map (a::·)=some ws from e);rw[iT e1];rfl
  | _=>cases e
theorem gZ:∀ ws:List Str,strsOf (ws.map .str)=some ws
 | []=>rfl
 | a::r=>by show (strsOf (r.map .str)).map (a::·)=_;rw[gZ r];rfl
def iZ(a:Str):PV->M PV
 | .lst xs=>match strsOf xs with
  | some ws=>bB (JoinOk a ws=true) (M.ok (.str (Txt.join a ws)))
  | none=>none
 | _=>none
section
variable{o a:Expr}{f g:aa->M PV}{apos Ac:Pos}{name:Str}{id:String}{r:V->List V->Hp->VK->Prop}{op:Str->PV->M PV}
theorem j4(slot:Slot "str" name id)(hty:typeOf (.builtin id)=pure (.type "method_descriptor"))(hm:xc X id r)
  (hv:∀ (σ:St) (Hs H:Hp) (x:Str) (q:PV) (u:V) (Q:VK),aO Hs H->Rep Hs q u->ah (op x q) (bb Hs H Q) (XW (E σ) Hs H)->r (.str x) [u] H Q) (ho:PE X o (tE E f)) (ha:PE X a (tE E g))
  (AW:autoParam (attributeBase o name X.env (eval o X.env)=eval o X.env) aR._auto_1)
  (Bi:autoParam (((backTo Ac (starEach [a] X.env)).all (λx=>!x.1)&&(backToKw Ac (keywordEach [] X.env)).all (λx=>x.1.isSome)
   && decide (([a]:List Expr).length+([]:List Keyword).length+(if ([]:List Keyword).isEmpty then 0 else 1)<30))=true) aR._auto_1)
  (AX:autoParam ((apos.endLine==Ac.line)=true) aR._auto_1) (hs:autoParam (starEach [a] X.env=(false,eval a X.env)::starEach [] X.env) aR._auto_1) (AB:autoParam ((backTo Ac (starEach [] X.env)).any (·.1)=false) aR._auto_1) :
  PE X (.Call (.Attribute o name apos) [a] [] Ac) (tE E (nO op f g)):=by
 refine(ub PySem.F.plainAttrs_str slot hty hm ho (aX ha c8 hs) AW Bi AX hs AB).imp fun σ H Q q=>lT q λB H₀ Hs H1 env p v sr rp hp=>?_;cases rp with
 | str x =>
  refine⟨rfl,B,H₀,Hs,env,sr,(ah.bind hp).imp (λz hz u z8 H' g r'=>?_) λe he=>he⟩;exact hv σ z8 H' x z u Q g.sub r' (hz.imp (λz' Bv w Aa H2 g2 r2=>Bv w Aa H2 (g.trans g2) r2) λe he=>he.grow g)
 | _=>exact hp.elim
theorem mY(σ:St)(Hs H:Hp)(x:Str)(q:PV)(u:V)(Q:VK)(s:aO Hs H)(rq:Rep Hs q u)(h:ah (gM x q) (bb Hs H Q) (XW (E σ) Hs H)):lL (.str x) [u] H Q:=by
 cases rq with
 | str b=>exact⟨x,b,rfl,rfl,bb.flat h s (.bl _)⟩
 | _=>exact h.elim
theorem kL{Hs:Hp}:∀ ws:List Str,aw Hs (ws.map .str) (ws.map V.str)
 | []=>.nil
 | a::r=>.cons (.str a) (kL r)
theorem kO(σ:St)(Hs H:Hp)(x:Str)(q:PV)(u:V)(Q:VK)(s:aO Hs H)(rq:Rep Hs q u)(h:ah (jB x q) (bb Hs H Q) (XW (E σ) Hs H)):pP (.str x) [u] H Q:=by
 cases rq with
 | str b =>
  obtain⟨⟨h1,h2⟩,h⟩:=ah.bB h;exact⟨x,b,rfl,rfl,h1,h2,bb.lst h s (kL _)⟩
 | _=>exact h.elim
theorem mB{K:PySem.W.Frag}(σ:St)(Hs H:Hp)(x:Str)(q:PV)(u:V)(Q:VK)(s:aO Hs H)(rq:Rep Hs q u)(h:ah (iZ x q) (bb Hs H Q) (XW (E σ) Hs H)):rJoin K (.str x) [u] H Q:=by
 cases rq with
 | @lst p xs vs ha hx =>
  cases e:strsOf xs with
  | none=>simp only[iZ,e] at h;exact h.elim
  | some ws =>
   simp only[iZ,e] at h;obtain⟨ok,h⟩:=ah.bB (show ah (bB (JoinOk x ws=true) (M.ok (PV.str (Txt.join x ws)))) _ _ from h);have e2:=iT e;subst e2;exact⟨x,p,ws,rfl,rfl,dF.of (by rw[<- hx.strs];exact s _ _ ha),ok,bb.flat h s (.str _)⟩
 | _=>exact h.elim
end
def signsOf(f:aa->M PV):aa->M (List PV):=λenv=>(f env).bind λp=>match p with
 | .str a=>M.ok (a.cps.toList.map λc=>.str ⟨#[c]⟩)
 | _=>none
variable{a:Str}
theorem qr{z_:Hp}:gR (xK a) z_ (a.cps.toList.map λc=>PV.str ⟨#[c]⟩) where
 stop:=λi Hs H s1 s2 hi=>show a.length<=i by simpa [Gr] using hi
 go:=λi Hs H s1 s2 hi=>show i<a.length by simpa [Gr] using hi
 lK:=λi Hs H x H2 s1 s2 hi y=>by
  obtain⟨rfl,c,hc,rfl⟩:=y;exact⟨.str ⟨#[c]⟩,Hs,by rw[CL,Fw,hc];rfl,.refl s2,.str _⟩
theorem mn{f:aa->M PV}:nP E (xW (tE E f)) (signsOf f):=by
 intro σ H R q;refine aQ (K:=KI R) KI.g q λB H₀ Hs H1 env p v sr rp hp=>?_;cases rp with
 | str a=>exact⟨a,rfl,hp (xK a) Hs H1 (.refl sr.gr.sub) qr⟩
 | _=>exact hp.elim
def wx(p:PV)(lo hi:Option Int):M PV:=match p with
 | .str a=>bB ((ck a lo hi).length<=sizeLine) (M.ok (.str (ck a lo hi)))
 | _=>none
def bf(f:aa->M PV)(lo hi:aa->M (Option Int)):aa->M PV:=λenv=>(f env).bind λp=>(lo env).bind λl=>(hi env).bind λh=>wx p l h
theorem bG{e:Expr}{lo hi:Option Expr}{p2:Pos}{f:aa->M PV}{gl gh:aa->M (Option Int)}(he:PE X e (tE E f))(hl:PO X lo (wR E gl))(hh:PO X hi (wR E gh)):PE X (.Subscript e (.Slice lo hi none p2) pos) (tE E (bf f gl gh)):=by
 refine(j8 vC he hl hh).imp fun σ H Q q=>aQ (K:=eg Q) eg.g q λB H₀ Hs H1 env p v sr rp hp=>?_;refine⟨B,H₀,Hs,env,sr,(ah.bind hp).imp (λl hl Aa H2 g2=>?_) λe he=>he⟩;have Ai:=sr.grow g2;refine⟨B,H₀,Aa,env,Ai,(ah.bind hl).imp (λh hh Az H3 g3=>?_) λe he=>he.grow g2⟩;have AS:=Ai.grow g3;have hz:ah (wx p l h) (bb Az H3 Q) (λ_=>True):=hh.imp (λz hz w BQ H4 g4 r=>hz w BQ H4 ((g2.trans g3).trans g4) r) λ_ _=>trivial;cases rp with
 | str a =>
  obtain⟨hz1,hz⟩:=ah.bB hz;exact⟨a,rfl,hz1,bb.flat hz AS.gr.sub (.str _)⟩
 | _=>exact hz.elim
theorem yb(hg:Gl X x)(hm:∃ u,X.mg x=some u/\RelV (.str a) u)(hd:autoParam ((x==("__debug__" : Str))=false) aD._auto_1):PE X (.Name x pos) (tE E λ_=>M.ok (.str a)):=d0 (t_ hg hm hd) λ_=>.str a
def lb(a:Str)(n:Int):Str:=if (n==1||a.length==0)=true then a else ⟨(Cw n.toNat a.cps).foldl (·++·) #[]⟩
def iO(a:Str)(n:Int):Prop:=1<=n/\n<2^62/\¬ ((a.length:Int)>(2^63-1)/n)/\FO (a.length*n.toNat)=false/\(lb a n).length<=sizeLine
instance (a:Str) (n:Int):Decidable (iO a n):=by unfold iO;exact inferInstance
def uk:R2:=λx y H Q=>∃ a n,x=.str a/\y=.int n/\iO a n/\Q (.str (lb a n)) H
theorem sj:cR X (binaryOp .Mult) uk:=by
 intro z0 s σ H x y v u Q I rx ry h;obtain⟨a,n,rfl,rfl,⟨h1,h2,h3,h4,h5⟩,q⟩:=h;obtain⟨t,rfl⟩:=rx;obtain⟨t',rfl⟩:=ry;refine P.mul_str (by simp;lia) (λ_ _=>h3) (λ_ _=>h4) ?_;rw[if_neg (by lia)];unfold lb at h5 q
 by_cases z:(n==1||a.length==0)=true
 .rw[if_pos z] at h5 q ⊢;exact⟨.str a,H,I,⟨t,rfl⟩,q⟩
 .rw[if_neg z] at h5 q ⊢;exact⟨h5,⟨.str _,H,I.tok _,⟨_,rfl⟩,q⟩⟩
def ou:PV->PV->M PV
 | .str a,.int n=>bB (iO a n) (M.ok (.str (lb a n)))
 | _,_=>none
theorem tH:eQ E uk ou:=by
 intro σ Hs H p q v u Q s rp rq h;cases rp with
 | str a=>cases rq with
  | int n =>
   obtain⟨hz,h⟩:=ah.bB h;exact⟨a,n,rfl,rfl,hz,bb.flat h s (.str _)⟩
  | _=>exact h.elim
 | _=>exact h.elim
variable{ps:List Str}{fd:FuncData}{f:Addr}
theorem bK.no{K:PySem.W.Frag}{m:Nat}:bK P w K mg base (dz P w) k f fd ps (gp m (bP m λ_=>none)) where
 len:=λvs H Q E h=>by
  obtain⟨_,Hs,qs,sm,r,h⟩:=h;exact(ah.bB h).2.elim
 run:=λA outer s H args us vs Q E hr e hb rv h=>by
  obtain⟨_,Hs,qs,sm,r,h⟩:=h;exact(ah.bB h).2.elim
def xU(K:PySem.W.Frag):List V->Hp->VK->Prop:=λxs H Q=>∃ e C fo tp D1 D2 b,fE K C/\ExcAt H e C fo/\xs=[.ref e,.ref tp]/\H tp=some (.tup [.ref D1,.ref D2])/\PySem.W.kitAny K (.ref C) [.ref D1,.ref D2]=some b/\Q (.bl b) H
theorem nB:bj X (.builtin "isinstance") (xU X.K):=by
 intro z0 s σ H xs us Q I r h;obtain⟨e,C,fo,tp,D1,D2,b,c,ha,rfl,B9,hk,q⟩:=h;obtain⟨ox,od,J,_⟩:=I.ma ha;cases r with
 | cons r1 r2 =>
  cases r2 with
  | cons r3 r4 =>
   cases r4;cases (show _=CA e from r1);cases (show _=CA tp from r3);obtain⟨_,z7,rv,o,h1,h2,n,h3⟩:=(show aP X.prog X.w H s.heap tp (.tup [.ref D1,.ref D2]) from I.aJ tp _ B9)
   have ei:z7=[CA D1,CA D2]:=by
    cases rv with
    | cons a t =>
     cases t with
     | cons b t =>
      cases t;cases (show _=CA D1 from a);cases (show _=CA D2 from b);rfl
   subst ei;obtain⟨cls,dd,data,sl⟩:=o;dsimp only at h2 h3;subst h2 h3;exact PySem.W.kia_tup (gW c) I.gx J h1 hk (λz=>nomatch z) λtk=>⟨.bl b,H,I.tok tk,rfl,q⟩
def sM(o1 o2:Addr->Option Bool):PV->M PV
 | .exc C _=>match o1 C,o2 C with
  | some a,some b=>M.ok (.bl (a||b))
  | _,_=>none
 | _=>none
def ue(o1 o2:Addr->Option Bool)(f:aa->M PV):aa->M PV:=λenv=>(f env).bind (sM o1 o2)
theorem s_{e:Expr}{p p1 p2 pt:Pos}{tk:Nat}{f:aa->M PV}{x1 x2:Str}{D1 D2:Addr}{ys1 ns1 yo1 no1 ys2 ns2 yo2 no2:List Addr}(c1:rg X.K X.mg x1 D1 ys1 ns1 yo1 no1)(c2:rg X.K X.mg x2 D2 ys2 ns2 yo2 no2)(hg:Gl X "isinstance")(hm:X.mg "isinstance" = none)(B_:Gl X x1)(AD:Gl X x2)(he:PE X e (tE E f))(hd1:autoParam ((x1==("__debug__" : Str))=false) aD._auto_1)(hd2:autoParam ((x2==("__debug__" : Str))=false) aD._auto_1)
  (h1:autoParam (starEach [e,.Tuple [.Name x1 p1,.Name x2 p2] tk pt] X.env=(false,eval e X.env)::starEach [.Tuple [.Name x1 p1,.Name x2 p2] tk pt] X.env) aR._auto_1) (h2:autoParam (starEach [.Tuple [.Name x1 p1,.Name x2 p2] tk pt] X.env=(false,eval (.Tuple [.Name x1 p1,.Name x2 p2] tk pt) X.env)::starEach [] X.env) aR._auto_1) (Aq:autoParam ((backTo pos (starEach [.Tuple [.Name x1 p1,.Name x2 p2] tk pt] X.env)).any (·.1)=false) aR._auto_1) :
  PE X (.Call (.Name "isinstance" p) [e,.Tuple [.Name x1 p1,.Name x2 p2] tk pt] [] pos) (tE E (ue (kb ys1 ns1) (kb ys2 ns2) f)):=by
 refine(dR nB hg hm jW (aX he (aX (jm (aX (gN (v:=.ref D1) B_ c1.mg rfl hd1) (aX (gN (v:=.ref D2) AD c2.mg rfl hd2) c8))) c8 h2) h1) (by decide) (by decide) h1 Aq).imp fun σ H Q q=>aQ (K:=eg Q) eg.g q λB H₀ Hs H1 env p v sr rp hp=>?_;cases p with
 | exc C fo =>
  cases e1:kb ys1 ns1 C with
  | none=>simp only[sM,e1] at hp;exact hp.elim
  | some a =>
   cases e2:kb ys2 ns2 C with
   | none=>simp only[sM,e1,e2] at hp;exact hp.elim
   | some b =>
    simp only[sM,e1,e2] at hp;refine⟨by show 2<=sizeLine;decide,λtp hn=>?_⟩;have g:=aT.new (o:=.tup [.ref D1,.ref D2]) sr.gr.sub hn;obtain⟨a',Bz,rfl,hx⟩:=lJ g.sub (rp.mono g.st);have k1:=c1.oe C a e1;have k2:=c2.oe C b e2;refine⟨a',C,Bz,tp,D1,D2,a||b,k1.1,hx,rfl,au,?_,hp _ _ _ g (.bl _)⟩;unfold PySem.W.kitAny PySem.W.kitAny PySem.W.kitAny;rw[k1.2,k2.2];cases a <;> cases b <;> rfl
 | _=>exact hp.elim
variable{α β:Type}
variable{p:PV}
variable{j:Int}
variable{n:Nat}
section
open PySem.SeqAt (shaped noMix noMixAll)
theorem M.aL(a:α)(f:α->M β):M.bind (M.ok a) f=f a:=CS rfl rfl
theorem M.pQ(e:EX)(f:α->M β):M.bind (some (Except.error e)) f=some (.error e):=CS rfl rfl
theorem M.bind_none(f:α->M β):M.bind none f=none:=CS rfl rfl
theorem M.bind_some(a:α)(f:α->M β):M.bind (some (Except.ok a)) f=f a:=CS rfl rfl
theorem M.bind_assoc{γ:Type}(x:M α)(f:α->M β)(g:β->M γ):M.bind (M.bind x f) g=M.bind x λa=>M.bind (f a) g:=by
 cases x with
 | none=>rfl
 | some x=>cases x <;> rfl
theorem ao{c:Prop}[Decidable c]{x:M α}(h:c):bB c x=x:=if_pos h
theorem uH(a:α):qH (M.ok a)=M.ok a:=CS rfl rfl
theorem mJ(x:PV):cJ (some x)=M.ok x:=CS rfl rfl
theorem kx(g:aa->M Out)(env:aa):oz g (.nx env)=g env:=CS rfl rfl
theorem qv(g:aa->M Out)(p:PV):oz g (.rt p)=M.ok (.rt p):=CS rfl rfl
theorem sD(b:Bool):lD (.bl b)=M.ok b:=CS rfl rfl
theorem tw(p:PV):uu (.rt p)=M.ok p:=CS rfl rfl
theorem rV(e:aa):uu (.nx e)=M.ok .bL:=CS rfl rfl
def tI(xs:List Int):PV:=.tup (xs.map PV.int)
def lI(xs:List Int):PV:=.lst (xs.map PV.int)
theorem rn(xs:List Int):cf (tI xs)=some (xs.map PV.int):=CS rfl rfl
theorem r0(xs:List Int):cf (lI xs)=some (xs.map PV.int):=CS rfl rfl
theorem n_(xs:List PV):cf (.tup xs)=some xs:=CS rfl rfl
theorem qy(xs:List PV):cf (.lst xs)=some xs:=CS rfl rfl
theorem pe(xs:List PV):cf (.dD xs)=some xs:=CS rfl rfl
theorem rA(xs:List Int):ju (tI xs)=M.ok (.int xs.length):=by simp[ju,tI,cf,cJ]
theorem sE(xs:List Int):ju (lI xs)=M.ok (.int xs.length):=by simp[ju,lI,cf,cJ]
theorem qx(xs:List PV):ju (.tup xs)=M.ok (.int xs.length):=CS rfl rfl
theorem qC(xs:List PV):ju (.lst xs)=M.ok (.int xs.length):=CS rfl rfl
theorem qp(xs:List PV):ju (.dD xs)=M.ok (.int xs.length):=CS rfl rfl
theorem pF(xs:List Bool):nr [.lst (xs.map PV.bl)]=M.ok (.bl (xs.all id)):=by simp[nr,all1,kH,cJ]
theorem jT{f:aa->M PV}{inj h:α->PV}{rest:aa}{x0:Option SV}(xs:List α)(H:∀ a∈xs,f (some (.sh (inj a))::rest)=M.ok (h a)):bO (dm 0) none f (xs.map inj) (x0::rest)=M.ok (xs.map h):=by
 induction xs generalizing x0 with
 | nil=>rfl
 | cons a r ih =>
  rw[CZ,bO];show M.bind (M.ok ((x0::rest).set 0 (some (.sh (inj a))))) _=_;rw[M.aL,Ed];show M.bind (f _) _=_;rw[H a Cz,M.aL,ih λb hb=>H b (CB _ hb)];rfl
theorem n9{f:α->PV}{g:β->PV}{q:PV}(xs:List α)(ys:List β)(hp:cf p=some (xs.map f))(hq:cf q=some (ys.map g)):zip2 [p,q]=M.ok ((xs.zip ys).map λz=>.tup [f z.1,g z.2]):=by
 simp only[zip2,hp,hq];congr 2;rw[List.zipWith_map,List.zip_eq_zipWith,List.map_zipWith]
theorem kB{set:PV->aa->M aa}{body:aa->M Out}{α:Type}{inj:α->PV}(J:List α->aa->Prop)
  (H:∀ a r env,J (a::r) env->∃ e' Ad,set (inj a) env=M.ok e'/\body e'=M.ok (.nx Ad)/\J r Ad):∀ (xs:List α) (env:aa),J xs env->∃ Ad,ik set body (xs.map inj) env=M.ok (.nx Ad)/\J [] Ad
 | [],env,h=>⟨env,rfl,h⟩
 | a::r,env,h=>by
  obtain⟨e',Ad,h1,h2,h3⟩:=H a r env h;obtain⟨BU,h4,h5⟩:=kB J H r Ad h3;refine⟨BU,?_,h5⟩;rw[CZ,ik,h1,M.aL,h2,M.aL];exact h4
theorem log2_small{i:Int}(h:i.natAbs<2^k)(hk:k<=9000):i.natAbs.log2<67108864:=by
 by_cases z:i.natAbs=0
 .rw[z];decide
 .have:=(FA z).mpr h;lia
theorem bp{i:Int}{l:Nat}(hi:i.natAbs<2^k)(hj:j.natAbs<2^l)(hk:autoParam (k<=9000) aD._auto_1)(hl:autoParam (l<=9000) aD._auto_1):eK (.int i) (.int j)=M.ok (.int (i*j)):=by
 rw[eK,ao ⟨log2_small hi hk,log2_small hj hl⟩]
theorem m3{i:Int}(h0:j≠0)(h:j.natAbs<2^9000):c_ (.int i) (.int j)=M.ok (.int (i.fdiv j)):=by
 show bB _ _=_;refine ao (decide_eq_true ⟨h0,(FA (by lia)).mpr h⟩)
theorem oF{i:Int}(h0:j≠0):cj (.int i) (.int j)=M.ok (.int (i.fmod j)):=by
 show bB _ _=_;exact ao (decide_eq_true h0)
theorem bT{i:Int}(h0:0<j)(h:j<2^64):c_ (.int i) (.int j)=M.ok (.int (i/j)):=by
 rw[m3 (by lia) (Cr (show j.natAbs<2^64 by lia) (Nat.pow_le_pow_right (by decide) (by decide))),Int.fdiv_eq_ediv_of_nonneg _ (by lia)]
theorem az{i:Int}(h0:0<j):cj (.int i) (.int j)=M.ok (.int (i%j)):=by
 rw[oF (by lia),Int.fmod_eq_emod_of_nonneg _ (by lia)]
theorem fk{j:Nat}{x:PV}(hs:cf p=some xs)(h:xs[j]?=some x):cL p (.int (j:Int))=M.ok x:=by
 cases p with
 | tup ys=>cases hs;simp only[cL,jK h,cJ]
 | lst ys=>cases hs;simp only[cL,jK h,cJ]
 | dD ys=>cases hs;simp only[cL,jK h,cJ]
 | _=>cases hs
section
variable{b:String->Bool}{ob oe:Addr->Option Bool}
theorem vZ(xs:List Int):ot b ob oe (tI xs)=M.ok (.bl (b "tuple")):=CS rfl rfl
theorem wA(xs:List Int):ot b ob oe (lI xs)=M.ok (.bl (b "list")):=CS rfl rfl
theorem rW(xs:List PV):ot b ob oe (.tup xs)=M.ok (.bl (b "tuple")):=CS rfl rfl
theorem qL(xs:List PV):ot b ob oe (.lst xs)=M.ok (.bl (b "list")):=CS rfl rfl
theorem qO(i:Int):ot b ob oe (.int i)=M.ok (.bl (b "int")):=CS rfl rfl
theorem uJ(i:Bool):ot b ob oe (.bl i)=M.ok (.bl (b "bool")):=CS rfl rfl
theorem rH:ot b ob oe .bL=M.ok (.bl (b "NoneType")):=CS rfl rfl
theorem tD(x:Str):ot b ob oe (.str x)=M.ok (.bl (b "str")):=CS rfl rfl
theorem qX:ot b ob oe .emp=M.ok (.bl (b "dict")):=CS rfl rfl
end
theorem qR(i j:Int):j0 (.int i) (.int j)=M.ok (.bl (!decide (i=j))):=by
 simp only[j0,gI,dat,qw,shaped,Di,Dr,noMix];rw[ao ⟨rfl,rfl,trivial⟩];unfold same;rw[M.aL];congr
theorem sd(i j:Int):gy (.int i) (.int j)=M.ok (.bl (decide (i=j))):=by
 simp only[gy,gI,dat,qw,shaped,Di,Dr,noMix];rw[ao ⟨rfl,rfl,trivial⟩];unfold same;rw[M.aL];congr
theorem wb(i j:Bool):j0 (.bl i) (.bl j)=M.ok (.bl (!decide (i=j))):=by
 simp only[j0,gI,dat,qw,shaped,Di,Dr,noMix];rw[ao ⟨rfl,rfl,trivial⟩];unfold same;rw[M.aL];congr
theorem u6(i j:Bool):gy (.bl i) (.bl j)=M.ok (.bl (decide (i=j))):=by
 simp only[gy,gI,dat,qw,shaped,Di,Dr,noMix];rw[ao ⟨rfl,rfl,trivial⟩];unfold same;rw[M.aL];congr
theorem iW(xs:List Int):dN (xs.map PV.int)=some (xs.map Eu):=by
 induction xs with
 | nil=>rfl
 | cons a r ih=>simp[dN,dat,ih]
theorem gf(xs:List Int):F7 (xs.map Eu)=true:=by
 induction xs with
 | nil=>rfl
 | cons a r ih=>simp[F7,Di,ih]
theorem hW(xs:List Int):Gm (xs.map Eu)=0:=by
 induction xs with
 | nil=>rfl
 | cons a r ih=>simp[Gm,Dr,ih]
theorem noMix_ints:∀ (xs ys:List Int),noMixAll (xs.map Eu) (ys.map Eu)=true
 | [],[]=>by simp[noMixAll]
 | [],_::_=>by simp[noMixAll]
 | _::_,[]=>by simp[noMixAll]
 | a::r,b::s=>by simp[noMixAll,noMix,noMix_ints r s]
theorem same_ints:∀ (xs ys:List Int),sameAll (xs.map Eu) (ys.map Eu)=decide (xs=ys)
 | [],[]=>by simp[sameAll]
 | [],_::_=>by simp[sameAll]
 | _::_,[]=>by simp[sameAll]
 | a::r,b::s=>by
  simp only[CZ,sameAll,same_ints r s];unfold same;rw[Gk];simp
theorem ro(i j:Int):x_ (.int i) (.int j)=M.ok (.bl (decide (i<j))):=CS rfl rfl
theorem rC(i j:Int):wY (.int i) (.int j)=M.ok (.bl (decide (i<=j))):=CS rfl rfl
theorem q_(i j:Int):tP (.int i) (.int j)=M.ok (.bl (decide (j<i))):=CS rfl rfl
theorem rP(i j:Int):zv (.int i) (.int j)=M.ok (.bl (decide (j<=i))):=CS rfl rfl
theorem pV(i j:Int):cu (.int i) (.int j)=M.ok (.int (i+j)):=CS rfl rfl
theorem oR(i j:Int):oJ (.int i) (.int j)=M.ok (.int (i-j)):=CS rfl rfl
theorem pB{n:Int}(h:0<=n)(h2:n<2^62):oC [.int n]=M.ok ((DN n.toNat).map λ(i:Nat)=>.int (i:Int)):=by
 show bB (-(2^62)<=n/\n<2^62) _=_;rw[ao (by lia)];simp
theorem fO{set:PV->aa->M aa}{body:aa->M Out}{inj:α->PV}{k:Out->M β}{r:M β}(xs:List α)(J:List α->aa->Prop){env:aa}(h:J xs env)
  (H:∀ a r env,J (a::r) env->∃ e' Ad,set (inj a) env=M.ok e'/\body e'=M.ok (.nx Ad)/\J r Ad) (hk:∀ Ad,J [] Ad->k (.nx Ad)=r):M.bind (ik set body (xs.map inj) env) k=r:=by
 obtain⟨Ad,e,h'⟩:=kB J H xs env h;rw[e,M.aL];exact hk Ad h'
theorem bA(h:n<=1000):n<=sizeLine:=DZ (jg h)
def tupK(ps:List PV):M PV:=bB (ps.length<=sizeLine) (M.ok (.tup ps))
def lstK(ps:List PV):M PV:=bB (ps.length<=sizeLine) (M.ok (.lst ps))
theorem sV(fs:aa->M (List PV))(env:aa):jl fs env=(fs env).bind tupK:=rfl
theorem qV(fs:aa->M (List PV))(env:aa):iM fs env=(fs env).bind lstK:=rfl
theorem vU:tupK []=M.ok (.tup []):=ao (bA (show 0<=1000 by decide))
theorem vc:lstK []=M.ok (.lst []):=ao (bA (show 0<=1000 by decide))
theorem uU(a:PV):tupK [a]=M.ok (.tup [a]):=ao (bA (show 1<=1000 by decide))
theorem vd(a:PV):lstK [a]=M.ok (.lst [a]):=ao (bA (show 1<=1000 by decide))
theorem vK(a b:PV):tupK [a,b]=M.ok (.tup [a,b]):=ao (bA (show 2<=1000 by decide))
theorem vI(a b:PV):lstK [a,b]=M.ok (.lst [a,b]):=ao (bA (show 2<=1000 by decide))
theorem vb(a b c:PV):tupK [a,b,c]=M.ok (.tup [a,b,c]):=ao (bA (show 3<=1000 by decide))
theorem vf(a b c:PV):lstK [a,b,c]=M.ok (.lst [a,b,c]):=ao (bA (show 3<=1000 by decide))
theorem vT(a b c d:PV):tupK [a,b,c,d]=M.ok (.tup [a,b,c,d]):=ao (bA (show 4<=1000 by decide))
theorem we(a b c d:PV):lstK [a,b,c,d]=M.ok (.lst [a,b,c,d]):=ao (bA (show 4<=1000 by decide))
theorem v9(a b c d e:PV):tupK [a,b,c,d,e]=M.ok (.tup [a,b,c,d,e]):=ao (bA (show 5<=1000 by decide))
theorem vR(a b c d e:PV):lstK [a,b,c,d,e]=M.ok (.lst [a,b,c,d,e]):=ao (bA (show 5<=1000 by decide))
theorem uT(a b c d e f:PV):tupK [a,b,c,d,e,f]=M.ok (.tup [a,b,c,d,e,f]):=ao (bA (show 6<=1000 by decide))
theorem wM(a b c d e f:PV):lstK [a,b,c,d,e,f]=M.ok (.lst [a,b,c,d,e,f]):=ao (bA (show 6<=1000 by decide))
end
section
variable{γ:Type}{Q Q':α->Prop}{m:M α}
end
def xj(i:Nat)(env:aa)(xs:List PV)(p:PV):M Out:=if xs.length<sizeLine then M.ok (.nx (env.set i (some (.ow (xs++[p]))))) else none
theorem tj(i:Nat)(f:aa->M PV)(env:aa):nq i f env=(ownAt i env).bind λxs=>(f env).bind λp=>xj i env xs p:=by
 unfold nq ownAt;rcases env[i]? with _ | _ | (_ | _ | _) <;> rfl
theorem r9{env:aa}(h:xs.length<1000):xj i env xs p=M.ok (.nx (env.set i (some (.ow (xs++[p]))))):=if_pos (jg (DZ h))
theorem oD(xs ys:List Int):j0 (lI xs) (lI ys)=M.ok (.bl (!decide (xs=ys))):=by
 simp only[j0,gI,dat,lI,iW,Gn,qw];rw[ao (by simp[D3,Di,Dr,gf,hW,GD,noMix_ints])];unfold same;rw[same_ints];rfl
theorem zy{us:List α}(h:us.length=1):∃ a,us=[a]:=by
 cases us with
 | nil=>cases h
 | cons a t=>cases t with
  | nil=>exact⟨a,rfl⟩
  | cons b t=>cases h
theorem ln2{us:List α}(h:us.length=2):∃ a b,us=[a,b]:=by
 cases us with
 | nil=>cases h
 | cons a t=>obtain⟨b,rfl⟩:=zy (Gz h);exact⟨a,b,rfl⟩
def mh(K:PySem.W.Frag):Bool:=K.all λp=>match p.2.cls with
 | .type t=>t != "list"
 | _=>true
theorem oj{K:PySem.W.Frag}(h:mh K=true){a:Addr}{o:Obj}(e:K.lookup a=some o):o.cls≠.type "list" := by
 induction K with
 | nil=>cases e
 | cons p r ih =>
  obtain⟨b,u⟩:=p;rw[mh,Ew,C5] at h;rw[C6] at e;cases q:a==b with
  | true =>
   rw[q] at e;cases e;intro z;have h1:=h.1;simp only[z] at h1;exact absurd h1 (by decide)
  | false=>rw[q] at e;exact ih h.2 e
theorem jh{H:Hp}:∀ ns:List Int,aw H (ns.map PV.int) (ns.map V.int)
 | []=>.nil
 | i::r=>.cons (.int i) (jh r)
theorem kY{l:PySem.W.OpenLaw}{q:Program}{loose:List Str}{XP:(Str->Option Value)->Heap->Prop}{YP:World->Heap->Prop}{d:DefRec}{K:Params->PySem.W.Frag}{sem:List PV->M PV}
  (hn:l.most=some n) (hn2:n<=sizeLine) (hdf:d.params.defaults=[]) (hr:bW k callerA)
  (hY:∀ (w:World) (h:Heap),YP w h->(K w.params).In h)
  (hK:∀ w:World,mh (K w.params)=true)
  (F:∀ (w:World) (mg:Str->Option Value) (fa:Addr) (h:Heap),(K w.params).In h->h.Ns mainGlobals mg->mg d.name=some (.ref fa) ->
   ∃ fd:FuncData,(∀ (s:Shared) (u:Value),BindsTo s fd ⟨[u],[]⟩ [(x,u)]) ∧
    ∀ base:Heap,(K w.params).In base->base.Ns mainGlobals mg->bK l.prog w (K w.params) mg base (dz l.prog w) k fa fd [x] (gp 1 sem))
  (BG:∀ ns:List Int,ns.length<=n->(∀ i∈ns,EJ i<=1048576)->sem [.dD (ns.map PV.int)]=M.ok (.bl true)) :
  PySem.W.WalkO q loose XP YP l.row.toRowW d [] (λf vs=>PySem.call f vs):=by
 intro w s₀ s₁ mg mb G Y fa o pm cd doc dV kV ho hd AY hD hmg hg args vals as ny hlay hrd hwl hlo;obtain rfl:dV=.none:=PySem.W.Dflts.none hD hdf;obtain rfl:kV=.none:=PySem.W.Dflts.noKw hD;obtain⟨a,vs,ns,rfl,rfl,hobj,hints,hlen⟩:=Att.mQ hn ny hwl;have B0:∀ i∈ns,EJ i<=1048576:=λi hi=>by
  have h1:=PySem.W.layableW_arg hlay _ (CW.mpr rfl);have h2:=PySem.W.layableW_item h1 (.int i) (DR.mpr ⟨i,hi,rfl⟩);exact intBits_le_of_layable h2
 have KX:=hY w _ Y;obtain⟨fd,hb,hF⟩:=F w mg fa _ KX G.T.g hmg;have hs:=BG ns hlen B0;refine PySem.W.enter_call (Fd (o8 KX G.T.g G.T.b G.T.builtins G.T.nolimit hg hobj hints (CN hlen hn2) hr hF hb (λH hO hS=>⟨rfl,H,[.dD (ns.map PV.int)],λ_ _ e=>e,?_,?_⟩) λH e s' z=>?_) λr s' hq=>?_)
 .rcases hS with (hS | ⟨ob,hS⟩) | ⟨ob,z7,m,e1,e2,_⟩
  .rcases hO a with z | ⟨ob,xs,z⟩
   .rw[z] at hS;cases hS
   .rw[z] at hS;cases hS
  .exact .cons (.dD hS (jh ns)) .nil
  .exact absurd e2 (oj (hK w) e1)
 .rw[hs];intro v z8 H' g r;cases r;rfl
 .obtain⟨ea,T,C,dd,Hc,_,_,_,_,_,_,_,_,z⟩:=z;exact z
 .obtain⟨rfl,h2,h3,h4⟩:=hq;exact⟨.inl ⟨.bool true,.bool true,[],rfl,λ_=>rfl,.bool true,Att.nu l _,λ_=>⟨List.Pairwise.nil,λ_ hm=>(nomatch hm)⟩⟩,h2,h3,h4⟩
abbrev wV(x q:Str)(t:Stmt)(s:Value)(c:Addr):FuncData:=PySem.W.fnOf x q (d_ t) (cU t) (aS t) .none .none .none s none (.ref c) .none
variable{t:Stmt}
theorem cN.of{K:PySem.W.Frag}{q:Str}{dv kV doc pm:Value}{an:Option Addr}{Al ct:Value}(h1:K.lookup f=some ⟨.type "function", none,.func (PySem.W.fnOf x q (d_ t) (cU t) (aS t) dv kV doc pm an Al ct),⟨[]⟩⟩)(h2:PySem.W.codeIn K Al q=true)(h3:PySem.W.keepIn K (.ref f)=true):cN K x q t dv f (PySem.W.fnOf x q (d_ t) (cU t) (aS t) dv kV doc pm an Al ct):=⟨⟨_,_,_,_,_,_,_,_,_,rfl,h1,h2⟩,h3⟩
section
variable{P:List α->Prop}
theorem zL(h:∀ a b,P [a,b]):∀ us,us.length=2->P us:=λus hl=>by obtain⟨a,b,rfl⟩:=ln2 hl;exact h a b
end
theorem cX.of{N P:List Str}{sc:Scope}(h1:autoParam (sc.kind=.function) aR._auto_1)(h2:autoParam (sc.isCoroutine=false) aR._auto_1)(h3:autoParam (sc.isGenerator=false) aR._auto_1)(h4:autoParam (N.Nodup) aN._auto_1)(h5:autoParam (N.take P.length=P) aR._auto_1)(h6:autoParam (∀ x∈P,sc.names.lookup x=some .local\/sc.names.lookup x=some .cell) aN._auto_1)(h7:autoParam (∀ y∈sc.names,y.2≠.free) aN._auto_1):cX N P sc:=⟨h1,h2,h3,h4,h5,h6,h7⟩
theorem et(hN:X.N.Nodup)(hi:autoParam (X.N[i]?=some x) aR._auto_1)(hx:autoParam (Loc X.env.scope x) aG._auto_1)(hf:autoParam (X.fn x=true\/X.env.scope.names.lookup x=some .local) aG._auto_1):PG X (.Name x pos) (cB i):=sX hN hi hx hf
def vv:Nat->(List Value->Prop)->Prop
 | 0,P=>P []
 | n+1,P=>∀ a,vv n λl=>P (a::l)
theorem mE:∀ {n:Nat} {P:List Value->Prop},vv n P->∀ us:List Value,us.length=n->P us
 | 0,_,h,[],_=>h
 | n+1,_,h,a::r,e=>mE (h a) r (Gz e)
section
variable{K:PySem.W.Frag}{h:Heap}{q:Str}{m:Nat}{sem:List PV->M PV}{tO:List PV->M (List PV)}
theorem m6(P:Program)(w:World)(base:Heap)(X:K.In h)(G:h.Ns mainGlobals mg)(a c:Addr)(s:Value)(ok:cN K x q t .none a (wV x q t s c)->bK P w K mg base (dz P w) n a (wV x q t s c) ps (gp m (bP m sem)))
  (h1:autoParam (K.lookup a=some ⟨.type "function", none,.func (wV x q t s c),⟨[]⟩⟩) aK._auto_1) (h2:autoParam (PySem.W.codeIn K (.ref c) q=true) aK._auto_1) (h3:autoParam (PySem.W.keepIn K (.ref a)=true) aK._auto_1) (h4:autoParam (PySem.W.nsIn K mainGlobals x=some (some (.ref a))) aK._auto_1)
  (h5:autoParam (ps.length=m) aR._auto_1) (h6:vv ps.length λus=>bindArgs (wV x q t s c) ⟨us,[]⟩=pure (ps.zip us):=by (repeat intro _);rfl):gH P w K mg base n x m sem :=
 ⟨⟨a,_,ps,PySem.W.mg_of X G h4,h3,h5,.all (mE h6),ok (.of h1 h2 h3)⟩⟩
end
theorem cN.k7{K:PySem.W.Frag}{qual:Str}{st:Stmt}{dv:Value}{g:aa->M Out}(F:cN K x qual st dv f fd)(N:List Str)
  (hb:N.Nodup->∀ (Al:Value) (A:Around) (outer:List Env) (s:Shared) (H:Hp) (E:XK),bW k (A.deeper (envOfC qual (aS st) s.heap.objs.size f Al))->ez ((iA (dz P w) P w K mg base N qual (aS st) f Al A outer s H E).out λ_=>E) (λ_=>E)->gk ((iA (dz P w) P w K mg base N qual (aS st) f Al A outer s H E).out λ_=>E) (cU st) (tS E g))
  (S:cX N ps (aS st):=by exact .of):bK P w K mg base (dz P w) (k+1) f fd ps (gp ps.length (bP ps.length (bo N.length g))):=F.zM S (hb S.nd)
end L2
namespace kP
open PySem L2 PyProof.Rows
def dh:Addr:=51
def cT:Addr:=70
def aE:Addr:=89
def fb:Addr:=31
def c5:List Addr:=[aE]
def c7:List Addr:=[]
def dP:List Addr:=[]
def dX:List Addr:=[aE]
def gi:List Addr:=[]
def gj:List Addr:=[]
def dn:List Addr:=[]
def dk:List Addr:=[aE]
def fw:List Addr:=[]
def fj:List Addr:=[]
def fR:List Addr:=[aE]
def fS:List Addr:=[]
def gb:List Addr:=[]
def fW:List Addr:=[]
abbrev cI(i:Int):aa->M PV:=λ_=>M.ok (.int i)
def bV:aa->M Out :=
 (ar (retS (nO iZ (λ_=>M.ok (.str " ")) (fq (dU (itemsOf (ae 0)) (dm 0) none (ak kA (af (ae 0) ay)) 1 []))))
 aq)
def br:List PV->M PV:=bP 1 (bo 1 bV)
def cO:aa->M Out :=
 (ar (eL (rR (gD (cm (jk wY wY (cI 1) (ak fm (af (ae 0) ay)) (cI 30)))) (gD (cm (ak nr (af (fq (dU (signsOf (ae 0)) (dm 0) none (aj sy (ae 0) (λ_=>M.ok (.str "0123456789"))) 1 [])) ay))))) (ar (retS (λ_=>M.ok (.bl false)))
 aq) aq)
 (ar (retS (y_ (aj j0 (aj cL (ae 0) (cI 0)) (λ_=>M.ok (.str "0"))) (aj gy (ae 0) (λ_=>M.ok (.str "0")))))
 aq))
def cH:List PV->M PV:=bP 1 (bo 1 cO)
def cx:aa->M Out :=
 (ar (bI 1 (om (cm (nO gM (ae 0) (λ_=>M.ok (.str "-")))) (bf (ae 0) (aY (cI 1)) dC) (ae 0)))
 (ar (eL (rR (gD (cm (ak cH (af (ae 1) ay)))) (cm (aj gy (ae 0) (λ_=>M.ok (.str "-0"))))) (ar (eE aE (af (λ_=>M.ok (.str "this is no whole number of at most thirty figures")) ay))
 aq) aq)
 (ar (retS (ak mI (af (ae 0) ay)))
 aq)))
def bN:List PV->M PV:=bP 1 (bo 2 cx)
def cD:aa->M Out :=
 (ar (eL (gD (cm (kQ (λa=>eM a "str") gL gL (ae 0)))) (ar (eE aE (af (λ_=>M.ok (.str "this is no text")) ay))
 aq) aq)
 aq)
def bz:List PV->M PV:=bP 1 (bo 1 cD)
def cZ:aa->M Out :=
 (ar (eL (cm (aj x_ (ae 1) (ak fm (af (ae 0) ay)))) (ar (retS (aj cL (ae 0) (ae 1)))
 aq) aq)
 (ar (bI 2 (aj cu (aj eK (cI 7919) (ae 1)) (cI 5)))
 (ar (eL (cm (aj tP (ak fm (af (ae 0) ay)) (cI 0))) (ar (bI 2 (aj cj (aj cu (aj cL (ae 0) (aj cj (aj eK (cI 7) (ae 1)) (ak fm (af (ae 0) ay)))) (aj eK (cI 7919) (ae 1))) (cI 2147483647)))
 aq) aq)
 (ar (retS (aj cj (aj eK (ae 2) (ae 2)) (cI 2147483629)))
 aq))))
def bw:List PV->M PV:=bP 2 (bo 3 cZ)
def cQ:aa->M Out :=
 (ar (bI 2 (aj cj (aj cu (aj cu (ae 0) (aj eK (cI 7919) (ae 1))) (cI 11)) (cI 2147483647)))
 (ar (bI 2 (aj cj (aj cu (aj eK (ae 2) (ae 2)) (aj eK (cI 48271) (ae 1))) (cI 2147483629)))
 (ar (retS (aj cj (aj cu (aj cu (aj eK (ae 2) (ae 2)) (aj eK (cI 7) (ae 2))) (ae 1)) (cI 2147483587)))
 aq)))
def aH:List PV->M PV:=bP 2 (bo 3 cQ)
def bR(rS:List PV->M PV):aa->M Out :=
 (ar (eL (cm (kQ (λa=>["list", "tuple"].any λt=>eM a t) gL gL (ae 1))) (ar (eL (rR (cm (aj j0 (kQ (λa=>eM a "list") gL gL (ae 1)) (kQ (λa=>eM a "list") gL gL (ae 0)))) (gD (cm (kQ (λa=>["list", "tuple"].any λt=>eM a t) gL gL (ae 0))))) (ar (retS (λ_=>M.ok (.bl false)))
 aq) aq)
 (ar (eL (cm (aj j0 (ak fm (af (ae 0) ay)) (ak fm (af (ae 1) ay)))) (ar (retS (λ_=>M.ok (.bl false)))
 aq) aq)
 (ar (pW (xr zip2 (af (ae 0) (af (ae 1) ay))) (uh 2 3) (ar (eL (gD (cm (ak (bP 2 rS) (af (ae 2) (af (ae 3) ay))))) (ar (retS (λ_=>M.ok (.bl false)))
 aq) aq)
 aq))
 (ar (retS (λ_=>M.ok (.bl true)))
 aq)))) aq)
 (ar (eL (cm (aj f6 (ae 1) (λ_=>M.ok .bL))) (ar (retS (aj f6 (ae 0) (λ_=>M.ok .bL)))
 aq) aq)
 (ar (eL (cm (kQ (λa=>eM a "str") gL gL (ae 1))) (ar (retS (iC (kQ (λa=>eM a "str") gL gL (ae 0)) (aj gy (ae 0) (ae 1))))
 aq) aq)
 (ar (retS (iC (kQ (λa=>eM a "int") gL gL (ae 0)) (iC (rm (kQ (λa=>eM a "bool") gL gL (ae 0))) (aj gy (ae 0) (ae 1)))))
 aq))))
def aB:Nat->List PV->M PV
 | 0=>λ_=>none
 | n+1=>bo 4 (bR (aB n))
def bu:List PV->M PV:=bP 2 (aB 3)
def cy:aa->M Out :=
 (ar (bI 2 (ak aH (af (ae 0) (af (ae 1) ay))))
 (ar (eL (cm (aj gy (aj cj (ae 2) (cI 3)) (cI 0))) (ar (retS (aj oJ (aj cj (aj c_ (ae 2) (cI 3)) (cI 9)) (cI 4)))
 aq) aq)
 (ar (eL (cm (aj gy (aj cj (ae 2) (cI 3)) (cI 1))) (ar (retS (aj cj (aj c_ (ae 2) (cI 3)) (cI 720)))
 aq) aq)
 (ar (bI 3 (aj cu (aj eK (aj cj (ak aH (af (ae 0) (af (aj cu (ae 1) (cI 61)) ay))) (aj nM (cI 10) (cI 9))) (aj nM (cI 10) (cI 20))) (ae 2)))
 (ar (retS (aj cL (iM (af (ae 3) (af (aj oJ (cI 0) (ae 3)) ay))) (aj cj (aj c_ (ae 2) (cI 3)) (cI 2))))
 aq)))))
def bc:List PV->M PV:=bP 2 (bo 4 cy)
def cV:aa->M Out :=
 (ar (bI 1 (λ_=>M.ok (.str " !\"#$&'()*+,-./0123456789:;<=>?@ABCDEFGHIJKLMNOPQRSTUVWXYZ[]^_abcdefghijklmnopqrstuvwxyz{|}~
")))
 (ar (bI 1 (aj cu (ae 1) (λ_=>M.ok (.str "  --00119  ;::-0 "))))
 (ar (retS (aj cL (ae 1) (aj cj (ae 0) (ak fm (af (ae 1) ay)))))
 aq)))
def cz:List PV->M PV:=bP 1 (bo 2 cV)
def bY:aa->M Out :=
 (ar (bI 2 (aj cj (aj c_ (ae 1) (cI 8)) (aj cu (ak fm (af (ae 0) ay)) (cI 1))))
 (ar (bI 3 (aj cj (ae 1) (cI 5)))
 (ar (eL (cm (aj gy (ae 3) (cI 1))) (ar (retS (aj cu (aj cu (bf (ae 0) dC (aY (ae 2))) (ak cz (af (aj c_ (ae 1) (cI 4000)) ay))) (bf (ae 0) (aY (ae 2)) dC)))
 aq) aq)
 (ar (eL (cm (aj gy (ae 3) (cI 2))) (ar (retS (aj cu (aj cu (bf (ae 0) dC (aY (ae 2))) (ak cz (af (aj c_ (ae 1) (cI 4000)) ay))) (bf (ae 0) (aY (aj cu (ae 2) (cI 1))) dC)))
 aq) aq)
 (ar (eL (cm (aj gy (ae 3) (cI 3))) (ar (retS (aj cu (bf (ae 0) dC (aY (ae 2))) (bf (ae 0) (aY (aj cu (ae 2) (cI 1))) dC)))
 aq) aq)
 (ar (eL (cm (aj gy (ae 3) (cI 4))) (ar (bI 4 (iM (af (λ_=>M.ok (.str "-")) (af (λ_=>M.ok (.str "-0")) (af (λ_=>M.ok (.str "00")) (af (λ_=>M.ok (.str "07")) (af (λ_=>M.ok (.str "-01")) (af (λ_=>M.ok (.str "+1")) (af (λ_=>M.ok (.str "1.0")) (af (λ_=>M.ok (.str " 1")) (af (λ_=>M.ok (.str "1 ")) (af (λ_=>M.ok (.str "--1")) (af (λ_=>M.ok (.str "1_0")) (af (λ_=>M.ok (.str "x")) (af (aj ou (λ_=>M.ok (.str "9")) (aj cu (cI 29) (aj cj (aj c_ (ae 1) (cI 5)) (cI 4)))) ay)))))))))))))))
 (ar (retS (aj cu (aj cu (ae 0) (aj cL (iM (af (λ_=>M.ok (.str " ")) (af (λ_=>M.ok (.str "")) ay))) (aj cj (aj c_ (ae 1) (cI 4000)) (cI 2)))) (aj cL (ae 4) (aj cj (aj c_ (ae 1) (cI 80)) (cI 13)))))
 aq)) aq)
 (ar (retS (ae 0))
 aq)))))))
def bX:List PV->M PV:=bP 2 (bo 5 bY)
def bD:aa->M Out :=
 (ar (bI 1 (ae 0))
 (ar (eL (cm (aj gy (bf (ae 0) dC (aY (cI 1))) (λ_=>M.ok (.str "-")))) (ar (bI 1 (bf (ae 0) (aY (cI 1)) dC))
 aq) aq)
 (ar (eL (rR (cm (aj gy (ae 1) (λ_=>M.ok (.str "")))) (rR (cm (aj tP (ak fm (af (ae 1) ay)) (cI 30))) (cm (aj tP (ak fm (af (fq (dU (signsOf (ae 1)) (dm 0) (some (cm (aj mz (ae 0) (λ_=>M.ok (.str "0123456789"))))) (ae 0) 1 [])) ay)) (cI 0))))) (ar (retS (λ_=>M.ok .bL))
 aq) aq)
 (ar (eL (vE (cm (aj gy (aj cL (ae 1) (cI 0)) (λ_=>M.ok (.str "0")))) (rR (cm (aj tP (ak fm (af (ae 1) ay)) (cI 1))) (cm (aj j0 (ae 0) (ae 1))))) (ar (retS (λ_=>M.ok .bL))
 aq) aq)
 (ar (retS (ak mI (af (ae 0) ay)))
 aq)))))
def aZ:List PV->M PV:=bP 1 (bo 2 bD)
def dt:aa->M Out :=
 (ar (eL (cm (aj gy (ae 0) (λ_=>M.ok (.str "")))) (ar (retS (jl ay))
 aq) aq)
 (ar (bI 1 (fq (dU (itemsOf (nO jB (ae 0) (λ_=>M.ok (.str " ")))) (dm 0) none (ak aZ (af (ae 0) ay)) 1 [])))
 (ar (eL (cm (aj inD (λ_=>M.ok .bL) (ae 1))) (ar (retS (λ_=>M.ok .bL))
 aq) aq)
 (ar (retS (ak eG (af (ae 1) ay)))
 aq))))
def dj:List PV->M PV:=bP 1 (bo 2 dt)
def bq:aa->M Out :=
 (ar (l6 (ak bz (af (ae 0) ay)))
 (ar (eL (cm (aj gy (ae 0) (λ_=>M.ok (.str "")))) (ar (retS (jl ay))
 aq) aq)
 (ar (retS (ak eG (af (fq (me (itemsOf (nO jB (ae 0) (λ_=>M.ok (.str " ")))) (dm 0) (ak bN (af (ae 0) ay)) 1 [])) ay)))
 aq)))
def aM:List PV->M PV:=bP 1 (bo 1 bq)
def aW:aa->M Out :=
 (ar (bI 2 (λ_=>M.ok .bL))
 (ar (bI 3 (λ_=>M.ok .bL))
 (ar (og (bI 2 (ak aM (af (ae 0) ay))) [(kb c5 c7,some 4,(ar (bI 3 (ae 4))
 aq))])
 (ar (eL (cm (aj f6 (ae 1) (λ_=>M.ok .bL))) (ar (retS (iC (kQ (λ_=>false) (kb gb fW) (kb fR fS) (ae 3)) (iC (rm (ue (kb dP dX) (kb dn dk) (ae 3))) (aj f6 (ae 2) (λ_=>M.ok .bL)))))
 aq) aq)
 (ar (retS (iC (aj f6 (ae 3) (λ_=>M.ok .bL)) (ak bu (af (ae 2) (af (ae 1) ay)))))
 aq)))))
def av:List PV->M PV:=bP 2 (bo 5 aW)
def oQ:aa->M Out :=
 (ar (bI 1 (fq (dU (itemsOf (kR (ae 0) (aY (cI 1)) (aY (cI 41)))) (dm 0) none (ak bc (af (ae 0) (af (cI 3) ay))) 1 [])))
 (ar (bI 2 (aj cL (iM (af (ak ko (af (ae 1) ay)) (af (ak eG (af (ae 1) ay)) ay))) (aj cj (ak aH (af (ak bw (af (ae 0) (af (cI 0) ay))) (af (cI 2) ay))) (cI 2))))
 (ar (tK 3 (kF ay))
 (ar (pW (itemsOf (ae 1)) (dm 4) (ar (bI 5 (ak kA (af (ae 4) ay)))
 (ar (nq 3 (ae 5))
 aq)))
 (ar (rh [3] (bI 6 (nO iZ (λ_=>M.ok (.str " ")) (ae 3))))
 (ar (eL (rR (gD (cm (ak bu (af (ak br (af (ae 2) ay)) (af (ae 6) ay))))) (cm (aj j0 (ak ko (af (ae 2) ay)) (ae 1)))) (ar (retS (λ_=>M.ok (.bl false)))
 aq) aq)
 (ar (eL (gD (cm (ak av (af (ae 6) (af (ak eG (af (ae 1) ay)) ay))))) (ar (retS (λ_=>M.ok (.bl false)))
 aq) aq)
 (ar (pW (xr oC (af (cI 6) ay)) (dm 7) (ar (bI 8 (ak bX (af (ae 6) (af (ak aH (af (ak bw (af (ae 0) (af (ae 7) ay))) (af (aj cu (cI 50) (ae 7)) ay))) ay))))
 (ar (eL (gD (cm (ak av (af (ae 8) (af (ak dj (af (ae 8) ay)) ay))))) (ar (retS (λ_=>M.ok (.bl false)))
 aq) aq)
 aq)))
 (ar (bI 9 (aj cL (iM (af (λ_=>M.ok .bL) (af (cI 5) (af (λ_=>M.ok (.bl true)) (af (iM (af (λ_=>M.ok (.str "1")) ay)) (af (jl (af (λ_=>M.ok (.str "1")) ay)) (af (λ_=>M.ok .emp) (af (iM (af (cI 1) ay)) (af (jl (af (cI 1) (af (cI 2) ay))) ay))))))))) (aj cj (ak aH (af (ak bw (af (ae 0) (af (cI 0) ay))) (af (cI 4) ay))) (cI 8))))
 (ar (retS (iC (ak av (af (ae 9) (af (λ_=>M.ok .bL) ay))) (iC (ak av (af (λ_=>M.ok (.str "")) (af (jl ay) ay))) (aj gy (ak br (af (jl ay) ay)) (λ_=>M.ok (.str ""))))))
 aq))))))))))
def i5:List PV->M PV:=bP 1 (bo 10 oQ)
end kP
namespace kP
open PySem L2 PyProof.Rows
local macro_rules | `(tactic| walk_at "s")=>`(tactic| exact⟨rfl,rfl,rfl,by decide +kernel,rfl,by decide +kernel,by decide +kernel⟩)
local macro_rules | `(tactic| walk_at "l")=>`(tactic| first | exact .inl rfl | exact .inr rfl)
local macro_rules | `(tactic| walk_at "pp")=>`(tactic| all_goals repeat' (first | ((with_reducible show gk _ _ (tS _ (ar _ _)));refine p6 ?_ ?_) | ((with_reducible show gk _ _ (tS _ aq));exact sS) | ((with_reducible show PE _ _ (tE _ (ae _)));exact vr _) | ((with_reducible show PA _ _ (tL _ (af _ _)));refine sG ?_ ?_ ?_) | ((with_reducible show starEach _ _=_);exact xO rfl) | ((with_reducible show PA _ _ (tL _ ay));exact uM) | ((with_reducible show PE _ _ (tE _ (λ_=>M.ok (.int _))));first | exact v_ | exact d0 (t_ (by rfl) (by assumption)) λ_=>.int _) | ((with_reducible show PE _ _ (tE _ (λ_=>M.ok (.bl _))));exact yg) | ((with_reducible show PE _ _ (tE _ (λ_=>M.ok .bL)));exact vm) | ((with_reducible show PE _ _ (tE _ (λ_=>M.ok (.str _))));exact wN) | ((with_reducible show PE _ _ (tE _ (aj cu _ _)));refine eF rY uX ?_ ?_) | ((with_reducible show PE _ _ (tE _ (aj oJ _ _)));refine eF u4 wy ?_ ?_) | ((with_reducible show PE _ _ (tE _ (aj eK _ _)));refine eF rz v8 ?_ ?_) | ((with_reducible show PE _ _ (tE _ (aj c_ _ _)));refine eF qe qj ?_ ?_) | ((with_reducible show PE _ _ (tE _ (aj cj _ _)));refine eF r_ rD ?_ ?_) | ((with_reducible show PE _ _ (tE _ (aj nM _ _)));refine eF wc sR ?_ ?_) | ((with_reducible show PE _ _ (tE _ (aj cL _ _)));refine u_ ?_ ?_ ?_) | ((with_reducible show jY _);exact λ_ _=>rfl) | ((with_reducible show PT _ _ (tT _ (cm (aj gy _ _))));refine dI (pz (bW.units (by assumption))) uq ?_ ?_ (cG _)) | ((with_reducible show PE _ _ (tE _ (aj gy _ _)));refine eH (pz (bW.units (by assumption))) uq ?_ ?_ (cG _)) | ((with_reducible show PT _ _ (tT _ (cm (aj j0 _ _))));refine dI (oM (bW.units (by assumption))) ug ?_ ?_ (cG _)) | ((with_reducible show PE _ _ (tE _ (aj j0 _ _)));refine eH (oM (bW.units (by assumption))) ug ?_ ?_ (cG _)) | ((with_reducible show PT _ _ (tT _ (cm (aj x_ _ _))));refine dI uo pD ?_ ?_ (cG _)) | ((with_reducible show PE _ _ (tE _ (aj x_ _ _)));refine eH uo pD ?_ ?_ (cG _)) | ((with_reducible show PT _ _ (tT _ (cm (aj wY _ _))));refine dI mw jx ?_ ?_ (cG _)) | ((with_reducible show PE _ _ (tE _ (aj wY _ _)));refine eH mw jx ?_ ?_ (cG _)) | ((with_reducible show PT _ _ (tT _ (cm (aj tP _ _))));refine dI tV oB ?_ ?_ (cG _)) | ((with_reducible show PE _ _ (tE _ (aj tP _ _)));refine eH tV oB ?_ ?_ (cG _)) | ((with_reducible show PT _ _ (tT _ (cm (aj f6 _ _))));refine dI p3 qu ?_ ?_ (cG _)) | ((with_reducible show PE _ _ (tE _ (aj f6 _ _)));refine eH p3 qu ?_ ?_ (cG _)) | ((with_reducible show PT _ _ (tT _ (gD _)));refine vp ?_) | ((with_reducible show PT _ _ (tT _ (cm (ak _ _))));refine jv ?_) | ((with_reducible show PT _ _ (tT _ (cm (kQ _ _ _ _))));refine jv ?_) | ((with_reducible show PT _ _ (tT _ (cm (ae _))));refine jv ?_) | ((with_reducible show PS _ _ (tS _ (retS _)));refine wH ?_) | ((with_reducible show PS _ _ (tS _ (bI _ _)));refine u0 ?_ ?_ ?_ ?_ ?_ ?_;assumption;exact rfl;(first | exact .inl rfl | exact .inr rfl);rotate_left;rfl;(first | exact .inl rfl | exact .inr rfl | assumption)) | ((with_reducible show PS _ _ (tS _ (eL _ _ _)));refine xo ?_ ?_ ?_) | ((with_reducible show PS _ _ (tS _ (nq _ _)));refine m5 rfl (by first | exact .inl rfl | exact .inr (.inl rfl)) ?_) | ((with_reducible show PS _ _ (tS _ (tK _ _)));refine tJ (by assumption) rfl (by walk_at "l") ?_) | ((with_reducible show PE _ _ (tO _ (kF _)));refine wK ?_) | ((with_reducible show PS _ _ (tS _ (rh _ _)));refine wJ _ ?_) | ((with_reducible show PS _ _ (tS _ (l6 _)));refine rk ?_) | ((with_reducible show PS _ _ (tS _ (eE _ _)));refine sY.raise (by assumption) (by assumption) rfl (by rfl) ?_) | ((with_reducible show PE _ _ (tE _ (jl _)));refine uD ?_) | ((with_reducible show PE _ _ (tE _ (iM _)));refine wI ?_) | ((with_reducible show PE _ _ (tE _ (om _ _ _)));refine vM ?_ ?_ ?_) | ((with_reducible show PE _ _ (tE _ (ak fm _)));refine kG mO vX (by rfl) (by assumption) PySem.boot_len ?_) | ((with_reducible show PE _ _ (tE _ (ak eG _)));refine cP iD oE (by rfl) (by assumption) ie ?_) | ((with_reducible show PE _ _ (tE _ (ak ko _)));refine cP jP sU (by rfl) (by assumption) fx ?_) | ((with_reducible show PE _ _ (tE _ (ak nr _)));refine kG (nF rfl) wz (by rfl) (by assumption) vk ?_) | ((with_reducible show PE _ _ (tE _ (ak _ _)));refine gH.call (by assumption) (by assumption) (by lia) (by rfl) (by first | assumption | exact xR) ?_) | ((with_reducible show PT _ _ (tT _ (cm (aj inD _ _))));refine dI (u5 (bW.zC (by assumption))) u3 ?_ ?_ rfl)))
def top(i:Nat):Stmt:=PySem.Challenge.pw_dialvault_k15_numbers_as_texts.main.body.getD i (.Pass ⟨0,0,0,0⟩)
structure Txt (K:PySem.W.Frag) (mg:Str->Option Value):Prop where
 xp:mg "all" = none
 oa:mg "bool" = none
 l9:mg "int" = none
 aA:mg "isinstance" = none
 xH:mg "len" = none
 ix:mg "list" = none
 lX:mg "range" = none
 i0:mg "str" = none
 jS:mg "tuple" = none
 ua:mg "zip" = none
 iY:∃ u,mg "FIGURES" = some u/\RelV (.str "0123456789") u
 gU:∃ u,mg "MOST_FIGURES" = some u/\RelV (.int 30) u
 oW:sY K mg aE "NoText"
 dq:yT K mg "VaultError" fb c5 c7
 hR:rg K mg "NoNumber" dh dP dX gi gj
 gv:rg K mg "NoSetting" cT dn dk fw fj
 kv:rg K mg "NoText" aE fR fS gb fW
local macro_rules | `(tactic| walk_at "t")=>`(tactic| (have z:=‹Txt _ _›;cases z))
variable{P:Program}{w:World}{K:PySem.W.Frag}{mg:Str->Option Value}{base:Heap}{f:Addr}{fd:FuncData}{dv:Value}
theorem eR:((["number"]:List Str)++([]:List Str)).Nodup:=by decide +kernel
theorem gC(F:cN K "show_numbers" "show_numbers" (top 8) dv f fd)(T:Txt K mg)  : bK P w K mg base (dz P w) 1 f fd ["numbers"] (gp 1 br) :=
 F.k7 ["numbers"] λnd _ _ _ _ _ _ hr O=>by
 unfold bV;walk_at "t";walk_at "pp";refine(j4 PySem.F.slot_str_join PySem.F.type_str_join lO mB ?_ ?_);walk_at "pp";refine(jM (j6 (g:=(cB 0)) (ts:=["number"]) (fs:=[]) (js:=[]) (cl:=[]) rfl rfl rfl rfl rfl rfl .nil .nil (ia ?_) eX (λ_ _ _ _ _=>(et (i:=0) eR)) (λ_=>cW) cb (λ_ _ _ _ _=>?_)));walk_at "pp";refine(cP fy l8 (by rfl) T.i0 hV ?_);walk_at "pp"
theorem gB:((["sign"]:List Str)++([]:List Str)).Nodup:=by decide +kernel
theorem iG(F:cN K "is_figures" "is_figures" (top 9) dv f fd)(T:Txt K mg)  : bK P w K mg base (dz P w) 1 f fd ["text"] (gp 1 cH) :=
 F.k7 ["text"] λnd _ _ _ _ _ _ hr O=>by
 unfold cO;walk_at "t";walk_at "pp";refine(iv ?_ (f9 ?_)).pt;walk_at "pp";refine(pZ mw jx mw jx ?_ ?_ ?_);walk_at "pp";refine(jM (j6 (g:=(cB 0)) (ts:=["sign"]) (fs:=[]) (js:=[]) (cl:=[]) rfl rfl rfl rfl rfl rfl .nil .nil (pK ?_) mn (λ_ _ _ _ _=>(et (i:=0) gB)) (λ_=>cW) cb (λ_ _ _ _ _=>?_)));walk_at "pp";refine(eH ni vt ?_ ?_ (by rfl));walk_at "pp";exact(yb (by rfl) T.iY);walk_at "pp";refine(xF ?_ (gc ?_));walk_at "pp"
theorem hG(F:cN K "read_number" "read_number" (top 10) dv f fd)(T:Txt K mg)(Av:gH P w K mg base 1 "is_figures" 1 (bo 1 cO)):bK P w K mg base (dz P w) 2 f fd ["text"] (gp 1 bN) :=
 F.k7 ["text", "figures"] λnd _ _ _ _ _ _ hr O=>by
 unfold cx;walk_at "t";walk_at "pp";refine(jv ?_ );walk_at "pp";refine(j4 PySem.F.slot_str_startswith PySem.F.type_str_startswith nI mY ?_ ?_);walk_at "pp";refine(bG ?_ (bZ ?_) cM);walk_at "pp";refine(iv ?_ (f9 ?_)).pt;walk_at "pp";refine(cP i7 mj (by rfl) T.l9 lh ?_);walk_at "pp"
theorem jD(F:cN K "need_text" "need_text" (top 12) dv f fd)(T:Txt K mg)  : bK P w K mg base (dz P w) 1 f fd ["thing"] (gp 1 bz) :=
 F.k7 ["thing"] λnd _ _ _ _ _ _ hr O=>by
 unfold cD;walk_at "t";walk_at "pp";refine(eO (T := "str") (by rfl) T.aA (bU (v:=.ty "str") (by rfl) T.i0 hV rfl) (by decide) eo eo ?_);walk_at "pp"
theorem jR(F:cN K "_law_cell" "_law_cell" (top 14) dv f fd)(T:Txt K mg)  : bK P w K mg base (dz P w) 1 f fd ["_law_script", "_law_k"] (gp 2 bw) :=
 F.k7 ["_law_script", "_law_k", "_law_number_here"] λnd _ _ _ _ _ _ hr O=>by
 unfold cZ;walk_at "t";walk_at "pp"
theorem kE(F:cN K "_law_mix" "_law_mix" (top 15) dv f fd)(T:Txt K mg)  : bK P w K mg base (dz P w) 1 f fd ["_law_cell_here", "_law_k"] (gp 2 aH) :=
 F.k7 ["_law_cell_here", "_law_k", "_law_number_here"] λnd _ _ _ _ _ _ hr O=>by
 unfold cQ;walk_at "t";walk_at "pp"
theorem dw(F:cN K "_law_same" "_law_same" (top 16) dv f fd)(T:Txt K mg){rS:List PV->M PV}{n:Nat}(o_rec:gH P w K mg base n "_law_same" 2 rS)(hn:0<=n):bK P w K mg base (dz P w) (n+1) f fd ["_law_found", "_law_due_here"] (gp 2 (bP 2 (bo 4 (bR rS)))) :=
 F.k7 ["_law_found", "_law_due_here", "_law_one", "_law_other"] λnd _ _ _ _ _ _ hr O=>by
 unfold bR;walk_at "t";walk_at "pp";refine(l_ (Ts:=["list", "tuple"]) (by rfl) T.aA (jm (aX (bU (v:=.ty "list") (by rfl) T.ix fx rfl) (aX (bU (v:=.ty "tuple") (by rfl) T.jS ie rfl) c8))) (fun σ H R h=>⟨by show 2<=sizeLine;decide,h⟩) (by decide) eo ?_);walk_at "pp";refine(iv ?_ (f9 ?_)).pt;walk_at "pp";refine(eO (T := "list") (by rfl) T.aA (bU (v:=.ty "list") (by rfl) T.ix fx rfl) (by decide) eo eo ?_);walk_at "pp";refine(eO (T := "list") (by rfl) T.aA (bU (v:=.ty "list") (by rfl) T.ix fx rfl) (by decide) eo eo ?_);walk_at "pp";refine(l_ (Ts:=["list", "tuple"]) (by rfl) T.aA (jm (aX (bU (v:=.ty "list") (by rfl) T.ix fx rfl) (aX (bU (v:=.ty "tuple") (by rfl) T.jS ie rfl) c8))) (fun σ H R h=>⟨by show 2<=sizeLine;decide,h⟩) (by decide) eo ?_);walk_at "pp";refine(jI (g:=(vP K 2 (kj (cB 2) (kj (cB 3) ux)))) O rfl (wu (by rfl) T.ua ?_) qI (wO (n:=2) rfl (j_ (et (i:=2) nd) (j_ (et (i:=3) nd) qZ))) sZ ?_);walk_at "pp";refine(eO (T := "str") (by rfl) T.aA (bU (v:=.ty "str") (by rfl) T.i0 hV rfl) (by decide) eo eo ?_);walk_at "pp";refine(dS ?_ (gc ?_));walk_at "pp";refine(eO (T := "str") (by rfl) T.aA (bU (v:=.ty "str") (by rfl) T.i0 hV rfl) (by decide) eo eo ?_);walk_at "pp";refine(dS ?_ (dS ?_ (gc ?_)));walk_at "pp";refine(eO (T := "int") (by rfl) T.aA (bU (v:=.ty "int") (by rfl) T.l9 lh rfl) (by decide) eo eo ?_);walk_at "pp";refine(pb ?_);walk_at "pp";refine(eO (T := "bool") (by rfl) T.aA (bU (v:=.ty "bool") (by rfl) T.oa tq rfl) (by decide) eo eo ?_);walk_at "pp"
theorem il(F:cN K "_law_number" "_law_number" (top 17) dv f fd)(T:Txt K mg)(Ak:gH P w K mg base 1 "_law_mix" 2 (bo 3 cQ)):bK P w K mg base (dz P w) 2 f fd ["_law_cell_here", "_law_k"] (gp 2 bc) :=
 F.k7 ["_law_cell_here", "_law_k", "_law_number_here", "_law_far"] λnd _ _ _ _ _ _ hr O=>by
 unfold cy;walk_at "t";walk_at "pp"
theorem jN(F:cN K "_law_sign" "_law_sign" (top 18) dv f fd)(T:Txt K mg)  : bK P w K mg base (dz P w) 1 f fd ["_law_number_here"] (gp 1 cz) :=
 F.k7 ["_law_number_here", "_law_some"] λnd _ _ _ _ _ _ hr O=>by
 unfold cV;walk_at "t";walk_at "pp"
theorem gF(F:cN K "_law_spoiled" "_law_spoiled" (top 19) dv f fd)(T:Txt K mg)(Ax:gH P w K mg base 1 "_law_sign" 1 (bo 2 cV)):bK P w K mg base (dz P w) 2 f fd ["_law_text", "_law_cell_here"] (gp 2 bX) :=
 F.k7 ["_law_text", "_law_cell_here", "_law_at", "_law_way", "_law_odd"] λnd _ _ _ _ _ _ hr O=>by
 unfold bY;walk_at "t";walk_at "pp";refine(bG ?_ cM (bZ ?_));walk_at "pp";refine(bG ?_ (bZ ?_) cM);walk_at "pp";refine(bG ?_ cM (bZ ?_));walk_at "pp";refine(bG ?_ (bZ ?_) cM);walk_at "pp";refine(bG ?_ cM (bZ ?_));walk_at "pp";refine(bG ?_ (bZ ?_) cM);walk_at "pp";refine(eF sj tH ?_ ?_);walk_at "pp"
theorem eh:((["_law_sign_here"]:List Str)++([]:List Str)).Nodup:=by decide +kernel
theorem fG(F:cN K "_law_number_in" "_law_number_in" (top 20) dv f fd)(T:Txt K mg)  : bK P w K mg base (dz P w) 1 f fd ["_law_word"] (gp 1 aZ) :=
 F.k7 ["_law_word", "_law_figures"] λnd _ _ _ _ _ _ hr O=>by
 unfold bD;walk_at "t";walk_at "pp";refine(bG ?_ cM (bZ ?_));walk_at "pp";refine(bG ?_ (bZ ?_) cM);walk_at "pp";refine(iv ?_ (iv ?_ (f9 ?_))).pt;walk_at "pp";refine(jM (pI (g:=(cB 0)) (ts:=["_law_sign_here"]) (fs:=[]) (js:=[]) (cl:=[]) rfl rfl rfl rfl rfl rfl .nil .nil (pK ?_) mn (λ_ _ _ _ _=>(et (i:=0) eh)) (λ_=>cW) cb (λ_ _ _ _ _=>?_) (λ_ _ _ _ _=>?_)));walk_at "pp";refine(dI jL ti ?_ ?_ (by rfl));walk_at "pp";refine(uW ?_ (rf ?_)).pt;walk_at "pp";refine(iv ?_ (f9 ?_)).pt;walk_at "pp";refine(cP i7 mj (by rfl) T.l9 lh ?_);walk_at "pp"
theorem iH:((["_law_word"]:List Str)++([]:List Str)).Nodup:=by decide +kernel
theorem km(F:cN K "_law_due" "_law_due" (top 21) dv f fd)(T:Txt K mg)(Aj:gH P w K mg base 1 "_law_number_in" 1 (bo 2 bD)):bK P w K mg base (dz P w) 2 f fd ["_law_text"] (gp 1 dj) :=
 F.k7 ["_law_text", "_law_found"] λnd _ _ _ _ _ _ hr O=>by
 unfold dt;walk_at "t";walk_at "pp";refine(md (i:=1) (g:=(cB 0)) (ts:=["_law_word"]) (fs:=[]) (js:=[]) (cl:=[]) rfl rfl rfl rfl rfl rfl .nil .nil (ia ?_) eX (λ_ _ _ _ _=>(et (i:=0) iH)) (λ_=>cW) cb (λ_ _ _ _ _=>?_) nd rfl (by walk_at "l"));walk_at "pp";refine(j4 PySem.F.slot_str_split PySem.F.type_str_split kr kO ?_ ?_);walk_at "pp"
theorem eV:((["word"]:List Str)++([]:List Str)).Nodup:=by decide +kernel
theorem gz(F:cN K "read_numbers" "read_numbers" (top 11) dv f fd)(T:Txt K mg)(Ay:gH P w K mg base 1 "need_text" 1 (bo 1 cD))(Au:gH P w K mg base 2 "read_number" 1 (bo 2 cx)):bK P w K mg base (dz P w) 3 f fd ["text"] (gp 1 aM) :=
 F.k7 ["text"] λnd _ _ _ _ _ _ hr O=>by
 unfold bq;walk_at "t";walk_at "pp";refine(jM (oG rfl rfl (λ_ _ z=>z.un) (g:=(cB 0)) (ts:=["word"]) (fs:=[]) (js:=[]) (cl:=[]) rfl rfl rfl rfl rfl rfl .nil .nil (ia ?_) eX (λ_ C s₀ H₀ ex z0=>(et (i:=0) eV)) (λ_=>cW) cb (λEx C s₀ H₀ ex z0 O2=>?_)));walk_at "pp";refine(j4 PySem.F.slot_str_split PySem.F.type_str_split kr kO ?_ ?_);walk_at "pp"
theorem eI(F:cN K "_law_read_right" "_law_read_right" (top 22) dv f fd)(T:Txt K mg)(Ao:gH P w K mg base 3 "read_numbers" 1 (bo 1 bq))(Ah:gH P w K mg base 3 "_law_same" 2 (aB 3)):bK P w K mg base (dz P w) 4 f fd ["_law_thing", "_law_due_here"] (gp 2 av) :=
 F.k7 ["_law_thing", "_law_due_here", "_law_found", "_law_caught", "e"] λnd _ _ _ _ _ _ hr O=>by
 unfold aW;walk_at "t";walk_at "pp";refine(vO rfl rfl (λpn E2 O2=>(vy (i:=2) nd rfl (by walk_at "l") ?_)) (.t5 (i:=4) (by rfl) T.dq.mg (by decide) nd rfl rfl T.dq.ok (λea=>?_) .nil));walk_at "pp";refine(dS ?_ (dS ?_ (gc ?_)));walk_at "pp";refine(T.kv.is (by rfl) T.aA (by rfl) ?_);walk_at "pp";refine(pb ?_);walk_at "pp";refine(s_ T.hR T.gv (by rfl) T.aA (by rfl) (by rfl) ?_);walk_at "pp";refine(dS ?_ (gc ?_));walk_at "pp"
theorem qz:((["_law_cell_here"]:List Str)++([]:List Str)).Nodup:=by decide +kernel
theorem wC(F:cN K "law" "law" (top 23) dv f fd)(T:Txt K mg)(As:gH P w K mg base 2 "_law_number" 2 (bo 4 cy))(Aw:gH P w K mg base 1 "_law_cell" 2 (bo 3 cZ))(Ak:gH P w K mg base 1 "_law_mix" 2 (bo 3 cQ))(Ap:gH P w K mg base 1 "show_numbers" 1 (bo 1 bV))(Ah:gH P w K mg base 3 "_law_same" 2 (aB 3))(Ag:gH P w K mg base 4 "_law_read_right" 2 (bo 5 aW))(An:gH P w K mg base 2 "_law_spoiled" 2 (bo 5 bY))(AE:gH P w K mg base 2 "_law_due" 1 (bo 2 dt)):bK P w K mg base (dz P w) 5 f fd ["_law_script"] (gp 1 i5) :=
 F.k7 ["_law_script", "_law_numbers", "_law_handed", "_law_words", "_law_number_here", "_law_word", "_law_text", "_law_k", "_law_other", "_law_odd"] λnd _ _ _ _ _ _ hr O=>by
 unfold oQ;walk_at "t";walk_at "pp";refine(md (i:=1) (g:=(cB 0)) (ts:=["_law_cell_here"]) (fs:=[]) (js:=[]) (cl:=[]) rfl rfl rfl rfl rfl rfl .nil .nil (ia ?_) eX (λ_ _ _ _ _=>(et (i:=0) qz)) (λ_=>cW) cb (λ_ _ _ _ _=>?_) nd rfl (by walk_at "l"));walk_at "pp";refine(mS ?_ (bZ ?_) (bZ ?_));walk_at "pp";refine(jI (g:=(cB 4)) O rfl (ia ?_) eX (et (i:=4) nd) cW ?_);walk_at "pp";refine(cP fy l8 (by rfl) T.i0 hV ?_);walk_at "pp";refine(j4 PySem.F.slot_str_join PySem.F.type_str_join lO mB ?_ ?_);walk_at "pp";refine(iv ?_ (f9 ?_)).pt;walk_at "pp";refine(jI (g:=(cB 7)) O rfl (mR (by rfl) T.lX ?_) qq (et (i:=7) nd) cW ?_);walk_at "pp";exact vJ;walk_at "pp";refine(dS ?_ (dS ?_ (gc ?_)));walk_at "pp"
end kP
namespace kP
open PySem L2 PyProof.Rows
open PySem.W (nsIn findIn codeIn keepIn isFn mroIn specialIn takesIn hasDictIn typeIn plainGet plainOver makesIn mg_of mg_none_of fnOf excIn clsIn)
abbrev κ(w:World):PySem.W.Frag:=HD.K w.params
variable(w:World)
abbrev ye:Value:=HD.st "dialvault.texts" 283
abbrev qG:Value:=HD.st "law_dialvault_k15_numbers_as_texts" 322
def bF:FuncData:=wV "_law_same" "_law_same" (top 16) qG 140
theorem bx:cN (κ w) "_law_same" "_law_same" (top 16) .none 141 bF:=.of (by kernel_rfl) (by kernel_rfl) (by kernel_rfl)
theorem cS:Binds (κ w) bF ["_law_found", "_law_due_here"] []:=Binds.all (zL λ_ _=>rfl)
def k_:FuncData:=wV "law" "law" (top 23) qG 183
theorem xl:cN (κ w) "law" "law" (top 23) .none 184 k_:=.of (by kernel_rfl) (by kernel_rfl) (by kernel_rfl)
theorem dZ:fE (κ w) aE:=⟨(by kernel_rfl),(by kernel_rfl),(by kernel_rfl),(by kernel_rfl),(by kernel_rfl),(by kernel_rfl),(by kernel_rfl),(by kernel_rfl),(by kernel_rfl)⟩
theorem zP:nsIn (κ w) mainGlobals "FIGURES" = some (some (.str "0123456789" 285)):=by kernel_rfl
theorem zQ:nsIn (κ w) mainGlobals "MOST_FIGURES" = some (some (.int 30 287)):=by kernel_rfl
theorem zH:nsIn (κ w) mainGlobals "VaultError" = some (some (.ref 31)):=by kernel_rfl
theorem zI:nR (λC=>PySem.W.exmOne (κ w) (.ref C) (.ref fb)) c5 c7=true:=by kernel_rfl
theorem zR:nsIn (κ w) mainGlobals "NoNumber" = some (some (.ref 51)):=by kernel_rfl
theorem zX:(pY.all λa=>PySem.W.kitOne (κ w) (.type a) (.ref dh)==some false)=true:=by kernel_rfl
theorem zZ:nR (λC=>PySem.W.kitOne (κ w) (.ref C) (.ref dh)) gi gj=true:=by kernel_rfl
theorem zW:nR (λC=>PySem.W.kitOne (κ w) (.ref C) (.ref dh)) dP dX=true:=by kernel_rfl
theorem zK:nsIn (κ w) mainGlobals "NoSetting" = some (some (.ref 70)):=by kernel_rfl
theorem zY:(pY.all λa=>PySem.W.kitOne (κ w) (.type a) (.ref cT)==some false)=true:=by kernel_rfl
theorem zT:nR (λC=>PySem.W.kitOne (κ w) (.ref C) (.ref cT)) fw fj=true:=by kernel_rfl
theorem zD:nR (λC=>PySem.W.kitOne (κ w) (.ref C) (.ref cT)) dn dk=true:=by kernel_rfl
theorem zq:nsIn (κ w) mainGlobals "NoText" = some (some (.ref 89)):=by kernel_rfl
theorem zA:(pY.all λa=>PySem.W.kitOne (κ w) (.type a) (.ref aE)==some false)=true:=by kernel_rfl
theorem zx:nR (λC=>PySem.W.kitOne (κ w) (.ref C) (.ref aE)) gb fW=true:=by kernel_rfl
theorem zV:nR (λC=>PySem.W.kitOne (κ w) (.ref C) (.ref aE)) fR fS=true:=by kernel_rfl
theorem yq:nsIn (κ w) mainGlobals "_law_same" = some (some (.ref 141)):=by kernel_rfl
variable{h:Heap}
theorem txt{w:World}{mg:Str->Option Value}(X:PySem.W.Frag.In (κ w) h)(G:h.Ns mainGlobals mg):Txt (κ w) mg where
 xp:=mg_none_of X G (by kernel_rfl)
 oa:=mg_none_of X G (by kernel_rfl)
 l9:=mg_none_of X G (by kernel_rfl)
 aA:=mg_none_of X G (by kernel_rfl)
 xH:=mg_none_of X G (by kernel_rfl)
 ix:=mg_none_of X G (by kernel_rfl)
 lX:=mg_none_of X G (by kernel_rfl)
 i0:=mg_none_of X G (by kernel_rfl)
 jS:=mg_none_of X G (by kernel_rfl)
 ua:=mg_none_of X G (by kernel_rfl)
 iY:=⟨_,mg_of X G (zP w),⟨_,rfl⟩⟩
 gU:=⟨_,mg_of X G (zQ w),⟨_,rfl⟩⟩
 oW:=⟨(by kernel_rfl),dZ w,(by kernel_rfl),(by kernel_rfl),mg_of X G (by kernel_rfl)⟩
 dq:=.of (mg_of X G (zH w)) (zI w)
 hR:=.of (mg_of X G (zR w)) (zX w) (zZ w) (zW w) gK gK gK (yX (dZ w) gK)
 gv:=.of (mg_of X G (zK w)) (zY w) (zT w) (zD w) gK gK gK (yX (dZ w) gK)
 kv:=.of (mg_of X G (zq w)) (zA w) (zx w) (zV w) gK gK (yX (dZ w) gK) gK
theorem uE{P:Program}{w:World}{mg:Str->Option Value}(X:PySem.W.Frag.In (κ w) h)(G:h.Ns mainGlobals mg)(base:Heap):bK P w (κ w) mg base (dz P w) 5 184 k_ ["_law_script"] (gp 1 i5):=by
 have T:=txt X G;have Ap:=m6 P w base X G 96 95 ye λD=>gC D T;have Av:=m6 P w base X G 101 100 ye λD=>iG D T;have Au:=m6 P w base X G 108 107 ye λD=>hG D T Av;have Ay:=m6 P w base X G 120 119 ye λD=>jD D T;have Aw:=m6 P w base X G 127 126 qG λD=>jR D T;have Ak:=m6 P w base X G 134 133 qG λD=>kE D T;have AJ:gH P w (κ w) mg base 0 "_law_same" 2 (aB 0):=⟨⟨141,bF,["_law_found", "_law_due_here"],mg_of X G (yq w),(bx w).kp,rfl,cS w,bK.no⟩⟩
 have AK:gH P w (κ w) mg base 1 "_law_same" 2 (aB 1):=⟨⟨141,bF,["_law_found", "_law_due_here"],mg_of X G (yq w),(bx w).kp,rfl,cS w,dw (bx w) T AJ (by lia) ⟩⟩
 have AL:gH P w (κ w) mg base 2 "_law_same" 2 (aB 2):=⟨⟨141,bF,["_law_found", "_law_due_here"],mg_of X G (yq w),(bx w).kp,rfl,cS w,dw (bx w) T AK (by lia) ⟩⟩
 have Ah:gH P w (κ w) mg base 3 "_law_same" 2 (aB 3):=⟨⟨141,bF,["_law_found", "_law_due_here"],mg_of X G (yq w),(bx w).kp,rfl,cS w,dw (bx w) T AL (by lia) ⟩⟩
 have As:=m6 P w base X G 148 147 qG λD=>il D T Ak;have Ax:=m6 P w base X G 155 154 qG λD=>jN D T;have An:=m6 P w base X G 162 161 qG λD=>gF D T Ax;have Aj:=m6 P w base X G 167 166 qG λD=>fG D T;have AE:=m6 P w base X G 172 171 qG λD=>km D T Aj;have Ao:=m6 P w base X G 113 112 ye λD=>gz D T Ay Au;have Ag:=m6 P w base X G 179 178 qG λD=>eI D T Ao Ah;exact wC (xl w) T As Aw Ak Ap Ah Ag An AE
theorem y9:mh (κ w)=true:=by kernel_rfl
theorem y8:nsIn (κ w) mainGlobals "law" = some (some (.ref 184)):=by kernel_rfl
end kP
open PySem PySem.W
theorem kP.hold(said:PySem.Challenge.rw_dialvault_k15_numbers_as_texts.wellSaid=true)(BG:∀ ns:List Int,ns.length<=63->(∀ i∈ns,EJ i<=1048576)->kP.i5 [.dD (ns.map L2.PV.int)]=L2.M.ok (.bl true)):PySem.Challenge.rw_dialvault_k15_numbers_as_texts.Holds:=by
 refine holds_law said λsaid=>?_;refine holds_open (q:=HD.vw) (loose:=HD.loose) (Xt:=HD.Xt) (XP:=XL HD.vw []) (Yf:=Hook.obs HD.hook) (Ya:=Hook.val HD.hook) (YP:=Hook.says HD.hook) HD.xy (Hook.of HD.hook) (Hook.keeps HD.hook) (λs e=>xl_of s (DG.mp e).1) XL.keeps (by rfl) (by rfl) (by rfl) (λs e=>recFacts_of (DG.mp e).2) (by rfl) said (by decide +kernel) ⟨rfl,rfl,rfl,rfl,rfl,by decide +kernel⟩ ?hw ?hc
 case hw=>w_witness2
 refine L2.kY (l:=PySem.Challenge.rw_dialvault_k15_numbers_as_texts) (n:=63) (k:=5) (x := "_law_script") (K:=HD.K) (sem:=kP.i5) rfl (by decide) rfl ⟨rfl,by decide,by decide⟩ (λw h Y=>PySem.W.kIn_of Y) (λw=>kP.y9 w) (λw mg fa h X G hmg=>?_) BG;have e:=hmg.symm.trans (PySem.W.mg_of X G (kP.y8 w));cases e;exact⟨kP.k_,λs v=>.of_eq rfl,λbase X' G'=>kP.uE X' G' base⟩
namespace kP
open PySem L2 PyProof.Rows
local macro_rules | `(tactic| dsimp? [$ts,*])=>`(tactic| simp only[cI,bP,bo,a_,ar,kx,qv,retS,bI,tK,l6,eL,aq,M.aL,M.bind_some,M.bind_none,M.pQ,M.bind_assoc,ae,aj,ak,af,ay,sV,qV,vU,vc,uU,vd,vK,vI,vb,vf,vT,we,v9,vR,uT,wM,cm,gD,vE,rR,rm,iC,y_,om,yG,xv,jk,sD,itemsOf,xr,tw,rV,mJ,rA,sE,qx,qC,qp,rn,r0,n_,qy,pe,fm,eG,ko,uH,List.length_cons,List.length_nil,List.map_cons,List.map_nil,List.cons_append,List.nil_append,List.replicate,List.getElem?_cons_zero,List.getElem?_cons_succ,List.getElem?_nil,List.set_cons_zero,List.set_cons_succ,List.set_nil,Nat.reduceAdd,Nat.reduceSub,if_true,if_false,Bool.not_true,Bool.not_false,Bool.false_eq_true,ite_true,ite_false,reduceIte,reduceCtorEq,Nat.sub_self,dJ,fq,dU,Option.map_some,Option.map_none,kQ,vZ,wA,rW,qL,qO,uJ,rH,tD,qX,eM,List.any_cons,List.any_nil,String.reduceBEq,Bool.or_false,Bool.or_true,Bool.true_or,Bool.false_or,Bool.and_true,Bool.and_false,Bool.true_and,Bool.false_and,qR,sd,wb,u6,ro,rC,q_,rP,pV,oR,pW,rh,List.foldl_cons,List.foldl_nil,pL,ao trivial,$(⟨ts.elemsAndSeps⟩),*])
variable{a b:Str}
theorem dy(h:a.cps.toList=b.cps.toList):a=b:=by
 cases a;cases b;simp only[Str.mk.injEq];exact Array.toList_inj.mp h
theorem len_list(a:Str):a.cps.toList.length=a.length:=D6
def Sv(a:Str):Prop:=∀ c∈a.cps.toList,c<0x110000
theorem Sv.ok(h:Sv a):GA a=true:=by
 unfold GA;rw[Array.all_eq_true];intro i hi;exact decide_eq_true (h _ (Array.getElem_mem_toList hi))
theorem Sv.shaped{a:Str}(h:Sv a):D3 (.str a)=true:=by simp[D3,Di,Dr,h.ok]
theorem my(a b:Str):(a==b)=decide (a=b):=by by_cases h:a=b <;> simp[h]
theorem cK(ha:Sv a)(hb:Sv b):gy (.str a) (.str b)=M.ok (.bl (decide (a=b))):=by
 unfold gy gI dat;show (qw (.str a) (.str b)).bind _=_;unfold qw;rw[ao ⟨ha.shaped,hb.shaped,rfl⟩];show M.ok (PV.bl (a==b))=_;rw[my]
theorem l5(ha:Sv a)(hb:Sv b):j0 (.str a) (.str b)=M.ok (.bl (!decide (a=b))):=by
 unfold j0 gI dat;show (qw (.str a) (.str b)).bind _=_;unfold qw;rw[ao ⟨ha.shaped,hb.shaped,rfl⟩];show M.ok (PV.bl (!(a==b)))=_;rw[my]
def fg(c:Nat):Bool:=decide (48<=c/\c<=57)
theorem oU:(Cn "0123456789").cps.toList=[48,49,50,51,52,53,54,55,56,57]:=by decide +kernel
theorem lS(c:Nat):qQ ⟨#[c]⟩ (Cn "0123456789")=fg c:=by
 unfold qQ fg;rw[StrLaws.found_one,oU]
 by_cases h:48<=c/\c<=57
 .rw[decide_eq_true h,decide_eq_true_eq];simp only[CK,E8,or_false];lia
 .rw[decide_eq_false h,decide_eq_false_iff_not];simp only[CK,E8,or_false];rintro(rfl | rfl | rfl | rfl | rfl | rfl | rfl | rfl | rfl | rfl) <;> exact h (by decide)
theorem kC(a:Str)(i j:Nat)(h1:i<=j)(h2:j<=a.length):ck a (some (i:Int)) (some (j:Int))=⟨((a.cps.toList.drop i).take (j-i)).toArray⟩:=by
 unfold ck;rw[StrLaws.sliced_plain a h1 h2,StrLaws.strSliceIndices_plain h1 h2];simp only[Cv,List.length_range,beq_iff_eq]
 by_cases h:j-i=a.length
 .rw[if_pos h];have hi:i=0:=by lia
  subst hi;apply dy;simp only[Gv];rw[Fi (by rw[len_list];lia)]
 .rw[if_neg h]
theorem uA(i n:Nat)(h:i<=n):CJ (some (i:Int)) none 1 n=CJ (some (i:Int)) (some (n:Int)) 1 n:=by
 unfold CJ;have h1:¬ ((n:Int)<0):=by lia
 have e2:max (0:Int) (min (n:Int) (n:Int))=n:=by lia
 simp only[h1,if_false,e2,show ((1:Int)>0)=True from by simp,if_true]
theorem u7(j n:Nat)(h:j<=n):CJ none (some (j:Int)) 1 n=CJ (some ((0:Nat):Int)) (some (j:Int)) 1 n:=by
 unfold CJ;have h1:¬ (((0:Nat):Int)<0):=by lia
 have e2:max (0:Int) (min ((0:Nat):Int) (n:Int))=0:=by lia
 simp only[h1,if_false,e2,show ((1:Int)>0)=True from by simp,if_true]
theorem uw(a:Str)(i:Nat)(h:i<=a.length):ck a (some (i:Int)) none=⟨(a.cps.toList.drop i).toArray⟩:=by
 have e:=kC a i a.length h (Cs _);unfold ck at e ⊢;rw[uA i a.length h,e,Fi (by rw[Ep,len_list];lia)]
theorem vV(a:Str)(j:Nat)(h:j<=a.length):ck a none (some (j:Int))=⟨(a.cps.toList.take j).toArray⟩:=by
 have e:=kC a 0 j (DF _) h;unfold ck at e ⊢;rw[u7 j a.length h,e];rfl
theorem jn(a:Str)(l u:Option Int):(ck a l u).length<=a.length:=by
 unfold ck
 by_cases h:((CJ l u 1 a.length).length==a.length)=true
 .rw[if_pos h];exact Cs _
 .rw[if_neg h];show (List.toArray _).size<=_;rw[Ct];exact CN (List.length_filterMap_le _ _) (indices_len_le l u a.length)
theorem fP:(Cn "-").cps.toList=[45]:=by decide +kernel
theorem dY:(Cn "0").cps.toList=[48]:=by decide +kernel
theorem lQ:(Cn "-0").cps.toList=[45,48]:=by decide +kernel
theorem cn:(Cn "").cps.toList=[]:=by decide +kernel
def bd(cs:List Nat):List Nat:=match cs with
 | 45::r=>r
 | r=>r
theorem jU(r:List Nat):bd (45::r)=r:=rfl
theorem jr{cs:List Nat}(h:cs.head?≠some 45):bd cs=cs:=by
 unfold bd
 split
 .exact absurd rfl h
 .rfl
theorem kN(a:Str):(decide (0+(Cn "-").length<=a.length)&&E0 a (Cn "-") 0)=decide (a.cps.toList.head?=some 45):=by
 rw[StrLaws.subAt_eq,fP,show (Cn "-").length=1 from by decide +kernel,<- len_list a];cases a.cps.toList with
 | nil=>decide
 | cons c r=>simp;by_cases h:c=45 <;> simp[h]
variable{c:Nat}
theorem si{l u:Option Int}(h:c∈(ck a l u).cps.toList):c∈a.cps.toList:=by
 unfold ck at h
 split at h
 .exact h
 .obtain⟨i,_,e⟩:=EO.mp (show c∈((CJ l u 1 a.length).filterMap (a.cps[·]?)) from h);rw[<- Fw] at e;exact Fx e
theorem Sv.cut(h:Sv a)(l u:Option Int):Sv (ck a l u):=λc hc=>h c (si hc)
theorem app_list(a b:Str):(a++b).cps.toList=a.cps.toList++b.cps.toList:=by
 show (a.cps++b.cps).toList=_;exact Array.toList_append
theorem Sv.app(ha:Sv a)(hb:Sv b):Sv (a++b):=λc hc=>by
 rw[app_list] at hc;rcases ED.mp hc with h | h
 .exact ha c h
 .exact hb c h
theorem ij(y:Str):∀ (ws:List Str) {p:Str} {c:Nat},p∈ws->c∈p.cps.toList->c∈(Dz y ws).cps.toList
 | [],_,_,h,_=>by cases h
 | [a],p,c,h,hc=>by
  rw[CW] at h;subst h;exact hc
 | a::b::r,p,c,h,hc=>by
  show c∈(a++y++Dz y (b::r)).cps.toList;rw[app_list,app_list];rcases CK.mp h with e | e
  .subst e;exact DE _ (DE _ hc)
  .exact CH _ (ij y (b::r) e hc)
theorem Sv.part{y p:Str}(h:Sv a)(hp:p∈Txt.split a y):Sv p:=λc hc=>h c (by
 have:=ij y _ hp hc
 rwa [FY] at this)
theorem Sv.join{y:Str}(hy:Sv y):∀ (ws:List Str),(∀ p∈ws,Sv p)->Sv (Dz y ws)
 | [],_=>λc hc=>by cases hc
 | [a],h=>h a (CW.mpr rfl)
 | a::b::r,h=>((h a Cz).app hy).app (Sv.join hy (b::r) λp hp=>h p (CB _ hp))
theorem ke{c:Nat}:∀ {a b x y:List Nat},c ∉ a->c ∉ b->a++c::x=b++c::y->a=b/\x=y
 | [],[],_,_,_,_,h=>⟨rfl,(DT h).2⟩
 | [],d::b,_,_,_,hb,h=>absurd (CK.mpr (.inl (DT h).1)) hb
 | d::a,[],_,_,ha,_,h=>absurd (CK.mpr (.inl (DT h).1.symm)) ha
 | d::a,e::b,x,y,ha,hb,h=>by
  obtain⟨h1,h2⟩:=DT h;obtain⟨h3,h4⟩:=ke (λz=>ha (CB _ z)) (λz=>hb (CB _ z)) h2;exact⟨by rw[h1,h3],h4⟩
theorem j3{c:Nat}:∀ {a b:Str} {v w:List Str},(∀ p∈a::v,c ∉ p.cps.toList)->(∀ p∈b::w,c ∉ p.cps.toList)->Dz ⟨#[c]⟩ (a::v)=Dz ⟨#[c]⟩ (b::w)->a::v=b::w
 | a,b,[],[],_,_,h=>by rw[show a=b from h]
 | a,b,[],d::w,ha,hb,h=>by
  have h:=congrArg (λs:Str=>s.cps.toList) (show a=b++⟨#[c]⟩++Dz ⟨#[c]⟩ (d::w) from h);simp only[app_list] at h;exact absurd (by rw[h];simp) (ha a Cz)
 | a,b,d::v,[],ha,hb,h=>by
  have h:=congrArg (λs:Str=>s.cps.toList) (show a++⟨#[c]⟩++Dz ⟨#[c]⟩ (d::v)=b from h);simp only[app_list] at h;exact absurd (by rw[<- h];simp) (hb b Cz)
 | a,b,d::v,e::w,ha,hb,h=>by
  have h:=congrArg (λs:Str=>s.cps.toList) (show a++⟨#[c]⟩++Dz ⟨#[c]⟩ (d::v)=b++⟨#[c]⟩++Dz ⟨#[c]⟩ (e::w) from h);simp only[app_list,Ek] at h;obtain⟨h1,h2⟩:=ke (ha a Cz) (hb b Cz) (show a.cps.toList++c::(Dz ⟨#[c]⟩ (d::v)).cps.toList=b.cps.toList++c::(Dz ⟨#[c]⟩ (e::w)).cps.toList from h);rw[dy h1,j3 (λp hp=>ha p (CB _ hp)) (λp hp=>hb p (CB _ hp)) (dy h2)]
theorem oi(x y:Str):Txt.split x y≠[]:=by
 unfold Txt.split
 split
 .exact D4 _ _
 .split
  .exact D4 _ _
  .rw[StrLaws.partsBetween_eq];obtain⟨p,r,e⟩:=StrLaws.partsFrom_ne x y.length 0 (CT x y 0 x.length (x.length+1));rw[e];exact D4 _ _
theorem kS{v:List Str}(h:∀ p∈a::v,c ∉ p.cps.toList):Txt.split (Dz ⟨#[c]⟩ (a::v)) ⟨#[c]⟩=a::v:=by
 have e:=FY (Dz ⟨#[c]⟩ (a::v)) ⟨#[c]⟩;have f:=StrLaws.split_free (Dz ⟨#[c]⟩ (a::v)) c;cases hs:Txt.split (Dz ⟨#[c]⟩ (a::v)) ⟨#[c]⟩ with
 | nil=>exact absurd hs (oi _ _)
 | cons b w =>
  rw[hs] at e f;exact j3 f h e
variable{x0:Option SV}{α:Type}
theorem sP{t:aa->M Bool}{f:aa->M PV}{inj h:α->PV}{b:α->Bool}{rest:aa}(xs:List α)(Ht:∀ a∈xs,t (some (.sh (inj a))::rest)=M.ok (b a))(H:∀ a∈xs,f (some (.sh (inj a))::rest)=M.ok (h a)):bO (dm 0) (some t) f (xs.map inj) (x0::rest)=M.ok ((xs.filter b).map h):=by
 induction xs generalizing x0 with
 | nil=>rfl
 | cons a r ih =>
  have i:=ih (x0:=some (.sh (inj a))) (λc hc=>Ht c (CB _ hc)) λc hc=>H c (CB _ hc);rw[CZ,bO];show M.bind (M.ok ((x0::rest).set 0 (some (.sh (inj a))))) _=_;rw[M.aL,Ed];show M.bind (t _) _=_;rw[Ht a Cz,M.aL];cases e:b a with
  | true=>rw[if_pos rfl,H a Cz,M.aL,i,List.filter_cons_of_pos e];rfl
  | false=>rw[if_neg (by simp),i,List.filter_cons_of_neg (by simp[e])]
variable{n:Nat}
theorem cY(h:n<=10000):n<=sizeLine:=CN h (by unfold sizeLine;decide)
theorem len_str(h:a.length<=10000):ju (.str a)=M.ok (.int a.length):=ao (cY h)
theorem iw(h:a.length<=10000)(l u:Option Int):wx (.str a) l u=M.ok (.str (ck a l u)):=ao (cY (CN (jn a l u) h))
theorem l4{r:List Nat}(h:a.length<=10000)(e:a.cps.toList=c::r):cL (.str a) (.int 0)=M.ok (.str ⟨#[c]⟩):=by
 show bB _ (cJ ((h_ a.cps.toList 0).map λc=>.str ⟨#[c]⟩))=_;rw[ao (cY h),e];have z:sI (r.length+1) 0=some 0:=by
  unfold sI;simp
 unfold h_;rw[C2,z];rfl
theorem pR(c d:Nat)(s:String)(h:(Cn s).cps.toList=[d]):((⟨#[c]⟩:Str)=Cn s) ↔ c=d:=by
 constructor
 .intro e;have:=congrArg (λs:Str=>s.cps.toList) e;simp only[h] at this;exact(DT this).1
 .rintro rfl;exact dy (by rw[h])
variable{l:List Nat}
theorem fY(s:String)(h:(Cn s).cps.toList=l):(a=Cn s) ↔ a.cps.toList=l:=by
 constructor
 .rintro rfl;exact h
 .intro e;exact dy (by rw[e,h])
theorem fU{s:String}(h:(Cn s).cps.toList=l)(hl:l.all (λc=>decide (c<0x110000))=true):Sv (Cn s):=λc hc=>by
 rw[h] at hc;exact of_decide_eq_true (CD.mp hl c hc)
theorem jA:Sv (Cn "0"):=fU dY rfl
theorem sC:Sv (Cn "-"):=fU fP rfl
theorem xa:Sv (Cn "-0"):=fU lQ rfl
theorem c9:Sv (Cn ""):=fU cn rfl
theorem lG(h:c<0x110000):Sv ⟨#[c]⟩:=λd hd=>by
 rw[show (⟨#[c]⟩:Str).cps.toList=[c] from rfl,CW] at hd;lia
def vi(bs:List Nat):Bool:=decide (bs.head?≠some 48)||decide (bs=[48])
def g9(bs:List Nat):Bool:=decide (1<=bs.length/\bs.length<=30)&&bs.all fg&&vi bs
theorem mK{bs:List Nat}:bO (dm 0) none (aj sy (ae 0) (λ_=>M.ok (.str (Cn "0123456789")))) (bs.map λc=>.str ⟨#[c]⟩) [none]=M.ok (bs.map λc=>.bl (fg c)):=jT bs λa ha=>by dsimp? [sy,lS]
theorem wD(h:α->Bool)(xs:List α):nr [.lst (xs.map λa=>.bl (h a))]=M.ok (.bl (xs.all h)):=by
 have:=pF (xs.map h);rw[EK] at this;rw[show (λa=>PV.bl (h a))=PV.bl∘h from rfl,this];simp[List.all_map]
theorem iI(hb:Sv b)(hz:b.length<=10000):cH [.str b]=M.ok (.bl (g9 b.cps.toList)):=by
 unfold cH cO g9;have hl:=len_list b;have hg:b.cps.toList.length<=sizeLine:=by rw[hl];exact cY hz
 dsimp? [len_str hz]
 by_cases h1:(1:Int)<=b.length
 .by_cases h2:(b.length:Int)<=30
  .have h3:1<=b.cps.toList.length/\b.cps.toList.length<=30:=by rw[hl];lia
   simp only[h1,h2,h3,decide_true,if_true,Bool.not_true,FZ,if_false,and_self,Bool.true_and];dsimp? [h2,decide_true,L2.signsOf,Cv,ao hg,mK,wD];cases ha:b.cps.toList.all fg with
   | false=>dsimp? []
   | true =>
    cases e:b.cps.toList with
    | nil=>rw[e] at h3;exact absurd h3.1 (by decide)
    | cons c r =>
     have hc:c<0x110000:=hb c (by rw[e];exact Cz);dsimp? [l4 hz e,l5 (lG hc) jA,cK hb jA,pR c 48 "0" dY,fY "0" dY,e];unfold vi
     by_cases h:c=48
     .subst h;dsimp? [decide_true,List.head?_cons];simp
     .simp[h];dsimp? []
  .have h3:¬ (1<=b.cps.toList.length/\b.cps.toList.length<=30):=by rw[hl];lia
   simp only[h1,h2,h3,decide_true,decide_false,if_true,EN];dsimp? [h2,decide_false]
 .have h3:¬ (1<=b.cps.toList.length/\b.cps.toList.length<=30):=by rw[hl];lia
  simp only[h1,h3,decide_false,FZ,if_false,EN];dsimp? []
def bS(a:Str):Str:=if a.cps.toList.head?=some 45 then ck a (some 1) none else a
theorem jE:(bS a).cps.toList=bd a.cps.toList:=by
 unfold bS
 by_cases h:a.cps.toList.head?=some 45
 .rw[if_pos h];cases e:a.cps.toList with
  | nil=>rw[e] at h;cases h
  | cons c r =>
   rw[e] at h;cases h;have h1:1<=a.length:=by rw[<- len_list,e];simp
   rw[show (1:Int)=((1:Nat):Int) from rfl,uw a 1 h1,e];rfl
 .rw[if_neg h,jr h]
theorem t8(h:Sv a):Sv (bS a):=by
 unfold bS
 split
 .exact h.cut _ _
 .exact h
theorem qg(h:a.length<=10000):(bS a).length<=10000:=by
 unfold bS
 split
 .exact CN (jn _ _ _) h
 .exact h
def good(cs:List Nat):Bool:=g9 (bd cs)&&!decide (cs=[45,48])
theorem good_reads(hz:a.length<=10000)(h:good a.cps.toList=true):a.length<=640/\∃ n,PySem.intText? a=some n:=by
 unfold good g9 at h;simp only[C5,decide_eq_true_eq] at h;obtain⟨⟨⟨⟨h1,h2⟩,h3⟩,h4⟩,h5⟩:=h;have hd:PySem.NumText.AllDigits (bd a.cps.toList):=λc hc=>of_decide_eq_true (CD.mp h3 c hc);have hn:bd a.cps.toList≠[]:=λe=>by rw[e] at h1;exact absurd h1 (by decide)
 by_cases h:a.cps.toList.head?=some 45
 .cases e:a.cps.toList with
  | nil=>rw[e] at h;cases h
  | cons c r =>
   rw[e] at h;cases h;rw[e,jU] at hd hn h2;have hl:a.length<=31:=by rw[<- len_list,e,C2];lia
   exact⟨by lia,_,intText_neg e hd hn (by lia)⟩
 .rw[jr h] at hd hn h2;have hl:a.length<=30:=by rw[<- len_list];exact h2
  exact⟨by lia,_,intText_digits hd hn (by lia)⟩
def val(a:Str):Int:=(PySem.intText? a).getD 0
theorem kT(hz:a.length<=10000)(h:good a.cps.toList=true):mI [.str a]=M.ok (.int (val a)):=by
 obtain⟨h1,n,h2⟩:=good_reads hz h;show bB _ (cJ ((PySem.intText? a).map .int))=_;unfold val;rw[ao h1,h2];rfl
theorem lz:1<=sizeLine:=by unfold sizeLine;decide
theorem g_(ha:Sv a)(hz:a.length<=10000):bN [.str a]=if good a.cps.toList=true then M.ok (.int (val a)) else some (.error (aE,none)):=by
 unfold bN cx;have key:(om (cm (nO gM (ae 0) (λ_=>M.ok (.str (Cn "-"))))) (bf (ae 0) (aY (λ_=>M.ok (.int 1))) dC) (ae 0)) [some (.sh (.str a)),none]=M.ok (.str (bS a)):=by
  dsimp? [nO,gM,kN,bf,dC,aY,lE,iw hz];unfold bS
  by_cases h:a.cps.toList.head?=some 45
  .dsimp? [h,decide_true]
  .dsimp? [h,decide_false]
 have e1:a_ 2 [.str a]=[some (.sh (.str a)),none]:=rfl;simp only[bP,bo,e1,ar,bI,key,M.aL,C2,Gp,Nat.zero_add,if_true];dsimp? [iI (t8 ha) (qg hz),cK ha xa,jE,fY "-0" lQ,eE];unfold good;cases h1:g9 (bd a.cps.toList) with
 | false=>dsimp? [ao lz]
 | true =>
  by_cases h2:a.cps.toList=[45,48]
  .dsimp? [h2,decide_true,ao lz]
  .have hg:good a.cps.toList=true:=by unfold good;simp[h1,h2]
   dsimp? [h2,decide_false,kT hz hg]
theorem yN(a:Str):(ck a none (some 1)=Cn "-") ↔ a.cps.toList.head?=some 45:=by
 rw[fY "-" fP];cases e:a.cps.toList with
 | nil =>
  have h:(ck a none (some 1)).length<=0:=by
   have:=jn a none (some 1);rw[<- len_list a,e] at this;exact this
  constructor
  .intro z;rw[<- len_list,z] at h;exact absurd h (by decide)
  .intro z;cases z
 | cons c r =>
  have h1:1<=a.length:=by rw[<- len_list,e];simp
  rw[show (1:Int)=((1:Nat):Int) from rfl,vV a 1 h1,e];simp
theorem oK{bs:List Nat}:bO (dm 0) (some (cm (aj mz (ae 0) (λ_=>M.ok (.str (Cn "0123456789")))))) (ae 0) (bs.map λc=>.str ⟨#[c]⟩) [none]=M.ok ((bs.filter λc=>!fg c).map λc=>.str ⟨#[c]⟩):=sP bs (λa ha=>by dsimp? [mz,lS]) λa ha=>by dsimp? []
theorem jJ(ha:Sv a)(hz:a.length<=10000):aZ [.str a]=M.ok (if good a.cps.toList=true then .int (val a) else .bL):=by
 unfold aZ bD;have e1:a_ 2 [.str a]=[some (.sh (.str a)),none]:=rfl;have key:(eL (cm (aj gy (bf (ae 0) dC (aY (λ_=>M.ok (.int 1)))) (λ_=>M.ok (.str (Cn "-"))))) (ar (bI 1 (bf (ae 0) (aY (λ_=>M.ok (.int 1))) dC)) aq) aq) [some (.sh (.str a)),some (.sh (.str a))]=M.ok (.nx [some (.sh (.str a)),some (.sh (.str (bS a)))]):=by
  dsimp? [bf,dC,aY,lE,iw hz,cK (ha.cut none (some 1)) sC,yN];unfold bS
  by_cases h:a.cps.toList.head?=some 45
  .dsimp? [h,decide_true]
  .dsimp? [h,decide_false]
 have hb:=t8 ha;have hbz:=qg hz;have hl:=len_list (bS a);have hg:(bS a).cps.toList.length<=sizeLine:=by rw[hl];exact cY hbz
 simp only[bP,bo,e1,ar,bI,ae,List.getElem?_cons_zero,M.aL,C2,Gp,Nat.zero_add,if_true,kx,List.set_cons_succ,Ed,key];dsimp? [cK hb c9,fY "" cn,len_str hbz,L2.signsOf,Cv,ao hg,oK];rw[<- hl,jE];cases hbs:bd a.cps.toList with
 | nil =>
  have g:good a.cps.toList=false:=by unfold good g9;simp[hbs]
  dsimp? [g,decide_true]
 | cons c r =>
  have Bq:(bS a).cps.toList=c::r:=by rw[jE,hbs]
  have hc:c<0x110000:=hb c (by rw[Bq];exact Cz);rw[decide_eq_false (D4 c r)]
  by_cases h2:30<((c::r).length:Int)
  .have g:good a.cps.toList=false:=by
    unfold good g9;rw[hbs];have:¬ ((c::r).length<=30):=by lia
    simp only[this,and_false,decide_false,EN]
   rw[decide_eq_true h2,g];rfl
  .rw[decide_eq_false h2];cases h3:(c::r).all fg with
   | false =>
    have g:good a.cps.toList=false:=by
     unfold good g9;rw[hbs,h3];simp
    have z:(0:Int)<((c::r).filter λc=>!fg c).length:=by
     obtain⟨d,hd,e⟩:=List.all_eq_false.mp h3;have:d∈(c::r).filter λc=>!fg c:=EC.mpr ⟨hd,by simp[e]⟩;have:=List.length_pos_of_mem this;lia
    rw[decide_eq_true z,g];rfl
   | true =>
    have z:¬ (0:Int)<((c::r).filter λc=>!fg c).length:=by
     rw[List.filter_eq_nil_iff.mpr λd hd=>by simp[CD.mp h3 d hd]]
     decide
    rw[decide_eq_false z];have hn:¬ (30<(c::r).length):=by lia
    have g:good a.cps.toList=(vi (c::r)&&!decide (a.cps.toList=[45,48])):=by
     unfold good g9;rw[hbs,h3,decide_eq_true (show 1<=(c::r).length/\(c::r).length<=30 from ⟨by simp,by lia⟩)];rfl
    have i:=l4 hbz Bq;dsimp? [i,cK (lG hc) jA,pR c 48 "0" dY,l5 ha hb,len_str hbz]
    by_cases h48:c=48
    .subst h48;cases r with
     | cons d r =>
      have hlen:1<((bS a).length:Int):=by rw[<- hl,Bq];simp only[C2];lia
      have g2:good a.cps.toList=false:=by rw[g];simp[vi]
      dsimp? [decide_true,hlen,g2]
     | nil =>
      have hlen:¬ 1<((bS a).length:Int):=by rw[<- hl,Bq];decide
      by_cases h45:a.cps.toList.head?=some 45
      .have ea:a.cps.toList=[45,48]:=by
        cases e:a.cps.toList with
        | nil=>rw[e] at h45;cases h45
        | cons d s =>
         rw[e] at h45 hbs;cases h45;rw[jU] at hbs;rw[hbs]
       have g2:good a.cps.toList=false:=by rw[g,ea];rfl
       have ne:¬ a=bS a:=λz=>by
        have:=congrArg (λs:Str=>s.cps.toList) z;simp only[Bq,ea] at this;cases this
       dsimp? [decide_true,hlen,decide_false,ne,g2]
      .have eb:bS a=a:=by unfold bS;rw[if_neg h45]
       have ea:¬ a.cps.toList=[45,48]:=λz=>h45 (by rw[z];rfl);have g2:good a.cps.toList=true:=by rw[g];simp[vi,ea]
       rw[eb] at hlen ⊢;dsimp? [decide_true,hlen,decide_false,g2,kT hz g2]
    .have ea:¬ a.cps.toList=[45,48]:=λz=>by
      rw[z] at hbs;exact h48 (DT (show [48]=c::r from hbs)).1.symm
     have g2:good a.cps.toList=true:=by rw[g];simp[vi,ea,h48]
     dsimp? [h48,decide_false,g2,kT hz g2]
theorem lM:(Cn " ").cps.toList=[32]:=by decide +kernel
theorem xJ:Cn " " = ⟨#[32]⟩:=dy (by rw[lM])
theorem jw:(Cn " ").length=1:=by decide +kernel
abbrev Wd(a:Str):List Str:=Txt.split a (Cn " ")
def gw(p:Str):Bool:=good p.cps.toList
theorem kM(h:a.length<=10000):jB a (.str (Cn " "))=M.ok (.lst ((Wd a).map .str)):=by
 show bB _ _=_;rw[ao ⟨by rw[jw];rfl,by unfold sizeLine;lia⟩]
theorem ph(h:a.length<=10000):(Wd a).length<=sizeLine:=by
 have:=split_weight a (Cn " ") (by rw[jw];decide);unfold sizeLine;show (Txt.split a (Cn " ")).length<=_;lia
theorem tZ{p:Str}(h:Sv a)(hp:p∈Wd a):Sv p:=h.part hp
theorem kf{p:Str}(h:a.length<=10000)(hp:p∈Wd a):p.length<=10000:=CN (part_short hp) h
def rM(p:Str):PV:=if gw p=true then .int (val p) else .bL
def wZ(p:Str):PyData:=if gw p=true then .int (val p) else .none
theorem lY:∀ ws:List Str,dN (ws.map rM)=some (ws.map wZ)
 | []=>rfl
 | p::r=>by
  show (dat (rM p)).bind (λd=>(dN (r.map rM)).map (d::·))=_;rw[lY r];unfold rM wZ
  by_cases h:gw p=true
  .rw[CZ,if_pos h,if_pos h];rfl
  .rw[CZ,if_neg h,if_neg h];rfl
theorem wL(ws:List Str):(ws.map wZ).all D3=true:=by
 rw[CD];intro d hd;obtain⟨p,_,rfl⟩:=DR.mp hd;unfold wZ
 split <;> simp[D3,Di,Dr]
theorem se(ws:List Str):((ws.map wZ).any λe=>DY e .none)=!ws.all gw:=by
 induction ws with
 | nil=>rfl
 | cons p r ih =>
  rw[CZ,E4,Ew,ih];unfold wZ;cases h:gw p
  .simp[DY]
  .simp[DY]
theorem xn(ws:List Str):inD .bL (.lst (ws.map rM))=M.ok (.bl (!ws.all gw)):=by
 unfold inD;show (match dN (ws.map rM) with | some ds=>_ | none=>_)=_;rw[lY];show bB _ _=_;rw[ao ⟨by simp[D3,Di,Dr],wL ws⟩,se]
variable{ws:List Str}
theorem p_(h:ws.all gw=true):ws.map rM=ws.map λp=>.int (val p):=FP λp hp=>by
 unfold rM;rw[if_pos (CD.mp h p hp)]
def hZ(a:Str):PV:=if a.cps.toList=[] then .tup [] else if (Wd a).all gw=true then .tup ((Wd a).map λp=>.int (val p)) else .bL
theorem wa(ha:Sv a)(hz:a.length<=10000):dj [.str a]=M.ok (hZ a):=by
 have key:bO (dm 0) none (ak aZ (af (ae 0) ay)) ((Wd a).map .str) [none]=M.ok ((Wd a).map rM):=jT (Wd a) λp hp=>by dsimp? [jJ (tZ ha hp) (kf hz hp)];rfl
 have hg:((Wd a).map PV.str).length<=sizeLine:=by rw[Cv];exact ph hz
 unfold dj dt hZ;dsimp? [cK ha c9,fY "" cn]
 by_cases h:a.cps.toList=[]
 .dsimp? [h,decide_true]
 .dsimp? [h,decide_false,nO,kM hz,ao hg,key,xn];cases h2:(Wd a).all gw with
  | false=>dsimp? []
  | true=>dsimp? [p_ h2]
theorem o3(a:Str):bz [.str a]=M.ok .bL:=by
 unfold bz cD;dsimp? []
theorem nZ{f:aa->M PV}{inj h:α->PV}{g:α->Bool}{e:EX}{rest:aa}(xs:List α)(H:∀ a∈xs,f (some (.sh (inj a))::rest)=if g a=true then M.ok (h a) else some (.error e)):bO (dm 0) none f (xs.map inj) (x0::rest)=if xs.all g=true then M.ok (xs.map h) else some (.error e):=by
 induction xs generalizing x0 with
 | nil=>rfl
 | cons a r ih =>
  have i:=ih (x0:=some (.sh (inj a))) λc hc=>H c (CB _ hc);rw[CZ,bO];show M.bind (M.ok ((x0::rest).set 0 (some (.sh (inj a))))) _=_;rw[M.aL,Ed];show M.bind (f _) _=_;rw[H a Cz,Ew];cases hg:g a with
  | false=>rfl
  | true =>
   rw[if_pos rfl,M.aL,i];cases r.all g with
   | false=>rfl
   | true=>rfl
theorem gE(ha:Sv a)(hz:a.length<=10000):aM [.str a]=if a.cps.toList=[] then M.ok (.tup []) else if (Wd a).all gw=true then M.ok (.tup ((Wd a).map λp=>.int (val p))) else some (.error (aE,none)):=by
 have key:bO (dm 0) none (ak bN (af (ae 0) ay)) ((Wd a).map .str) [none]=if (Wd a).all gw=true then M.ok ((Wd a).map λp=>.int (val p)) else some (.error (aE,none)):=nZ (Wd a) λp hp=>by dsimp? [g_ (tZ ha hp) (kf hz hp)];rfl
 have hg:((Wd a).map PV.str).length<=sizeLine:=by rw[Cv];exact ph hz
 unfold aM bq;dsimp? [o3,cK ha c9,fY "" cn]
 by_cases h:a.cps.toList=[]
 .dsimp? [h,decide_true]
 .dsimp? [h,decide_false,nO,kM hz,me,ao hg,key];cases h2:(Wd a).all gw with
  | false=>dsimp? []
  | true=>dsimp? []
theorem ky:∀ (xs:List Int) (z:Int×Int),z∈xs.zip xs->z.1=z.2
 | [],_,h=>nomatch h
 | x::r,z,h=>by
  rcases CK.mp (show z∈(x,x)::r.zip r from h) with e | e
  .rw[e]
  .exact ky r z e
theorem qt(o:Out)(k:EX->M Out):kW (M.ok o) k=M.ok o:=rfl
theorem same_int(n:Nat)(i:Int):aB (n+1) [.int i,.int i]=M.ok (.bl true):=by
 unfold aB bR;dsimp? [f6,fz,decide_true]
theorem same_str(h:Sv a):bu [.str a,.str a]=M.ok (.bl true):=by
 unfold bu aB bR;dsimp? [f6,fz,decide_true,cK h h]
theorem ki(xs:List Int):bu [.tup (xs.map PV.int),.tup (xs.map PV.int)]=M.ok (.bl true):=by
 have z:zip2 [.tup (xs.map PV.int),.tup (xs.map PV.int)]=M.ok ((xs.zip xs).map λz=>.tup [.int z.1,.int z.2]):=n9 xs xs rfl rfl;unfold bu aB bR;dsimp? [f6,fz,decide_true,z];refine fO (xs.zip xs) (λzs env=>(∃ b c p,env=[p,p,b,c]/\p=some (.sh (.tup (xs.map PV.int))))/\∀ z∈zs,z.1=z.2) ⟨⟨_,_,_,rfl,rfl⟩,λz hz=>?_⟩ ?_ ?_
 .exact ky xs z hz
 .rintro⟨a,a'⟩ r env ⟨⟨b,c,p,rfl,hp⟩,hz⟩;have e:a=a':=hz (a,a') Cz;subst e;refine⟨_,[p,p,some (.sh (.int a)),some (.sh (.int a))],rfl,?_,⟨_,_,_,rfl,hp⟩,λz Bv=>hz z (CB _ Bv)⟩;dsimp? [same_int]
 .rintro Ad ⟨⟨b,c,p,rfl,hp⟩,_⟩;rfl
variable{p:PV}
theorem j5{q d:PV}(h1:aM [p]=M.ok q)(h2:fz d=false)(h3:bu [q,d]=M.ok (.bl true)):av [p,d]=M.ok (.bl true):=by
 unfold av aW;dsimp? [og,h1,qt,f6,(show fz .bL=true from rfl),h2,h3]
theorem jf(h1:aM [p]=some (.error (aE,none))):av [p,.bL]=M.ok (.bl true):=by
 unfold av aW;dsimp? [og,h1,kW,f6,fz,dO];rfl
theorem f7(ha:Sv a)(hz:a.length<=10000):av [.str a,hZ a]=M.ok (.bl true):=by
 have h:=gE ha hz;unfold hZ
 by_cases e:a.cps.toList=[]
 .rw[if_pos e] at h ⊢;exact j5 h rfl (ki [])
 .rw[if_neg e] at h ⊢
  by_cases e2:(Wd a).all gw=true
  .rw[if_pos e2] at h ⊢;have s:=ki ((Wd a).map val);rw[EK] at s;exact j5 h rfl s
  .rw[if_neg e2] at h ⊢;exact jf h
theorem lV(ns:List Int)(k:Nat)(hk:k<=100):∃ c,bw [.dD (ns.map PV.int),.int (k:Int)]=M.ok (.int c):=by
 unfold bw cZ
 by_cases h:(k:Int)<(ns.length:Int)
 .have h':k<ns.length:=by lia
  exact⟨ns[k],by dsimp? [Cv,h,decide_true,fk (p:=.dD (ns.map PV.int)) (j:=k) (x:=.int ns[k]) rfl (by rw[CL,Co h'];rfl)]⟩
 .by_cases h0:(0:Int)<(ns.length:Int)
  .obtain⟨j,hj,ej⟩:∃ j:Nat,j<ns.length/\7*(k:Int)%(ns.length:Int)=(j:Int):=by
    have a:=DC (7*(k:Int)) (show (ns.length:Int)≠0 by lia);have b:=Dl (7*(k:Int)) h0;exact⟨(7*(k:Int)%(ns.length:Int)).toNat,by lia,by lia⟩
   obtain⟨a,ea,a0⟩:∃ a,cj (.int (ns[j]+7919*(k:Int))) (.int 2147483647)=M.ok (.int a)/\0<=a/\a<2147483647:=⟨(ns[j]+7919*(k:Int))%2147483647,az (j:=2147483647) (by decide),DC _ (by decide),Dl _ (by decide)⟩
   exact⟨a*a%2147483629,by dsimp? [Cv,h,h0,decide_false,decide_true,bp (i:=7919) (j:=(k:Int)) (k:=31) (l:=31) (by decide) (by lia),bp (i:=7) (j:=(k:Int)) (k:=31) (l:=31) (by decide) (by lia),az (i:=7*(k:Int)) h0,ej,fk (p:=.dD (ns.map PV.int)) (j:=j) (x:=.int ns[j]) rfl (by rw[CL,Co hj];rfl),ea,bp (i:=a) (j:=a) (k:=32) (l:=32) (by lia) (by lia),az (i:=a*a) (j:=2147483629) (by decide)]⟩
  .exact⟨(7919*(k:Int)+5)*(7919*(k:Int)+5)%2147483629,by dsimp? [Cv,h,h0,decide_false,bp (i:=7919) (j:=(k:Int)) (k:=31) (l:=31) (by decide) (by lia),bp (i:=7919*(k:Int)+5) (j:=7919*(k:Int)+5) (k:=31) (l:=31) (by lia) (by lia),az (i:=(7919*(k:Int)+5)*(7919*(k:Int)+5)) (j:=2147483629) (by decide)]⟩
theorem gS(c:Int)(k:Nat)(hk:k<=100):∃ x,aH [.int c,.int (k:Int)]=M.ok (.int x)/\0<=x/\x<2147483587:=by
 obtain⟨a,ea,a0⟩:∃ a,cj (.int (c+7919*(k:Int)+11)) (.int 2147483647)=M.ok (.int a)/\0<=a/\a<2147483647:=⟨_,az (by decide),DC _ (by decide),Dl _ (by decide)⟩
 obtain⟨b,eb,b0⟩:∃ b,cj (.int (a*a+48271*(k:Int))) (.int 2147483629)=M.ok (.int b)/\0<=b/\b<2147483629:=⟨_,az (by decide),DC _ (by decide),Dl _ (by decide)⟩
 refine⟨(b*b+7*b+(k:Int))%2147483587,?_,DC _ (by decide),Dl _ (by decide)⟩;unfold aH cQ;dsimp? [bp (i:=7919) (j:=(k:Int)) (k:=31) (l:=31) (by decide) (by lia),ea,bp (i:=a) (j:=a) (k:=32) (l:=32) (by lia) (by lia),bp (i:=48271) (j:=(k:Int)) (k:=31) (l:=31) (by decide) (by lia),eb,bp (i:=b) (j:=b) (k:=32) (l:=32) (by lia) (by lia),bp (i:=7) (j:=b) (k:=32) (l:=32) (by decide) (by lia),az (i:=b*b+7*b+(k:Int)) (j:=2147483587) (by decide)]
theorem xu:nM (.int 10) (.int 9)=M.ok (.int (10^9)):=by rfl
theorem tQ:nM (.int 10) (.int 20)=M.ok (.int (10^20)):=by rfl
theorem iQ(c:Int):∃ n:Int,bc [.int c,.int 3]=M.ok (.int n)/\n.natAbs<10^29:=by
 obtain⟨m,em,m0,m1⟩:=gS c 3 (by decide);obtain⟨f,ef,f0,f1⟩:=gS c 64 (by decide);have em':aH [.int c,.int 3]=M.ok (.int m):=em;have ef':aH [.int c,.int (3+61)]=M.ok (.int f):=ef;unfold bc cy;have h3:m%3=0\/m%3=1\/(¬ m%3=0/\¬ m%3=1):=by lia
 rcases h3 with h | h | ⟨h,h'⟩
 .exact⟨m/3%9-4,by dsimp? [em',az (i:=m) (j:=3) (by decide),h,decide_true,bT (i:=m) (j:=3) (by decide) (by decide),az (i:=m/3) (j:=9) (by decide)],by lia⟩
 .have h':¬ (1:Int)=0:=by decide
  exact⟨m/3%720,by dsimp? [em',az (i:=m) (j:=3) (by decide),h,h',decide_true,decide_false,bT (i:=m) (j:=3) (by decide) (by decide),az (i:=m/3) (j:=720) (by decide)],by lia⟩
 .have g0:=DC f (show (10^9:Int)≠0 by decide);have g1:=Dl f (show (0:Int)<10^9 by decide);have e1:=az (i:=f) (j:=10^9) (by decide);have e2:eK (.int (f%10^9)) (.int (10^20))=M.ok (.int (f%10^9*10^20)):=bp (k:=64) (l:=80) (by lia) (by decide);have hb:(f%10^9*10^20+m).natAbs<10^29:=by lia
  have h2:m/3%2=0\/m/3%2=1:=by lia
  rcases h2 with z | z
  .exact⟨f%10^9*10^20+m,by dsimp? [em',ef',xu,tQ,e1,e2,az (i:=m) (j:=3) (by decide),h,h',decide_false,bT (i:=m) (j:=3) (by decide) (by decide),az (i:=m/3) (j:=2) (by decide),z];rfl,hb⟩
  .exact⟨0-(f%10^9*10^20+m),by dsimp? [em',ef',xu,tQ,e1,e2,az (i:=m) (j:=3) (by decide),h,h',decide_false,bT (i:=m) (j:=3) (by decide) (by decide),az (i:=m/3) (j:=2) (by decide),z];rfl,by lia⟩
def Dg(m:Nat):List Nat:=(Fj 10 m).map Char.toNat
theorem tU(m:Nat):(Dg m).all fg=true:=by
 rw[CD];intro c hc;obtain⟨ch,AN,e⟩:=DR.mp hc;have r:=digit_range (Nat.isDigit_of_mem_toDigits (by decide) (by decide) AN);rw[<- e];exact decide_eq_true r
theorem j2(m:Nat):Dg m≠[]:=λe=>by
 have h:=toDigits_len_ge 10 m;rw[List.map_eq_nil_iff.mp e] at h;exact absurd h (by decide)
variable{m:Nat}
theorem lx(h:m<10^29):(Dg m).length<=29:=by
 unfold Dg;rw[Cv];exact toDigits_len_pow (by decide) (by decide) h
theorem oN:∀ m:Nat,m<10->m≠0->(Nat.digitChar m).toNat≠48:=by decide
theorem mH(m:Nat)(h0:m≠0):(Dg m).head?≠some 48:=by
 induction m using Nat.strongRecOn with
 | _ m ih =>
  unfold Dg
  by_cases h:m<10
  .rw[Nat.toDigits_of_lt_base h];intro e;exact oN m h h0 (CG e)
  .have hm:m%10<10:=Nat.mod_lt m (by decide);have t:Fj 10 (m/10)++Fj 10 (m%10)=Fj 10 (10*(m/10)+m%10):=Nat.toDigits_append_toDigits (by decide) (by lia) hm;rw[Nat.div_add_mod] at t;rw[<- t,Fq];have i:=ih (m/10) (by lia) (by lia);have n:=j2 (m/10);unfold Dg at i n;obtain⟨a,r,e⟩:=EV n;rw[e] at i ⊢;exact i
theorem ri:Dg 0=[48]:=by decide +kernel
def tx(n:Int):Str:=Cn (toString n)
theorem eA(m:Nat):(tx (m:Int)).cps.toList=Dg m:=W.KIN.signs_num m
theorem g8(m:Nat)(h:m≠0):(tx (-(m:Int))).cps.toList=45::Dg m:=by
 cases m with
 | zero=>exact absurd rfl h
 | succ k =>
  unfold tx;rw[signs_ofString];show (("-" ++ Nat.repr (k+1):String)).toList.map Char.toNat=_;rw[String.toList_append,Nat.toList_repr,Fq];rfl
theorem da{P:Int->Prop}(h1:∀ m:Nat,P m)(h2:∀ m:Nat,m≠0->P (-(m:Int)))(n:Int):P n:=by
 by_cases h:0<=n
 .obtain⟨m,rfl⟩:=Dn h;exact h1 m
 .have:=h2 n.natAbs (by lia)
  rwa [show -((n.natAbs:Nat):Int)=n by lia] at this
theorem ib(m:Nat):NumText.AllDigits (Dg m):=λc hc=>of_decide_eq_true (CD.mp (tU m) c hc)
theorem j9(m:Nat):(Dg m).head?≠some 45:=λe=>by
 have:=ib m 45 (List.mem_of_mem_head? e);lia
theorem lU(h:m<10^29):g9 (Dg m)=true:=by
 unfold g9;have l1:=List.length_pos_iff.mpr (j2 m);have l2:=lx h;rw[tU,decide_eq_true (show 1<=(Dg m).length/\(Dg m).length<=30 by lia)];unfold vi
 by_cases h0:m=0
 .rw[h0,ri];rfl
 .rw[decide_eq_true (mH m h0)];rfl
theorem sO(n:Int)(h:n.natAbs<10^29):gw (tx n)=true:=by
 revert h;refine da (P:=λn=>n.natAbs<10^29->gw (tx n)=true) (λm h=>?_) (λm h0 h=>?_) n
 .unfold gw good;rw[eA,jr (j9 m),lU (by lia),decide_eq_false (λe=>j9 m (by rw[e];rfl))];rfl
 .unfold gw good;rw[g8 m h0,jU,lU (by lia),decide_eq_false (λe=>mH m h0 (by rw[(DT e).2];rfl))];rfl
theorem nV(n:Int)(h:n.natAbs<10^29):(tx n).length<=30:=by
 revert h;refine da (P:=λn=>n.natAbs<10^29->(tx n).length<=30) (λm h=>?_) (λm h0 h=>?_) n
 .rw[<- len_list,eA];have:=lx (m:=m) (by lia);lia
 .rw[<- len_list,g8 m h0];have:=lx (m:=m) (by lia);simp only[C2];lia
theorem kI(n:Int):∀ c∈(tx n).cps.toList,c=45\/(48<=c/\c<=57):=by
 refine da (P:=λn=>∀ c∈(tx n).cps.toList,c=45\/(48<=c/\c<=57)) (λm=>?_) (λm h0=>?_) n
 .rw[eA];exact λc hc=>.inr (ib m c hc)
 .rw[g8 m h0];intro c hc;rcases CK.mp hc with e | e
  .exact .inl e
  .exact .inr (ib m c e)
theorem xk(n:Int):Sv (tx n):=λc hc=>by have:=kI n c hc;lia
theorem qS(n:Int):32 ∉ (tx n).cps.toList:=λhc=>by have:=kI n 32 hc;lia
theorem uz(n:Int)(h:n.natAbs<10^29):val (tx n)=n:=by
 have hl:=nV n h;unfold val;revert h hl;refine da (P:=λn=>n.natAbs<10^29->(tx n).length<=30->(PySem.intText? (tx n)).getD 0=n) (λm h hl=>?_) (λm h0 h hl=>?_) n
 .have e:=intText_digits (x:=tx m) (by rw[eA];exact ib m) (by rw[eA];exact j2 m) (by lia);rw[eA] at e;rw[e];show ((En (Dg m):Nat):Int)=m;rw[show En (Dg m)=m from Gw m]
 .have e:=intText_neg (x:=tx (-(m:Int))) (g8 m h0) (ib m) (j2 m) (by lia);rw[e];show -((En (Dg m):Nat):Int)=-m;rw[show En (Dg m)=m from Gw m]
theorem str_int(n:Int)(h:n.natAbs<10^29):kA [.int n]=M.ok (.str (tx n)):=by
 show bB _ _=_;rw[ao]
 .rfl
 .by_cases h0:n.natAbs=0
  .rw[h0];decide
  .rw[FA h0];exact Fc h (by decide +kernel)
theorem xP(n:Int):(tx n).cps.toList≠[]:=by
 refine da (P:=λn=>(tx n).cps.toList≠[]) (λm=>?_) (λm h0=>?_) n
 .rw[eA];exact j2 m
 .rw[g8 m h0];exact D4 _ _
def text(xs:List Int):Str:=Dz (Cn " ") (xs.map tx)
theorem rL(xs:List Int):Sv (text xs):=Sv.join (fU lM rfl) _ λp hp=>by
 obtain⟨n,_,rfl⟩:=DR.mp hp;exact xk n
theorem p7(xs:List Int)(h:∀ n∈xs,n.natAbs<10^29):((xs.map tx).map (·.length)).sum<=30*xs.length:=by
 induction xs with
 | nil=>exact Cs _
 | cons n r ih =>
  have:=ih λm hm=>h m (CB _ hm);have:=nV n (h n Cz);simp only[CZ,Gx,C2];lia
theorem text_len(xs:List Int)(h:∀ n∈xs,n.natAbs<10^29)(hl:xs.length<=40):(text xs).length<=1300:=by
 have a:=StrLaws.join_length_le (Cn " ") (xs.map tx);have b:=p7 xs h;rw[jw,Cv] at a;unfold text;lia
theorem p0(ws:List Str)(k:Nat):ws.foldl (λn s=>n+s.length+1) k=k+(ws.map (·.length)).sum+ws.length:=by
 induction ws generalizing k with
 | nil=>rfl
 | cons a r ih =>
  rw[Gg,ih];simp only[CZ,Gx,C2];lia
theorem lR(xs:List Int)(h:∀ n∈xs,n.natAbs<10^29)(hl:xs.length<=40):iZ (Cn " ") (.lst (xs.map λn=>.str (tx n)))=M.ok (.str (text xs)):=by
 have e:(xs.map λn=>PV.str (tx n))=(xs.map tx).map PV.str:=by rw[EK];rfl
 rw[e];show (match strsOf ((xs.map tx).map PV.str) with | some ws=>_ | none=>_)=_;rw[gZ];show bB _ _=_;rw[ao]
 .unfold text;rw[<- StrLaws.glued_eq_join];rfl
 .unfold JoinOk FO;have b:=p7 xs h;rw[jw,List.foldl_toArray,p0,Cv];have:¬ (0+((xs.map tx).map (·.length)).sum+xs.length>sizeLine):=by unfold sizeLine;lia
  simp only[this,decide_false,Bool.not_false]
theorem pN(xs:List Int)(h:∀ n∈xs,n.natAbs<10^29):hZ (text xs)=.tup (xs.map PV.int):=by
 cases xs with
 | nil=>rfl
 | cons n r =>
  have e:Wd (text (n::r))=(n::r).map tx:=by
   unfold Wd text;rw[xJ];exact kS (a:=tx n) (v:=r.map tx) λp hp=>by
    obtain⟨m,_,rfl⟩:=DR.mp (show p∈(n::r).map tx from hp);exact qS m
  have ne:¬ (text (n::r)).cps.toList=[]:=λz=>by
   obtain⟨c,s,ec⟩:=EV (xP n);have m:=ij (Cn " ") ((n::r).map tx) (p:=tx n) (c:=c) Cz (by rw[ec];exact Cz);unfold text at z;rw[z] at m;cases m
  unfold hZ;rw[if_neg ne,e,if_pos,EK]
  .exact congrArg PV.tup (FP λm hm=>by show PV.int (val (tx m))=_;rw[uz m (h m hm)])
  .rw[CD];intro p hp;obtain⟨m,hm,rfl⟩:=DR.mp hp;exact sO m (h m hm)
theorem l0(xs:List Int)(hp:cf p=some (xs.map PV.int))(h:∀ n∈xs,n.natAbs<10^29)(hl:xs.length<=40):br [p]=M.ok (.str (text xs)):=by
 have key:bO (dm 0) none (ak kA (af (ae 0) ay)) (xs.map PV.int) [none]=M.ok (xs.map λn=>.str (tx n)):=jT xs λn hn=>by dsimp? [str_int n (h n hn)]
 have hg:(xs.map PV.int).length<=sizeLine:=by rw[Cv];exact cY (by lia)
 unfold br bV;dsimp? [nO,hp,ao hg,key,lR xs h hl]
structure Tt (b:Str) (n:Nat):Prop where
 sv:Sv b
 le:b.length<=n
theorem len_app(a b:Str):(a++b).length=a.length+b.length:=Str.length_append a b
theorem Tt.app{a b:Str}{n m:Nat}(ha:Tt a n)(hb:Tt b m):Tt (a++b) (n+m):=⟨ha.sv.app hb.sv,by rw[len_app];have:=ha.le;have:=hb.le;lia⟩
theorem Tt.cut{a:Str}{n:Nat}(ha:Tt a n)(l u:Option Int):Tt (ck a l u) n:=⟨ha.sv.cut l u,CN (jn a l u) ha.le⟩
theorem Tt.add(ha:Tt a n)(hb:Tt b m)(h:autoParam (n+m<=10000) aD._auto_1):cu (.str a) (.str b)=M.ok (.str (a++b)):=ao (cY (by have:=ha.le;have:=hb.le;lia))
theorem gT(s:String)(n:Nat)(h:((Cn s).cps.toList.all (λc=>decide (c<0x110000))&&decide ((Cn s).length<=n))=true):Tt (Cn s) n:=by
 obtain⟨h1,h2⟩:=DG.mp h;exact⟨fU rfl h1,of_decide_eq_true h2⟩
def sA:Str:=Cn " !\"#$&'()*+,-./0123456789:;<=>?@ABCDEFGHIJKLMNOPQRSTUVWXYZ[]^_abcdefghijklmnopqrstuvwxyz{|}~\n"
def sB:Str:=Cn "  --00119  ;::-0 "
theorem tA:Tt sA 1000:=gT _ _ (by decide +kernel)
theorem tB:Tt sB 1000:=gT _ _ (by decide +kernel)
theorem yL:1<=sA.length:=by decide +kernel
variable{j:Int}
theorem vN(h:Tt a n)(hn:n<=10000)(h0:0<=j)(h1:j<a.length):∃ d,cL (.str a) (.int j)=M.ok (.str ⟨#[d]⟩)/\Tt ⟨#[d]⟩ 1:=by
 obtain⟨k,rfl⟩:=Dn h0;have hk:k<a.cps.toList.length:=by rw[len_list];lia
 refine⟨a.cps.toList[k],?_,lG (h.sv _ (Et hk)),Cs _⟩;show bB _ (cJ ((h_ a.cps.toList (k:Int)).map λc=>.str ⟨#[c]⟩))=_;rw[ao (cY (CN h.le hn))];have z:h_ a.cps.toList (k:Int)=some a.cps.toList[k]:=by
  unfold h_ sI;rw[if_pos (Int.natCast_nonneg k),if_pos (by lia)];show a.cps.toList[(k:Int).toNat]?=_;rw[Ej,Co hk]
 rw[z];rfl
variable{k:Int}
theorem sW:∃ d,cz [.int k]=M.ok (.str ⟨#[d]⟩)/\Tt ⟨#[d]⟩ 1:=by
 have t:=tA.app tB;have hl:(0:Int)<(sA++sB).length:=by rw[len_app];have:=yL;lia
 obtain⟨d,e,h⟩:=vN t (by decide) (DC k (show ((sA++sB).length:Int)≠0 by lia)) (Dl k hl);refine⟨d,?_,h⟩;unfold cz cV;have a:cu (.str (Cn " !\"#$&'()*+,-./0123456789:;<=>?@ABCDEFGHIJKLMNOPQRSTUVWXYZ[]^_abcdefghijklmnopqrstuvwxyz{|}~\n")) (.str (Cn "  --00119  ;::-0 "))=M.ok (.str (sA++sB)):=tA.add tB
 dsimp? [a,len_str (CN t.le (by decide)),az (i:=k) hl,e]
theorem qM:∀ k:Nat,29<=k->k<33->iO (Cn "9") (k:Int)/\((lb (Cn "9") (k:Int)).cps.toList.all (λc=>decide (c<0x110000))&&decide ((lb (Cn "9") (k:Int)).length<=40))=true:=by
 intro k h1 h2;have h:k=29\/k=30\/k=31\/k=32:=by lia
 unfold iO;rcases h with rfl | rfl | rfl | rfl <;> decide +kernel
theorem pq(h1:29<=k)(h2:k<33):∃ r,ou (.str (Cn "9")) (.int k)=M.ok (.str r)/\Tt r 40:=by
 obtain⟨m,rfl⟩:=Dn (show 0<=k by lia);obtain⟨a,b⟩:=qM m (by lia) (by lia);obtain⟨b1,b2⟩:=DG.mp b;exact⟨lb (Cn "9") (m:Int),ao a,λc hc=>of_decide_eq_true (CD.mp b1 c hc),of_decide_eq_true b2⟩
theorem pick(h:∀ p∈ws,Tt p n)(h0:0<=j)(h1:j<ws.length):∃ p,cL (.lst (ws.map PV.str)) (.int j)=M.ok (.str p)/\Tt p n:=by
 obtain⟨k,rfl⟩:=Dn h0;have hk:k<ws.length:=by lia
 exact⟨ws[k],fk (xs:=ws.map PV.str) rfl (by rw[CL,Co hk];rfl),h _ (Et hk)⟩
theorem sL(a b c d e f g h i j k l m:PV):lstK [a,b,c,d,e,f,g,h,i,j,k,l,m]=M.ok (.lst [a,b,c,d,e,f,g,h,i,j,k,l,m]):=ao (bA (show 13<=1000 by decide))
def lits:List String:=["-", "-0", "00", "07", "-01", "+1", "1.0", " 1", "1 ", "--1", "1_0", "x"]
def y0(r:Str):List Str:=lits.map Cn++[r]
theorem qW:∀ s∈lits,Tt (Cn s) 40:=λs hs=>gT s 40 (by
 have h:(lits.all λs=>(Cn s).cps.toList.all (λc=>decide (c<0x110000))&&decide ((Cn s).length<=40))=true:=by decide +kernel
 exact CD.mp h s hs)
theorem rX{r:Str}(h:Tt r 40):∀ p∈y0 r,Tt p 40:=λp hp=>by
 rcases ED.mp hp with e | e
 .obtain⟨s,hs,rfl⟩:=DR.mp e;exact qW s hs
 .rw[CW] at e;subst e;exact h
theorem kZ{c:Int}(ha:Tt a 1300)(h0:0<=c):∃ b,bX [.str a,.int c]=M.ok (.str b)/\Tt b 10000:=by
 have hz:a.length<=10000:=CN ha.le (by decide);have hl:(0:Int)<(a.length:Int)+1:=by lia
 have e1:=bT (i:=c) (j:=8) (by decide) (by decide);have e2:=az (i:=c/8) hl;have e3:=az (i:=c) (j:=5) (by decide);have e4:=bT (i:=c) (j:=4000) (by decide) (by decide);obtain⟨d,ed,hd⟩:=sW (k:=c/4000);generalize hat:c/8%((a.length:Int)+1)=at' at e2;unfold bX bY;have c1:=ha.cut none (some at');have c2:=ha.cut (some at') none;have c3:=ha.cut (some (at'+1)) none;have h5:c%5=0\/c%5=1\/c%5=2\/c%5=3\/c%5=4:=by lia
 rcases h5 with z | z | z | z | z
 .refine⟨a,?_,ha.sv,hz⟩;dsimp? [len_str hz,e1,e2,e3,z,(show decide ((0:Int)=1)=false from rfl),(show decide ((0:Int)=2)=false from rfl),(show decide ((0:Int)=3)=false from rfl),(show decide ((0:Int)=4)=false from rfl)]
 .refine⟨ck a none (some at')++⟨#[d]⟩++ck a (some at') none,?_,?_⟩
  .dsimp? [len_str hz,e1,e2,e3,z,decide_true,e4,ed,bf,dC,aY,lE,iw hz,c1.add hd,(c1.app hd).add c2]
  .exact⟨((c1.app hd).app c2).sv,CN ((c1.app hd).app c2).le (by decide)⟩
 .refine⟨ck a none (some at')++⟨#[d]⟩++ck a (some (at'+1)) none,?_,?_⟩
  .dsimp? [len_str hz,e1,e2,e3,z,(show decide ((2:Int)=1)=false from rfl),decide_true,e4,ed,bf,dC,aY,lE,iw hz,c1.add hd,(c1.app hd).add c3]
  .exact⟨((c1.app hd).app c3).sv,CN ((c1.app hd).app c3).le (by decide)⟩
 .refine⟨ck a none (some at')++ck a (some (at'+1)) none,?_,?_⟩
  .dsimp? [len_str hz,e1,e2,e3,z,(show decide ((3:Int)=1)=false from rfl),(show decide ((3:Int)=2)=false from rfl),decide_true,bf,dC,aY,lE,iw hz,c1.add c3]
  .exact⟨(c1.app c3).sv,CN (c1.app c3).le (by decide)⟩
 .have e5:=bT (i:=c) (j:=5) (by decide) (by decide);have e6:=az (i:=c/5) (j:=4) (by decide);have e7:=bT (i:=c) (j:=80) (by decide) (by decide);have e8:=az (i:=c/80) (j:=13) (by decide);have e9:=az (i:=c/4000) (j:=2) (by decide);obtain⟨r,er,hr⟩:=pq (k:=29+c/5%4) (by lia) (by lia);obtain⟨p,ep,hp⟩:=pick (rX hr) (j:=c/80%13) (by lia) (show _<(13:Int) by lia);obtain⟨q,eq,hq⟩:=pick (ws:=[Cn " ", Cn ""]) (n:=1) (λp hp=>by
   rcases CK.mp hp with e | e
   .rw[e];exact gT _ _ (by decide +kernel)
   .rw[CW.mp e];exact gT _ _ (by decide +kernel)) (j:=c/4000%2) (by lia) (show _<(2:Int) by lia)
  refine⟨a++q++p,?_,?_⟩
  .have BV:cL (.lst [.str (Cn "-"),.str (Cn "-0"),.str (Cn "00"),.str (Cn "07"),.str (Cn "-01"),.str (Cn "+1"),.str (Cn "1.0"),.str (Cn " 1"),.str (Cn "1 "),.str (Cn "--1"),.str (Cn "1_0"),.str (Cn "x"),.str r]) (.int (c/80%13))=M.ok (.str p):=ep;have eq':cL (.lst [.str (Cn " "),.str (Cn "")]) (.int (c/4000%2))=M.ok (.str q):=eq;dsimp? [len_str hz,e1,e2,e3,z,(show decide ((4:Int)=1)=false from rfl),(show decide ((4:Int)=2)=false from rfl),(show decide ((4:Int)=3)=false from rfl),decide_true,e4,e5,e6,e7,e8,e9,er,sL,BV,eq',ha.add hq,(ha.app hq).add hp]
  .exact⟨((ha.app hq).app hp).sv,CN ((ha.app hq).app hp).le (by decide)⟩
theorem pX(h:bz [p]=some (.error (aE,none))):aM [p]=some (.error (aE,none)):=by
 unfold aM bq;dsimp? [h]
theorem vL(a b c d e f g h:PV):lstK [a,b,c,d,e,f,g,h]=M.ok (.lst [a,b,c,d,e,f,g,h]):=ao (bA (show 8<=1000 by decide))
def x9:List PV:=[.bL,.int 5,.bl true,.lst [.str (Cn "1")],.tup [.str (Cn "1")],.emp,.lst [.int 1],.tup [.int 1,.int 2]]
theorem oA:∀ p∈x9,bz [p]=some (.error (aE,none)):=by
 intro p hp;unfold bz cD;simp only[x9,CK,E8,or_false] at hp;rcases hp with rfl | rfl | rfl | rfl | rfl | rfl | rfl | rfl <;> dsimp? [eE,ao lz]
theorem tR{Q:PV->Prop}{ws:List PV}(h:∀ p∈ws,Q p)(h0:0<=j)(h1:j<ws.length):∃ p,cL (.lst ws) (.int j)=M.ok p/\Q p:=by
 obtain⟨k,rfl⟩:=Dn h0;have hk:k<ws.length:=by lia
 exact⟨ws[k],fk (xs:=ws) rfl (Co hk),h _ (Et hk)⟩
theorem mL:av [.str (Cn ""),.tup []]=M.ok (.bl true):=by
 have h:=f7 c9 (a:=Cn "") (by decide +kernel)
 rwa [show hZ (Cn "")=.tup [] from if_pos cn] at h
theorem nX:text []=Cn "" := dy (by rw[cn];rfl)
def num(c:Int):Int:=Classical.choose (iQ c)
theorem qo(c:Int):bc [.int c,.int 3]=M.ok (.int (num c))/\(num c).natAbs<10^29:=Classical.choose_spec (iQ c)
def iV(ns:List Int)(a b:Nat):List Int:=(ns.drop (HT.bC ns.length 0 (some (a:Int)))).take (HT.bC ns.length ns.length (some (b:Int))-HT.bC ns.length 0 (some (a:Int)))
theorem rZ(ns:List Int)(a b:Nat):yt (.dD (ns.map PV.int)) (some (a:Int)) (some (b:Int))=M.ok (.lst ((iV ns a b).map PV.int)):=by
 show M.ok (PV.lst (iE (ns.map PV.int) _ _))=_;rw[iE,iV,List.map_take,List.map_drop,Cv]
theorem nz(ns:List Int)(a b:Nat):(iV ns a b).length<=b-a:=by
 unfold iV;rw[Eo,Ep,HT.lN,HT.lN];lia
theorem m8(env:aa):kF ay env=M.ok []:=by
 simp only[kF,ay,M.aL];exact if_pos (DF _)
theorem oD(xs:List Int):j0 (.lst (xs.map PV.int)) (.lst (xs.map PV.int))=M.ok (.bl false):=by
 simp only[j0,gI,dat,iW,Gn,qw];rw[ao (by simp[D3,Di,Dr,gf,hW,GD,L2.noMix_ints])];unfold Spec.same;rw[L2.same_ints,decide_eq_true rfl];rfl
theorem vj(ns:List Int):i5 [.dD (ns.map PV.int)]=M.ok (.bl true):=by
 have hc:=nz ns 1 41;have cut:yt (.dD (ns.map PV.int)) (some 1) (some 41)=M.ok (.lst ((iV ns 1 41).map PV.int)):=rZ ns 1 41;generalize iV ns 1 41=cs at hc cut;have key:bO (dm 0) none (ak bc (af (ae 0) (af (λ_=>M.ok (.int 3)) ay))) (cs.map PV.int) [none]=M.ok (cs.map λc=>.int (num c)):=jT cs λc _=>by dsimp? [(qo c).1]
 have hg:(cs.map PV.int).length<=sizeLine:=by rw[Cv];exact bA (by lia)
 obtain⟨xs,ex,hx,hl⟩:∃ xs:List Int,(cs.map λc=>PV.int (num c))=xs.map PV.int/\(∀ n∈xs,n.natAbs<10^29)/\xs.length<=40:=⟨cs.map num,by rw[EK];rfl,λn hn=>by
  obtain⟨c,_,rfl⟩:=DR.mp hn;exact(qo c).2,by rw[Cv];lia⟩
 rw[ex] at key;obtain⟨c0,ec⟩:=lV ns 0 (by decide);have ec':bw [.dD (ns.map PV.int),.int 0]=M.ok (.int c0):=ec;obtain⟨m2,em2,a0,a1⟩:=gS c0 2 (by decide);have em2':aH [.int c0,.int 2]=M.ok (.int m2):=em2;obtain⟨m4,em4,b0,b1⟩:=gS c0 4 (by decide);have em4':aH [.int c0,.int 4]=M.ok (.int m4):=em4;obtain⟨hd,ehd,hhd⟩:=tR (Q:=λp=>cf p=some (xs.map PV.int)) (ws:=[.lst (xs.map PV.int),.tup (xs.map PV.int)]) (λp hp=>by
  rcases CK.mp hp with e | e
  .rw[e];rfl
  .rw[CW.mp e];rfl) (j:=m2%2) (by lia) (show _<(2:Int) by lia)
 obtain⟨od,eod,hod⟩:=tR oA (j:=m4%8) (by lia) (show _<(8:Int) by lia);unfold i5 oQ;dsimp? [kR,aY,lE,cut,ao hg,key,ec',em2',az (i:=m2) (j:=2) (by decide),ehd,m8];refine fO xs (λr env=>∃ (d:List Int) (y z:Option SV),env=[some (.sh (.dD (ns.map PV.int))),some (.sh (.lst (xs.map PV.int))),some (.sh hd),some (.ow (d.map λn=>.str (tx n))),y,z,none,none,none,none]/\xs=d++r) ⟨[],none,none,rfl,rfl⟩ ?_ ?_
 .rintro n r env ⟨d,y,z,rfl,e⟩;have hn:=hx n (by rw[e];simp);have dl:d.length<=40:=by
   have:=congrArg List.length e;rw[CU] at this;lia
  refine⟨_,[some (.sh (.dD (ns.map PV.int))),some (.sh (.lst (xs.map PV.int))),some (.sh hd),some (.ow ((d++[n]).map λn=>.str (tx n))),some (.sh (.int n)),some (.sh (.str (tx n))),none,none,none,none],rfl,?_,d++[n],_,_,rfl,by rw[e];simp⟩;dsimp? [str_int n hn,tj,ownAt,r9 (xs:=d.map λn=>PV.str (tx n)) (by rw[Cv];lia),Fq]
 .rintro env ⟨d,y,z,rfl,e⟩;rw[C1] at e;subst e;have tt:Tt (text xs) 1300:=⟨rL xs,text_len xs hx hl⟩
  have jo:=lR xs hx hl;have sh:=l0 xs hhd hx hl;have rt:=f7 tt.sv (CN tt.le (by decide));rw[pN xs hx] at rt;have sn:=l0 (p:=.tup []) [] rfl (λ_ h=>nomatch h) (DF _);dsimp? [nO,jo,sh,same_str tt.sv,hhd,oD,rt,pB (n:=6) (by decide) (by decide)];refine fO (DN (Int.toNat 6)) (λr env=>(∃ (u v:Option SV),env=[some (.sh (.dD (ns.map PV.int))),some (.sh (.lst (xs.map PV.int))),some (.sh hd),some (.sh (.lst (xs.map λn=>.str (tx n)))),y,z,some (.sh (.str (text xs))),u,v,none])/\∀ k∈r,k<6) ⟨⟨none,none,rfl⟩,λk hk=>EL.mp hk⟩ ?_ ?_
  .rintro k r env ⟨⟨u,v,rfl⟩,hk⟩;have h6:=hk k Cz;obtain⟨c,e1⟩:=lV ns k (by lia);obtain⟨m,e2,m0,m1⟩:=gS c (50+k) (by lia);have e2':aH [.int c,.int (50+(k:Int))]=M.ok (.int m):=by rw[<- e2];simp
   obtain⟨b,e3,hb⟩:=kZ tt m0;refine⟨_,[some (.sh (.dD (ns.map PV.int))),some (.sh (.lst (xs.map PV.int))),some (.sh hd),some (.sh (.lst (xs.map λn=>.str (tx n)))),y,z,some (.sh (.str (text xs))),some (.sh (.int k)),some (.sh (.str b)),none],rfl,?_,⟨_,_,rfl⟩,λj hj=>hk j (CB _ hj)⟩;dsimp? [e1,e2',e3,wa hb.sv hb.le,f7 hb.sv hb.le]
  .rintro env ⟨⟨u,v,rfl⟩,_⟩;have eod':cL (.lst [.bL,.int 5,.bl true,.lst [.str (Cn "1")],.tup [.str (Cn "1")],.emp,.lst [.int 1],.tup [.int 1,.int 2]]) (.int (m4%8))=M.ok od:=eod;dsimp? [vL,ec',em4',az (i:=m4) (j:=8) (by decide),eod',jf (pX hod),mL,sn,nX,cK c9 c9,decide_true]
end kP
theorem PySem.Challenge.cw_dialvault_k15_numbers_as_texts_holds : PySem.Challenge.rw_dialvault_k15_numbers_as_texts.Holds :=
  kP.hold HD.said λns _ _ => kP.vj ns
end