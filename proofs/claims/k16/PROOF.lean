import PyProof.Rows.All
import Wide.All
import OpenK.AllK
import Wide.FinOn
import Lean
import PyProof.EqAt
import PyProof.EqKinds
import PyProof.TupleCall
import PySem.Challenge.RW_dialvault_k16_vaults_as_texts
set_option Elab.async false
set_option linter.all false
set_option maxRecDepth 100000
set_option maxHeartbeats 0
open PySem renaming wpAny_bind->NB,wpAny_pure->NH,wpAny_mono->N8,wpAny_field->N_,wpAny_holding->Ou,wpAny_callSpecial?_slot->OH,wpAny_truthy_bool->OP,wpAny_newObj_type->OR,wpAny_call_entry->Pb,wpAny_Call_Name_kw->Pd,call_meets->Pe,wpAny_seqItems->Pg,wpAny_setField_rec->Pj,wpAny_passesOwn->Pu,wpAny_standAt->PB,wpAny_pyIter_tuple->PN,wpAny_attempt->Qf,wpAny_execs_nil->Qk,typeIs_str->Qn,wpAny_loadPart->Qu,codeAny_mono->Qx,wpAny_pyIter_enum->Qy,wpAny_setField->Qz,plainObj_wpAny_Assign_Attribute->QD,wpAny_updateSeq_pair->QJ,wpAny_loadPart'->QO,wpAny_letOwnedTupleGo_enum->Q8,wpAny_call->Q9,wpAny_binaryOp_repeat_ref->Rc,wpAny_assign_Name->Ri,wpAny_pyIter_list->Rj,wpAny_loadPart_at->Rk,wpAny_onRaise->Ro,noFill_tuple_add->Rt,wpAny_comp_letGo->Rw,typeIs_int->RD,codeAny_compStart_list->RG,wpAny_rule->RH,wpAny_ite_false->RQ,exec_Assign_Name_used->RT,codeAny_handlers_test->RU,wpAny_newFunctionEnv->R0,codeAny_call_builtin->R1,wpAny_handleBy_cons->Sf,seq_tuple_add->Sj,concat_meets->SE,wpAny_sequenceKey->SG,wpAny_typeOf->SH,seqIndex_neg->SI,slot_list_getitem->SJ,seqIndex_of->S8,wpAny_of_eq->S9,wpAny_letGo->S_,wpAny_Name->Tg
open PySem.Str renaming ofString->NC,join->Ot,length->Th,empty->TH
open List renaming length_map->ND,getElem?_eq_getElem->NG,mem_cons_of_mem->NI,mem_cons_self->NJ,getElem?_set->NL,length_cons->NS,size_toArray->NT,mem_cons->NU,replicate->NV,length_append->NW,all_eq_true->NY,getElem?_map->NZ,mem_append_right->N1,range->N2,map_cons->N5,getElem?_append_right->N6,mem_singleton->N9,getElem?_append_left->Ob,append_nil->Oh,mem_range->Oi,getD_eq_getElem?_getD->Om,map_map->Oo,lookup_cons->Oq,mem_map->OE,getElem?_replicate->OG,mem_append_left->OI,length_set->OJ,map_append->OL,getElem?_eq_some_iff->ON,replicate_succ->OO,of_mem_zip->OU,mem_append->OZ,length_take->O1,set_cons_zero->O3,flatten_cons->O5,drop_eq_nil_of_le->O8,take_of_length_le->O9,getElem_mem->Pc,length_mapIdx->Pk,length_singleton->Pn,drop_eq_getElem_cons->Pq,length_zip->Pw,all_cons->PF,length_drop->PK,mem_nil_iff->PL,mem_filter->PX,lookup->P1,mem_of_mem_drop->P5,mem_of_mem_take->P6,not_mem_nil->P8,cons_ne_nil->P9,any_cons->Qh,append_assoc->Qw,getElem?_set_ne->QI,nodup_cons->QM,length_nil->QU,filterMap_cons->QV,length_zipWith->QW,map_congr_left->QY,map_nil->Q0,zipWith->Q2,mem_filterMap->Q4,foldl->Q7,set_cons_succ->Ra,fst_mem_of_mem_zipIdx->Rb,mem_or_eq_of_mem_set->Rh,length_range->Rm,sum_cons->Rp,length_eq_zero_iff->Rz,getElem?_set_self->RA,length_pos_of_mem->RL,getElem_cons_drop->RN,foldl_cons->RO,nil_append->RP,length_replicate->RS,mem_of_getElem?->RZ,getElem?_mapIdx->R4,drop_zero->R5,getElem_of_mem->Sd,length_pos_iff->Si,map_take->Sl,foldl_toArray->Su,zipIdx_cons->SY,cons_append->S0,length_tail->S1,map_zipWith->S3,length->S7,zipIdx_nil->Td,forIn_cons->Te,forIn_nil->Ti,map_drop->TF,all_map->TM,any_map->TN,map_set->TQ
open PySem.Heap renaming get?_push_of_some->NF,lt_size->NN,get?_push_size->NO,size_push->Ow,get?_update_other->OD,get?_update_self->O0,SameBut->Px,get?_none_of_le->P0
open Nat renaming le_refl->NK,lt_of_lt_of_le->NP,ne_of_lt->NR,le_trans->N3,lt_succ_self->Ox,zero_le->OQ,lt_irrefl->O_,lt_of_le_of_lt->Pf,ne_of_gt->Py,le_succ->P4,mul_le_mul_left->Qd,min_eq_left->Qm,le_of_lt->Qs,le_add_right->QE,pow_le_pow_right->QK,mul_le_mul_right->QL,mul_comm->QZ,lt_trans->RE,lcm->RK,log2_lt->R3,le_of_eq->Sx,add_comm->SK,zero_add->SN,min_le_right->SQ,succ_ne_self->S2,min_eq_right->S6,mul_le_mul->To,le_of_dvd->Tz
open PySem.Value renaming ref->NQ,none->Oe,bool->OV,type->OW,builtin->QH,int->Rq,str->Rr,float->RY,bytes->TU
open Option.some renaming inj->NX
open Option renaming map_eq_some_iff->N4,isSome_iff_exists->PC,bind_eq_some_iff->PM,bind_some->QF,map_some->QT,getD_some->Ru,getD_none->SW
open PySem.Builtin.Str renaming strSliceIndices->N7,occurrences->Oa,partsBetween->Qi,subAt->Rl,strKind->Sg,tooLong->Sh,strSub->Ss
open PySem.Builtin.SmallTypes renaming nextOf->Od,ownedTupleIsFree->OS,ownedTupleHandOut->Qc
open Eq renaming trans->Of
open Int renaming toNat_natCast->Og,emod_lt_of_pos->Ol,eq_ofNat_of_zero_le->OB,emod_nonneg->OF,gcd->PJ,fdiv_eq_ediv_of_nonneg->P7,natAbs_mul->QB,dvd_mul_left->Rx,mul_ediv_add_emod->RW,natAbs_neg->R7,dvd_trans->Sk,natCast_nonneg->Sw,gcd_dvd_left->S4,toNat->S5,ediv_nonneg->Tf,mul_nonneg->Tj,natAbs_dvd->Tp,mul_assoc->Tr
open Array renaming getElem?_eq_some_iff->Oj,length_toList->Qa,getElem?_eq_getElem->Rf,getElem?_eq_none->RI,getElem?_toList->RV,find?_toList->Sm,toList->TL
open PyProof.Rows renaming slot_tuple_getitem->Ov,callWith_type1->O7,subscriptTail_builtinR->RB,split_weight->RM,entry_tuple_getitem->Sa,args_tuple_getitem->Sn,part_short->Tn
open Bool renaming and_eq_true->Oz,false_ne_true->OC,and_eq_true_iff->Pz,eq_iff_iff->Ql,false_eq_true->Qp,false_and->Qt,not_false->R8,not_eq_true'->SM,not_true->Tu,true_and->Tv,and_true->Tw
open PySem.PyData renaming canLay0->OA,depth->OM,eqv->PR,canLayAll0->QA,int->QG,depthAll->QS,strOk->SO,list->TV
open PySem.AutoSeq1 renaming wpAny_loadPart'->OT,sub_tuple_tuple->Qg,idx_int->Rv
open False renaming elim->OX
open PySem.SeqAt renaming shaped->OY,canLay_of_shaped->PU,noMix->R6,noMixAll->Tq
open Ne renaming symm->O4
open True renaming intro->O6
open PySem.Obj renaming mapFields->Pa,data_mapFields->Ph,isFreed_of_fields->PZ,mapSeq->RC
open PySem.Builtin.Slice renaming slicePlaces->Pp,sliceAdjust->P_,sliceApplied->Q5
open PySem.Builtin.Tuple renaming tupleExact->PD,tupleItemsOf->Q6,tupleTooMany->Q_
open PySem.NameKind renaming free->PY,cell->Rn
open PySem.Builtin.List renaming listTooLong->Qe
open List.cons renaming inj->Qj
open PySem.StrLaws renaming join_split->Qo,join_length_le->QC,glued_eq_join->RX
open Classical renaming propDecidable->Qq,axiomOfChoice->Ry
open ForInStep renaming yield->QN
open PySem.Builtin.Int renaming intBits->QX
open PySem.Calls renaming Name_function_global->Q3
open Nat.succ renaming inj->RJ
open Sum renaming inl->R9,inr->R_
open PySem.Heap.SameBut renaming update->Sb
open PySem.EntryCells renaming newEntry->Se
open PySem.Code renaming quiet_builtin->Sq,isFrame->SD
open PySem.Heap.Ns1 renaming of_empty->Sy
open PySem.Around renaming under->SA
open PyProof.Rows.IsTup renaming new->SS
open PySem.Flow renaming next->SX
open PySem.Shared renaming heap->Tc
open PySem.Spec renaming same->TJ,sameAll->TR
open PySem.Heap.IsSliceOf renaming new->TX
noncomputable section
theorem aR(h:True:=by rfl):True:=h
theorem aD(h:True:=by decide):True:=h
theorem aI(h:True:=by intro _;rfl):True:=h
theorem aK(h:True:=by kernel_rfl):True:=h
theorem aF(h:True:=by first | exact .inl rfl | exact .inr rfl | assumption):True:=h
theorem aU(h:True:=by with_unfolding_all rfl):True:=h
theorem aN(h:True:=by decide +kernel):True:=h
theorem aG(h:True:=by first | exact .inl rfl | exact .inr rfl):True:=h
namespace L2
open PySem PySem.Spec PyProof.Rows
abbrev Key:=Sum Int Str
def Ce:Key->Value->Bool
 | .inl k,v=>Value.isInt k v
 | .inr x,v=>Value.isStrOf x v
def Il(w:World):Key->Int
 | .inl k=>hashInt k
 | .inr x=>hashStr w x
theorem bT:∀ {k:Key} {v:Value},Ce k v=true->(∃ i t,k=R9 i/\v=Rq i t)\/(∃ x t,k=R_ x/\v=Rr x t)
 | .inl i,v,h=>by
  obtain⟨t,e⟩:=Value.isInt_shape (k:=i) (v:=v) h;exact .inl ⟨i,t,rfl,e⟩
 | .inr x,v,h=>by
  obtain⟨t,e⟩:=Value.isStrOf_shape (x:=x) (v:=v) h;exact .inr ⟨x,t,rfl,e⟩
theorem E9(a b:Int):decide ((R9 a:Key)=R9 b)=(a==b):=by
 by_cases e:a=b
 .subst e;simp
 .have h:¬ (R9 a:Key)=R9 b:=λq=>e (Sum.inl.inj q);rw[decide_eq_false h];exact(beq_eq_false_iff_ne.mpr e).symm
theorem DO(a b:Str):decide ((R_ a:Key)=R_ b)=decide (a=b):=by
 by_cases e:a=b
 .subst e;simp
 .have h:¬ (R_ a:Key)=R_ b:=λq=>e (Sum.inr.inj q);rw[decide_eq_false h,decide_eq_false e]
theorem DI(a:Int)(b:Str):decide ((R9 a:Key)=R_ b)=false:=decide_eq_false (λq=>nomatch q)
theorem CU(a:Str)(b:Int):decide ((R_ a:Key)=R9 b)=false:=decide_eq_false (λq=>nomatch q)
def vh(prog:Program)(w:World):PySem.KeyKind prog w Key where
 is:=Ce
 hash:=Il w
 inj:=λv a b ha hb=>by
  rcases bT ha with ⟨i,t,rfl,rfl⟩ | ⟨x,t,rfl,rfl⟩
  .rcases bT hb with ⟨j,u,rfl,e⟩ | ⟨y,u,rfl,e⟩
   .injection e with e1 _;rw[e1]
   .exact nomatch e
  .rcases bT hb with ⟨j,u,rfl,e⟩ | ⟨y,u,rfl,e⟩
   .exact nomatch e
   .injection e with e1 _;rw[e1]
 byValue:=λk v h=>by
  rcases bT h with ⟨i,t,rfl,rfl⟩ | ⟨x,t,rfl,rfl⟩ <;> rfl
 pyHash:=λhv h=>by
  rcases bT hv with ⟨i,t,rfl,rfl⟩ | ⟨x,t,rfl,rfl⟩
  .exact wpAny_pyHash_int h
  .exact wpAny_pyHash_str h
 eqBool:=λhu hv h=>by
  rcases bT hu with ⟨i,t,rfl,rfl⟩ | ⟨x,t,rfl,rfl⟩
  .rcases bT hv with ⟨j,u,rfl,rfl⟩ | ⟨y,u,rfl,rfl⟩
   .rw[E9] at h;exact wpAny_eqBool_int h
   .rw[DI] at h;exact SeqAt.EqAt.int_str i t y u _ _ _ _ h
  .rcases bT hv with ⟨j,u,rfl,rfl⟩ | ⟨y,u,rfl,rfl⟩
   .rw[CU] at h;exact SeqAt.EqAt.str_int x t j u _ _ _ _ h
   .rw[DO] at h;exact wpAny_eqBool_str h
 «strs»:=λk x t v h=>by
  rcases bT h with ⟨i,u,rfl,e⟩ | ⟨y,u,rfl,e⟩
  .exact nomatch e
  .injection e with e1 _
   subst e1;cases v <;> rfl
inductive V where
 | bH | bl (b:Bool) | int (i:Int) | str (x:Str) | byt (b:Array UInt8) | CI (b:UInt64) | ref (a:Addr) | ty (n:String)
 deriving DecidableEq
def RelV:V->Value->Prop
 | .bH,u=>u=Oe
 | .bl b,u=>u=OV b
 | .int i,u=>∃ t,u=Rq i t
 | .str x,u=>∃ t,u=Rr x t
 | .byt b,u=>∃ t,u=TU b t
 | .CI b,u=>∃ t,u=RY b t
 | .ref a,u=>u=NQ a
 | .ty n,u=>u=OW n
abbrev Vals:List V->List Value->Prop:=Paired RelV
theorem Vals.length{xs:List V}{us:List Value}(r:Vals xs us):xs.length=us.length:=Paired.length r
theorem Vals.get:∀ {xs:List V} {us:List Value} {i:Nat} {x:V},Vals xs us->xs[i]?=some x->∃ u,us[i]?=some u/\RelV x u
 | _,_,_,_,.nil,e=>by simp at e
 | _,_,0,_,.cons r _,e=>by simp at e;subst e;exact⟨_,rfl,r⟩
 | _,_,i+1,x,.cons _ t,e=>by
  obtain⟨u,h1,h2⟩:=Vals.get (i:=i) (x:=x) t (by simpa using e);exact⟨u,by simpa using h1,h2⟩
theorem Vals.set{x:V}{u:Value}(r:RelV x u):∀ {xs:List V} {us:List Value} (i:Nat),Vals xs us->Vals (xs.set i x) (us.set i u)
 | _,_,_,.nil=>.nil
 | _,_,0,.cons _ t=>.cons r t
 | _,_,i+1,.cons q t=>.cons q (Vals.set r i t)
theorem Vals.append:∀ {xs ys:List V} {us ws:List Value},Vals xs us->Vals ys ws->Vals (xs++ys) (us++ws)
 | _,_,_,_,.nil,s=>s
 | _,_,_,_,.cons r t,s=>.cons r (Vals.append t s)
theorem Vals.take:∀ {xs:List V} {us:List Value} (n:Nat),Vals xs us->Vals (xs.take n) (us.take n)
 | _,_,0,_=>.nil
 | _,_,_+1,.nil=>.nil
 | _,_,n+1,.cons r t=>.cons r (Vals.take n t)
theorem Vals.drop:∀ {xs:List V} {us:List Value} (n:Nat),Vals xs us->Vals (xs.drop n) (us.drop n)
 | _,_,0,r=>r
 | _,_,_+1,.nil=>.nil
 | _,_,n+1,.cons _ t=>Vals.drop n t
def kF:Option V->Option Value->Prop
 | some v,some u=>RelV v u
 | none,none=>True
 | _,_=>False
def KV{κ:Type}:List (κ×V)->List (κ×Value)->Prop:=Paired λ(p:κ×V) (q:κ×Value)=>p.1=q.1/\RelV p.2 q.2
def kV:Key->V
 | .inl i=>.int i
 | .inr x=>.str x
inductive HO where
 | lst (xs:List V)
 | tup (xs:List V)
 | dK (Ky:List (Key×V)) | dT (Ky:List (List Key×V))
 | set (S:Int->Bool) (n:Nat)
 | ins (C dx:Addr) (fs:List (Str×V))
 | own (x:Addr)
 | xd (fs:List (Str×V))
 | met (f x:Addr)
 | B7 (lo hi:Int)
 | oO (o:Obj) (u:HO)
 | Cu (ps:Array Value)
 | ext (φ:Heap->Prop)
abbrev Hp:=Addr->Option HO
def upd(H:Hp)(a:Addr)(o:HO):Hp:=λb=>if b=a then some o else H b
variable{a:Addr}{H:Hp}
theorem av{o:HO}:upd H a o a=some o:=by unfold upd;rw[if_pos rfl]
variable{b:Addr}
theorem ar{o:HO}(h:b≠a):upd H a o b=H b:=by unfold upd;rw[if_neg h]
theorem vi{o u:HO}:upd (upd H a o) a u=upd H a u:=by
 funext b;unfold upd;split <;> rfl
theorem bh{o:HO}(h:H a=some o)(h':H b=none):a≠b:=by
 intro e;subst e;rw[h] at h';cases h'
section
variable(P:Program)(w:World)
def bF(H:Hp)(h:Heap)(a:Addr):HO->Prop
 | .lst xs=>xs.length<=sizeLine/\∃ (J6:List Value) (n:Nat),Vals xs J6/\h.get? a=some { cls:=.type "list", data:=.seq J6.toArray n }
 | .tup xs=>xs.length<=sizeLine/\∃ J6:List Value,Vals xs J6/\IsTup h a J6.toArray
 | .dK Ky=>Ky.length<=sizeLine/\(a==sysModules)=false/\∃ vs,KV Ky vs/\h.DictOf (vh P w) a vs
 | .dT Ky=>Ky.length<=sizeLine/\(a==sysModules)=false/\∃ xs:List (List Key×Addr×Value),
   Paired (λ(p:List Key×V) (q:List Key×Addr×Value)=>p.1=q.1/\H q.2.1=some (.tup (p.1.map kV))/\RelV p.2 q.2.2) Ky xs ∧
   ∃ o es ep,h.get? a=some o/\o.ExactDict/\o.data=.dict es ep/\es.toList=xs.map (entryOfKey (tupleKind (vh P w)))/\(xs.map (·.1)).Nodup
 | .set S n=>h.SetOf (intKind P w) a S n
 | .ins C dx fs=>H dx=some (.own a)/\fs.length<=1000/\dx≠a/\h.get? a=some (PySem.W.instObj C dx) ∧
   ∃ mA,h.Ns1 dx mA/\(∀ f,kF (fs.lookup f) (mA f))/\PySem.Within mA (fs.map (·.1))
 | .own _=>∃ o,h.get? a=some o
 | .xd fs=>∃ mA,h.Ns1 a mA/\∀ f,kF (fs.lookup f) (mA f)
 | .B7 lo hi=>∃ t u v,h.get? a=some { cls:=.type "range", data:=.fields #[.int lo t,.int hi u,.int 1 v] }
 | .oO o u=>h.get? a=some o/\bF H h a u
 | .Cu ps=>h.get? a=some { cls:=.none,data:=.fields ps }
 | .met f x=>h.get? a=some (PySem.W.methodObj (.ref f) (.ref x))
 | .ext φ=>φ h/\(∃ o,h.get? a=some o)/\∀ h1 h2:Heap,φ h1->(∀ o,h1.get? a=some o->h2.get? a=some o)->φ h2
def kI(H:Hp)(h:Heap):Prop:=∀ a o,H a=some o->bF P w H h a o
end
variable{h h':Heap}{H':Hp}{w:World}{P:Program}
section
variable{o:HO}
theorem bF.lt(x:bF P w H h a o):a<h.objs.size:=by
 cases o with
 | lst xs=>obtain⟨_,_,_,_,e⟩:=x;exact NN e
 | tup xs=>obtain⟨_,_,_,p⟩:=x;exact p.lt
 | dK Ky=>obtain⟨_,_,_,_,o,_,_,e,_⟩:=x;exact NN e
 | dT Ky=>obtain⟨_,_,_,_,o,_,_,e,_⟩:=x;exact NN e
 | set S n=>obtain⟨o,_,_,_,e,_⟩:=x;exact NN e
 | ins C dx fs=>obtain⟨_,_,_,e,_⟩:=x;exact NN e
 | own y=>obtain⟨_,e⟩:=x;exact NN e
 | xd fs=>obtain⟨_,⟨_,_,_,e,_⟩,_⟩:=x;exact NN e
 | B7 lo hi=>obtain⟨_,_,_,e⟩:=x;exact NN e
 | oO ob u=>obtain⟨e,_⟩:=x;exact NN e
 | Cu ps=>exact NN (show h.get? a=some _ from x)
 | met f y=>exact NN (show h.get? a=some _ from x)
 | ext φ=>obtain⟨_,⟨_,e⟩,_⟩:=x;exact NN e
theorem Paired.GN{α β:Type}{F G:α->β->Prop}:∀ {l₁:List α} {l₂:List β},Paired F l₁ l₂->(∀ a b,F a b->G a b)->Paired G l₁ l₂
 | _,_,.nil,_=>.nil
 | _,_,.cons r t,f=>.cons (f _ _ r) (Paired.GN t f)
theorem bF.jU(x:bF P w H h a o)(k:∀ b u,(b=a\/H b=some (.own a))->h.get? b=some u->h'.get? b=some u)
  (ho:∀ b,H b=some (.own a)->H' b=some (.own a)) (ht:∀ b xs,H b=some (.tup xs)->H' b=some (.tup xs)):bF P w H' h' a o:=by
 induction o with
 | lst xs=>obtain⟨z,J6,n,r,e⟩:=x;exact⟨z,J6,n,r,k _ _ (.inl rfl) e⟩
 | tup xs=>obtain⟨z,J6,r,ob,e,c⟩:=x;exact⟨z,J6,r,ob,k _ _ (.inl rfl) e,c⟩
 | dK Ky=>obtain⟨z,y,vs,r,ob,es,ep,e,c⟩:=x;exact⟨z,y,vs,r,ob,es,ep,k _ _ (.inl rfl) e,c⟩
 | dT Ky =>
  obtain⟨z,y,xs,r,ob,es,ep,e,c⟩:=x;exact⟨z,y,xs,Paired.GN r λp q z=>⟨z.1,ht _ _ z.2.1,z.2.2⟩,ob,es,ep,k _ _ (.inl rfl) e,c⟩
 | set S n=>obtain⟨ob,es,ep,t,e,c⟩:=x;exact⟨ob,es,ep,t,k _ _ (.inl rfl) e,c⟩
 | ins C dx fs =>
  obtain⟨d,z,ne,e,mA,⟨od,es,ep,e2,c⟩,r⟩:=x;exact⟨ho _ d,z,ne,k _ _ (.inl rfl) e,mA,⟨od,es,ep,k _ _ (.inr d) e2,c⟩,r⟩
 | own y=>obtain⟨ob,e⟩:=x;exact⟨ob,k _ _ (.inl rfl) e⟩
 | xd fs=>obtain⟨mA,⟨od,es,ep,e,c⟩,r⟩:=x;exact⟨mA,⟨od,es,ep,k _ _ (.inl rfl) e,c⟩,r⟩
 | B7 lo hi=>obtain⟨t,u,v,e⟩:=x;exact⟨t,u,v,k _ _ (.inl rfl) e⟩
 | oO ob u ih=>obtain⟨e,q⟩:=x;exact⟨k _ _ (.inl rfl) e,ih q⟩
 | Cu ps =>
  have e:h.get? a=some { cls:=.none,data:=.fields ps }:=x;show h'.get? a=some { cls:=.none,data:=.fields ps };exact k a _ (.inl rfl) e
 | met f y =>
  have e:h.get? a=some (PySem.W.methodObj (.ref f) (.ref y)):=x;show h'.get? a=some (PySem.W.methodObj (.ref f) (.ref y));exact k a _ (.inl rfl) e
 | ext φ=>obtain⟨p,⟨o,e⟩,st⟩:=x;exact⟨st _ _ p λo q=>k _ _ (.inl rfl) q,⟨o,k _ _ (.inl rfl) e⟩,st⟩
theorem kI.lt(x:kI P w H h)(e:H a=some o):a<h.objs.size:=(x a o e).lt
theorem kI.fresh(x:kI P w H h)(e:h.objs.size<=a):H a=none:=by
 cases q:H a with
 | none=>rfl
 | some u=>exact absurd (NP (x.lt q) e) (O_ _)
theorem kI.kept(x:kI P w H h)(k:∀ b u,h.get? b=some u->h'.get? b=some u):kI P w H h':=λa o e =>
 (x a o e).jU (λb u _ q=>k b u q) (λ_ q=>q) λ_ _ q=>q
theorem kI.laid(x:kI P w H h)(k:∀ b u,h.get? b=some u->h'.get? b=some u)(hp:h.objs.size<=a)(new:bF P w (upd H a o) h' a o):kI P w (upd H a o) h':=λb u e=>by
 have hn:=x.fresh hp
 by_cases hb:b=a
 .subst hb;rw[av] at e;cases e;exact new
 .rw[ar hb] at e;exact(x b u e).jU (λc v _ q=>k c v q) (λc q=>by rw[ar (bh q hn)];exact q) λc xs q=>by rw[ar (bh q hn)];exact q
end
def Rd(H:Hp)(a:Addr)(u:HO):Prop:=H a=some u\/∃ o,H a=some (.oO o u)
theorem Rd.ok{u:HO}(r:Rd H a u)(x:kI P w H h):bF P w H h a u:=by
 rcases r with r | ⟨o,r⟩
 .exact x a u r
 .obtain⟨_,q⟩:=x a _ r;exact q
def He:Option HO->Prop
 | some (.lst _)=>True
 | some (.dK _)=>True
 | some (.dT _)=>True
 | some (.set _ _)=>True
 | some (.ins _ _ _)=>True
 | some (.ext _)=>True
 | _=>False
section
variable{x e:Addr}{o':HO}
theorem kI.write(ok:kI P w H h)(mu:He (H x))(he:e=x\/H e=some (.own x))(k:∀ b u,b≠e->h.get? b=some u->h'.get? b=some u)(MV:∃ u,h'.get? e=some u)
  (new:bF P w (upd H x o') h' x o'):kI P w (upd H x o') h':=λb u q=>by
 have Nz:∀ c y,H c=some (.own y)->c≠x:=λc y r z=>by subst z;rw[r] at mu;exact mu
 have ntup:∀ c xs,H c=some (.tup xs)->c≠x:=λc xs r z=>by subst z;rw[r] at mu;exact mu
 by_cases hb:b=x
 .subst hb;rw[av] at q;cases q;exact new
 .rw[ar hb] at q
  by_cases L7:b=e
  .have q':H b=some (.own x):=by
    rcases he with z | z
    .exact absurd (L7.trans z) hb
    .rw[L7];exact z
   rw[q] at q';cases q';obtain⟨v,hv⟩:=MV;exact⟨v,by rw[L7];exact hv⟩
  .refine(ok b u q).jU (λc v hc r=>k c v ?_ r) (λc r=>by rw[ar (Nz c b r)];exact r) λc xs r=>by rw[ar (ntup c xs r)];exact r
   rcases hc with rfl | hc
   .exact L7
   .rintro rfl;rcases he with z | z
    .exact Nz c b hc z
    .rw[hc] at z;cases z;exact hb rfl
end
structure Un (fs ex:List Addr) (H H':Hp) (h h':Heap):Prop where
 keep:∀ b o,h.get? b=some o->H b=none->b ∉ fs->b ∉ ex->h'.get? b=some o
 slot:∀ b o,h.get? b=some o->H b=none->b∈fs->b ∉ ex->∃ sl,h'.get? b=some { o with slots:=sl }
 free:∀ b o,h.get? b=some o->H b=none->b ∉ ex->H' b=none
 there:∀ b o,h.get? b=some o->b ∉ ex->∃ o',h'.get? b=some o'
 lB:∀ b xs,H b=some (.tup xs)->H' b=some (.tup xs)
 iX:∀ b o u,H b=some (.oO o u)->H' b=some (.oO o u)
 kY:∀ b ps,H b=some (.Cu ps)->∃ more,H' b=some (.Cu (ps++more))
section
variable{fs MF ex ex':List Addr}{H1 H2:Hp}{h1 h2:Heap}{x e:Addr}{o:HO}
theorem Un.any(u:Un fs ex H H1 h h1){ob:Obj}(q:h.get? b=some ob)(n:H b=none)(hx:b ∉ ex):∃ sl,h1.get? b=some { ob with slots:=sl }:=by
 by_cases hb:b∈fs
 .exact u.slot b ob q n hb hx
 .exact⟨ob.slots,u.keep b ob q n hb hx⟩
theorem Un.kept(k:∀ b u,h.get? b=some u->h'.get? b=some u):Un fs ex H H h h' :=
 ⟨λb ob q _ _ _=>k b ob q,λb ob q _ _ _=>⟨ob.slots,k b ob q⟩,λ_ _ _ n _=>n,λb ob q _=>⟨ob,k b ob q⟩,λ_ _ q=>q,λ_ _ _ q=>q,λ_ ps q=>⟨#[],by rw[q];simp⟩⟩
theorem Un.refl:Un fs ex H H h h:=Un.kept λ_ _ q=>q
theorem Un.laid(k:∀ b u,h.get? b=some u->h'.get? b=some u)(hp:h.objs.size<=a)(hn:H a=none):Un fs ex H (upd H a o) h h' where
 keep:=λb u q _ _ _=>k b u q
 slot:=λb u q _ _ _=>⟨u.slots,k b u q⟩
 free:=λb u q n _=>by rw[ar (NR (NP (NN q) hp))];exact n
 there:=λb u q _=>⟨u,k b u q⟩
 lB:=λb xs q=>by rw[ar (bh q hn)];exact q
 iX:=λb u xs q=>by rw[ar (bh q hn)];exact q
 kY:=λb ps q=>⟨#[],by rw[ar (bh q hn),q];simp⟩
theorem Un.write(mu:He (H x))(he:e=x\/H e=some (.own x))(k:∀ b u,b≠e->h.get? b=some u->h'.get? b=some u)(MV:∃ u,h'.get? e=some u):Un fs ex H (upd H x o) h h':=by
 have hx:∀ b,H b=none->b≠x:=λb n z=>by subst z;rw[n] at mu;exact mu
 have hb:∀ b,H b=none->b≠e:=λb n z=>by
  subst z;rcases he with r | r
  .exact hx b n r
  .rw[n] at r;cases r
 have hm:∀ b u,H b=some u->¬ He (some u)->b≠x:=λb u q nm z=>by subst z;rw[q] at mu;exact nm mu
 refine⟨λb u q n _ _=>k b u (hb b n) q,λb u q n _ _=>⟨u.slots,k b u (hb b n) q⟩,λb u q n _=>by rw[ar (hx b n)];exact n,λb u q _=>?_,
  λb xs q=>by rw[ar (hm b _ q λz=>z)];exact q,λb u xs q=>by rw[ar (hm b _ q λz=>z)];exact q,λb ps q=>⟨#[],by rw[ar (hm b _ q λz=>z),q];simp⟩⟩
 by_cases L7:b=e
 .subst L7;exact MV
 .exact⟨u,k b u L7 q⟩
end
def G4(h:Heap)(H:Hp):List Addr:=(N2 h.objs.size).filter λa=>(H a).isSome
def qC(h:Heap)(H:Hp):Heap:=PySem.W.hideAll h (G4 h H)
theorem xw(h:Heap)(H:Hp):(qC h H).objs.size=h.objs.size:=PySem.W.hideAll_size _ _
variable{o:Obj}
theorem yk(e:h.get? b=some o)(n:H b=none):(qC h H).get? b=some o :=
 PySem.W.hideAll_get _ e λhm=>by
  have q:(H b).isSome=true:=(PX.mp hm).2;rw[n] at q;simp at q
theorem A4(e:(qC h H).get? b=some o):h.get? b=some o/\H b=none:=by
 have e':h.get? b=some o:=PySem.W.of_hideAll (G4 h H) e;refine⟨e',?_⟩;cases q:H b with
 | none=>rfl
 | some x =>
  have hm:b∈G4 h H:=PX.mpr ⟨Oi.mpr (NN e'),by simp[q]⟩;have z:(qC h H).get? b=none:=PySem.W.hideAll_none (G4 h H) hm;rw[z] at e;cases e
def By(g h:Heap)(L:Addr):List (Addr×Obj):=(N2 h.objs.size).filterMap λa=>if a=L\/(g.get? a).isSome=true then none else (h.get? a).map λo=>(a,o)
def rest(g h:Heap)(L d:Addr):List (Addr×Obj):=(By g h L).filter λp=>decide (p.1≠d)
structure Mod (K:PySem.W.Frag) (mg:Str->Option Value) (base:Heap):Prop where
 DH:K.In base
 glob:base.Ns mainGlobals mg
 blt:∃ mb,base.Ns builtinsNs mb/\∀ x:Str,x ≠ "__name__" -> mb x=bootBuiltins x
 nolimit:base.NoLimit
structure Cx where
 prog:Program
 w:World
 K:PySem.W.Frag
 mg:Str->Option Value
 base:Heap
 A:Around
 N:List Str
 s₀:Shared
 H₀:Hp
 env:Env
 outer:List Env
 stack:List Env
 ex:List Addr
 fn:Str->Bool
 calm:Bool
 pn:List (Addr×Obj)
 xe:Value->Shared->Prop
def qW(l:List Env):List Addr:=l.filterMap (·.frame)
abbrev Cx.fs(X:Cx):List Addr:=qW X.outer
def yW(sc:Scope)(x:Str):Prop:=sc.names.lookup x=some .local\/sc.names.lookup x=some .cell\/sc.names.lookup x=some .free
def Loc(sc:Scope)(x:Str):Prop:=sc.names.lookup x=some .local\/sc.names.lookup x=some .cell
def Look(env:Env)(h:Heap)(m:Str->Option Value)(x:Str)(u:Value):Prop :=
 (env.kindOf x=some .local/\m x=some u)\/((env.kindOf x=some .cell\/env.kindOf x=some .free)/\∃ c,env.cells.lookup x=some c/\h.IsCell c (some u))
structure Cx.Ok (X:Cx):Prop where
 mod:Mod X.K X.mg X.base
 kind:X.env.scope.kind=.function
 glob:X.env.globals=mainGlobals
 blt:X.env.builtins=builtinsNs
 above:X.s₀.heap.objs.size<=X.env.locals
 inj:∀ x y c,X.env.cells.lookup x=some c->X.env.cells.lookup y=some c->x=y
 has:∀ x,(X.env.kindOf x=some .cell\/X.env.kindOf x=some .free)->∃ c,X.env.cells.lookup x=some c
 CB:∀ x c,X.fn x=true->X.env.cells.lookup x=some c->X.s₀.heap.objs.size<=c
 hd:X.calm=true->X.A.handled=none
 frames:X.A.frames=some X.stack
 Fm:X.stack=X.outer\/(X.stack=X.env::X.outer/\X.env.frame=some X.env.locals)
 E3:∀ b∈X.ex,b≠X.env.locals/\∀ x c,X.env.cells.lookup x=some c->c≠b
 bs:∀ b o,X.base.get? b=some o->X.s₀.heap.get? b=some o/\X.H₀ b=none
 xD:X.base.objs.size<=X.s₀.heap.objs.size
 oM:∀ b o,X.base.get? b=some o->b ∉ X.ex
 qI:∀ b∈X.ex,b ∉ X.fs
 jW:X.s₀.heap.FunFrames X.base X.outer
 Ar:∀ b∈X.fs,X.H₀ b=none
structure Inv (X:Cx) (J2:List (Addr×Obj)) (σ:List (Option V)) (H:Hp) (s:Shared):Prop where
 ok:X.Ok
 os:s.os=X.s₀.os
 bare:AllBare s.gens
 base:Un X.fs X.ex X.H₀ H X.s₀.heap s.heap
 loc:∃ m,s.heap.Ns X.env.locals m/\∀ (i:Nat) (x:Str) (v:V),X.N[i]?=some x->σ[i]?=some (some v)->yW X.env.scope x->∃ u,RelV v u/\Look X.env s.heap m x u
 cell:∀ x c,X.env.cells.lookup x=some c->∃ v,s.heap.IsCell c v
 free:H X.env.locals=none
 fm:∀ x c,X.env.cells.lookup x=some c->H c=none
 pin:∀ p∈X.pn++J2,s.heap.get? p.1=some p.2/\H p.1=none/\p.1≠X.env.locals/\p.1 ∉ X.fs/\∀ v,p.2.data≠.cell v
 bg:kI X.prog X.w H s.heap
 len:σ.length=X.N.length
variable{s:Shared}{J2:List (Addr×Obj)}{X:Cx}
variable{ch:List Addr}{d':Drawn}{t':Nat}{g':Array GenState}
variable{it:Addr}
variable{x:Str}{i:Nat}{N:List Str}
variable{u:Value}{v:V}{E:Value->Shared->Prop}{A:Around}
section
variable{σ:List (Option V)}
theorem Cx.Ok.Jd(ok:X.Ok)(e:X.base.get? b=some o):b ∉ X.fs:=λhb=>by
 have:=(ok.jW.mem hb).1;rw[e] at this;cases this
theorem Inv.bs(I:Inv X J2 σ H s):∀ b o,X.base.get? b=some o->s.heap.get? b=some o/\H b=none:=λb o e =>
 ⟨I.base.keep b o (I.ok.bs b o e).1 (I.ok.bs b o e).2 (I.ok.Jd e) (I.ok.oM b o e),I.base.free b o (I.ok.bs b o e).1 (I.ok.bs b o e).2 (I.ok.oM b o e)⟩
theorem Inv.bk(I:Inv X J2 σ H s):∀ b o,X.base.get? b=some o->s.heap.get? b=some o:=λb o e=>(I.bs b o e).1
theorem Inv.mod(I:Inv X J2 σ H s):Mod X.K X.mg X.base:=I.ok.mod
theorem Inv.iH(I:Inv X J2 σ H s):X.K.In s.heap:=I.ok.mod.DH.keeps I.bk
theorem Inv.lt(I:Inv X J2 σ H s):X.env.locals<s.heap.objs.size:=let ⟨_,hn,_⟩:=I.loc;hn.lt
theorem Inv.sz(I:Inv X J2 σ H s):X.s₀.heap.objs.size<=s.heap.objs.size:=N3 I.ok.above (Qs I.lt)
theorem Inv.IV(I:Inv X J2 σ H s)(h:s.heap.objs.size<=a):a ∉ X.fs:=λhb=>by
 obtain⟨_,o,ho,_⟩:=I.ok.jW.mem hb;exact absurd (NP (NN ho) (N3 I.sz h)) (O_ _)
theorem Inv.zp(I:Inv X J2 σ H s):∀ x c,X.env.cells.lookup x=some c->c≠X.env.locals:=λx c e z=>by
 obtain⟨v,o,ho,hd⟩:=I.cell x c e;obtain⟨m,⟨o',es,ep,Lz,Nf,_⟩,_⟩:=I.loc;rw[z,Lz] at ho;cases ho;rw[Nf] at hd;cases hd
theorem Inv.jW(I:Inv X J2 σ H s):s.heap.FunFrames X.base X.outer:=by
 have all:∀ (l:List Env),(∀ b∈qW l,b∈X.fs)->X.s₀.heap.FunFrames X.base l->s.heap.FunFrames X.base l:=by
  intro l
  induction l with
  | nil=>intro _ _;trivial
  | cons env r ih =>
   intro hs hl;obtain⟨hk,⟨L,o,hf,hn,ho,hd⟩,hr⟩:=hl;have hL:L∈X.fs:=hs L (by unfold qW;rw[QV,hf];exact NJ);obtain⟨sl,e⟩:=I.base.slot L o ho (I.ok.Ar L hL) hL λz=>I.ok.qI L z hL;exact⟨hk,⟨L,_,hf,hn,e,hd⟩,ih (λb hb=>hs b (by unfold qW;rw[QV,hf];exact NI _ hb)) hr⟩
 exact all X.outer (λ_ hb=>hb) I.ok.jW
theorem Inv.stack(I:Inv X J2 σ H s):s.heap.FunFrames X.base X.stack:=by
 rcases I.ok.Fm with e | ⟨e,hf⟩
 .rw[e];exact I.jW
 .rw[e];obtain⟨m,hn,_⟩:=I.loc;refine .cons (by rw[I.ok.kind];decide) hf hn ?_ I.jW;exact P0 (N3 I.ok.xD I.ok.above)
theorem Inv.lC(I:Inv X J2 σ H s):∀ b∈qW X.stack,b∈X.env.locals::X.fs:=λb hb=>by
 rcases I.ok.Fm with e | ⟨e,hf⟩
 .rw[e] at hb;exact NI _ hb
 .rw[e] at hb;unfold qW at hb;rw[QV,hf] at hb;exact hb
theorem Inv.j3(I:Inv X J2 σ H s):∀ b∈qW X.stack,H b=none:=λb hb=>by
 rcases NU.mp (I.lC b hb) with e | hb
 .rw[e];exact I.free
 .obtain⟨_,o,ho,_⟩:=I.ok.jW.mem hb;exact I.base.free b o ho (I.ok.Ar b hb) λz=>I.ok.qI b z hb
theorem Inv.step(I:Inv X J2 σ H s)
  (Lx:∀ b∈ch,(b∈X.ex\/X.s₀.heap.objs.size<=b)/\b≠X.env.locals/\(∀ x c,X.env.cells.lookup x=some c->c≠b)/\∀ p∈X.pn++J2,p.1≠b)
  (keep:∀ b o,b≠X.env.locals->b ∉ X.fs->b ∉ ch->s.heap.get? b=some o->H b=none->h'.get? b=some o)
  (slot:∀ b o,b≠X.env.locals->b∈X.fs->b ∉ ch->s.heap.get? b=some o->H b=none->∃ sl,h'.get? b=some { o with slots:=sl }) (free:∀ b o,b ∉ ch->s.heap.get? b=some o->H b=none->H' b=none)
  (there:∀ b o,b ∉ ch->s.heap.get? b=some o->∃ o',h'.get? b=some o')
  (lB:∀ b xs,H b=some (.tup xs)->H' b=some (.tup xs)) (iX:∀ b o u,H b=some (.oO o u)->H' b=some (.oO o u)) (kY:∀ b ps,H b=some (.Cu ps)->∃ more,H' b=some (.Cu (ps++more)))
  (ns:∀ m,s.heap.Ns X.env.locals m->h'.Ns X.env.locals m) (bg:kI X.prog X.w H' h') (hg:AllBare g') :
  Inv X J2 σ H' { s with heap:=h',gens:=g',drawn:=d',toks:=t' }:=by
 have neL:∀ b o,X.s₀.heap.get? b=some o->b≠X.env.locals:=λb o e=>NR (NP (NN e) I.ok.above);have neC:∀ b o,X.s₀.heap.get? b=some o->b ∉ X.ex->b ∉ ch:=λb o e hx hb=>by
  rcases(Lx b hb).1 with z | z
  .exact hx z
  .exact absurd (NP (NN e) z) (O_ _)
 have cellK:∀ x c,X.env.cells.lookup x=some c->∀ v,s.heap.IsCell c v->h'.IsCell c v:=λx c e v ⟨o,ho,hd⟩=>by
  have Ny:c ∉ ch:=λz=>(Lx c z).2.2.1 x c e rfl
  by_cases hc:c∈X.fs
  .obtain⟨sl,q⟩:=slot c o (I.zp x c e) hc Ny ho (I.fm x c e);exact⟨_,q,hd⟩
  .exact⟨o,keep c o (I.zp x c e) hc Ny ho (I.fm x c e),hd⟩
 refine⟨I.ok,I.os,hg,⟨λb o e n hb hx=>?_,λb o e n hb hx=>?_,λb o e n hx=>?_,λb o e hx=>?_,λb xs e=>lB b xs (I.base.lB b xs e),λb o xs e=>iX b o xs (I.base.iX b o xs e),λb ps e=>?_⟩,?_,λx c e=>?_,?_,λx c e=>?_,λp hp=>?_,bg,I.len⟩
 .exact keep b o (neL b o e) hb (neC b o e hx) (I.base.keep b o e n hb hx) (I.base.free b o e n hx)
 .obtain⟨sl,e1⟩:=I.base.slot b o e n hb hx;obtain⟨sl',e2⟩:=slot b _ (neL b o e) hb (neC b o e hx) e1 (I.base.free b o e n hx);exact⟨sl',e2⟩
 .obtain⟨o',e1⟩:=I.base.there b o e hx;exact free b o' (neC b o e hx) e1 (I.base.free b o e n hx)
 .obtain⟨o',e1⟩:=I.base.there b o e hx;exact there b o' (neC b o e hx) e1
 .obtain⟨m1,e1⟩:=I.base.kY b ps e;obtain⟨m2,e2⟩:=kY b _ e1;exact⟨m1++m2,by rw[e2,Array.append_assoc]⟩
 .obtain⟨m,hn,hl⟩:=I.loc;refine⟨m,ns m hn,λi x v e1 e2 e3=>?_⟩;obtain⟨u,r,l⟩:=hl i x v e1 e2 e3;refine⟨u,r,?_⟩;rcases l with l | ⟨k,c,e,z⟩
  .exact .inl l
  .exact .inr ⟨k,c,e,cellK x c e _ z⟩
 .obtain⟨v,z⟩:=I.cell x c e;exact⟨v,cellK x c e v z⟩
 .obtain⟨m,⟨o,_,_,ho,_⟩,_⟩:=I.loc;exact free _ o (λz=>(Lx _ z).2.1 rfl) ho I.free
 .obtain⟨v,o,ho,hd⟩:=I.cell x c e;exact free c o (λz=>(Lx c z).2.2.1 x c e rfl) ho (I.fm x c e)
 .obtain⟨e,n,ne,nf,d⟩:=I.pin p hp;have Ny:p.1 ∉ ch:=λz=>(Lx p.1 z).2.2.2 p hp rfl;exact⟨keep p.1 p.2 ne nf Ny e n,free p.1 p.2 Ny e n,ne,nf,d⟩
theorem Inv.un(I:Inv X J2 σ H s)(u:Un X.fs [] H H' s.heap h')(bg:kI X.prog X.w H' h'):Inv X J2 σ H' { s with heap:=h',toks:=t' }:=by
 obtain⟨m,⟨o,es,ep,ho,r⟩,_⟩:=id I.loc;obtain⟨sl,hL⟩:=u.any ho I.free (by simp);exact I.step (g':=s.gens) (d':=s.drawn) (ch:=[]) (λ_ z=>nomatch z) (λb o _ hb _ e n=>u.keep b o e n hb (by simp)) (λb o _ hb _ e n=>u.slot b o e n hb (by simp)) (λb o _ e n=>u.free b o e n (by simp)) (λb o _ e=>u.there b o e (by simp)) u.lB u.iX u.kY (λm' hm=>by
  obtain⟨o',es',ep',Lz,r'⟩:=hm;rw[ho] at Lz;cases Lz;exact⟨_,es',ep',hL,r'⟩) bg I.bare
theorem Inv.call(I:Inv X J2 σ H s)(u:Un (qW X.stack) ch H H' s.heap h')(bg:kI X.prog X.w H' h')(hg:AllBare g')
  (Lx:∀ b∈ch,(b∈X.ex\/X.s₀.heap.objs.size<=b)/\b≠X.env.locals/\(∀ x c,X.env.cells.lookup x=some c->c≠b)/\∀ p∈X.pn++J2,p.1≠b) :
  Inv X J2 σ H' { s with heap:=h',gens:=g',drawn:=d',toks:=t' }:=by
 obtain⟨m,⟨o,es,ep,ho,r⟩,_⟩:=id I.loc;obtain⟨sl,hL⟩:=u.any ho I.free λz=>(Lx _ z).2.1 rfl;exact I.step (ch:=ch) Lx (λb o hL hb hc e n=>u.keep b o e n (λz=>(NU.mp (I.lC b z)).elim hL hb) hc) (λb o _ _ hc e n=>u.any e n hc) (λb o hc e n=>u.free b o e n hc) (λb o hc e=>u.there b o e hc) u.lB u.iX u.kY (λm' hm=>by
  obtain⟨o',es',ep',Lz,r'⟩:=hm;rw[ho] at Lz;cases Lz;exact⟨_,es',ep',hL,r'⟩) bg hg
theorem Inv.turned(I:Inv X J2 σ H s)(k:∀ b o,b≠it->s.heap.get? b=some o->h'.get? b=some o)(hn:H it=none)(hL:it≠X.env.locals)
  (h1:it∈X.ex\/X.s₀.heap.objs.size<=it) (h2:∀ x c,X.env.cells.lookup x=some c->c≠it) (h3:∀ p∈X.pn++J2,p.1≠it):Inv X J2 σ H { s with heap:=h',toks:=t' }:=by
 have nit:∀ b u,H b=some u->b≠it:=λb u e z=>by rw[z,hn] at e;cases e
 refine I.step (g':=s.gens) (d':=s.drawn) (ch:=[it]) (λb hb=>?_) (λb o _ _ hc e _=>k b o (λz=>hc (by simp[z])) e) (λb o _ _ hc e _=>⟨o.slots,k b o (λz=>hc (by simp[z])) e⟩) (λ_ _ _ _ n=>n)
  (λb o hc e=>⟨o,k b o (λz=>hc (by simp[z])) e⟩) (λ_ _ e=>e) (λ_ _ _ e=>e) (λb ps e=>⟨#[],by rw[e];simp⟩) (λm hm=>?_) (λb u e=>?_) I.bare
 .have e:b=it:=by simpa using hb
  subst e;exact⟨h1,hL,h2,h3⟩
 .obtain⟨o,es,ep,ho,r⟩:=hm;exact⟨o,es,ep,k _ o (O4 hL) ho,r⟩
 .refine(I.bg b u e).jU (λc v hc q=>k c v ?_ q) (λ_ q=>q) λ_ _ q=>q;rcases hc with z | z
  .rw[z];exact nit b u e
  .exact nit c _ z
theorem Inv.tok(I:Inv X J2 σ H s)(t:Nat):Inv X J2 σ H { s with toks:=t }:=I.un (h':=s.heap) (t':=t) Un.refl I.bg
theorem Inv.kept{t':Nat}(I:Inv X J2 σ H s)(k:∀ b u,s.heap.get? b=some u->h'.get? b=some u):Inv X J2 σ H { s with heap:=h',toks:=t' }:=I.un (Un.kept k) (I.bg.kept k)
theorem Inv.laid{a:Addr}{o:HO}{t':Nat}(I:Inv X J2 σ H s)(k:∀ b u,s.heap.get? b=some u->h'.get? b=some u)(hp:s.heap.objs.size<=a)(new:bF X.prog X.w (upd H a o) h' a o) :
  Inv X J2 σ (upd H a o) { s with heap:=h',toks:=t' }:=I.un (Un.laid k hp (I.bg.fresh hp)) (I.bg.laid k hp new)
theorem Inv.write{x e:Addr}{o:HO}{t':Nat}(I:Inv X J2 σ H s)(mu:He (H x))(he:e=x\/H e=some (.own x))(k:∀ b u,b≠e->s.heap.get? b=some u->h'.get? b=some u)(MV:∃ u,h'.get? e=some u)
  (new:bF X.prog X.w (upd H x o) h' x o):Inv X J2 σ (upd H x o) { s with heap:=h',toks:=t' }:=I.un (Un.write mu he k MV) (I.bg.write mu he k MV new)
theorem Inv.vC{LB:List (Addr×Obj)}(I:Inv X J2 σ H s)(h:∀ p∈LB,s.heap.get? p.1=some p.2/\H p.1=none/\p.1≠X.env.locals/\p.1 ∉ X.fs/\∀ v,p.2.data≠.cell v):Inv X LB σ H s :=
 ⟨I.ok,I.os,I.bare,I.base,I.loc,I.cell,I.free,I.fm,λp hp=>(OZ.mp hp).elim (λz=>I.pin p (OI _ z)) (h p),I.bg,I.len⟩
theorem nh(hN:N.Nodup){j:Nat}(a:N[i]?=some x)(b:N[j]?=some x):i=j:=by
 obtain⟨h1,e1⟩:=ON.mp a;obtain⟨h2,e2⟩:=ON.mp b;exact(List.getElem_inj hN).mp (e1.trans e2.symm)
theorem lD{M:Model}{Q:Unit->Shared->Prop}(I:Inv X J2 σ H s)(hN:X.N.Nodup)(hi:X.N[i]?=some x)(hx:Loc X.env.scope x)(r:RelV v u)
  (h:∀ s',Inv X J2 (σ.set i (some v)) H s'->(∃ a,Px a s.heap s'.heap/\(a=X.env.locals\/X.env.cells.lookup x=some a))->Q () s') (hf:autoParam (X.fn x=true\/X.env.scope.names.lookup x=some .local) aF._auto_1):wpAny M A (storeName X.env x u) Q E s:=by
 obtain⟨m,hn,hl⟩:=id I.loc;have hcls:(X.env.scope.kind==.class||(X.env.scope.kind==.module&&X.env.locals != X.env.globals))=false:=by rw[I.ok.kind];rfl
 have hiσ:i<σ.length:=by rw[I.len];exact(ON.mp hi).1
 have zp:=I.zp;have tracked:∀ {a:Addr} {h':Heap},(∃ o,s.heap.get? a=some o/\H a=none)->Px a s.heap h'->kI X.prog X.w H h':=λ{a h'} ha hs b ob e=>by
  obtain⟨_,_,Ly⟩:=ha;refine(I.bg b ob e).jU (λc w' hc q=>(hs.2 c ?_).trans q) (λ_ q=>q) λ_ _ q=>q;rintro rfl;rcases hc with rfl | hc
  .rw[Ly] at e;cases e
  .rw[Ly] at hc;cases hc
 rcases hx with hk | hk
 .refine wpAny_storeName_local hk hn (λh' Nm hs=>?_) hcls;obtain⟨oL,_,_,hoL,_⟩:=id hn;refine h _ ⟨I.ok,I.os,I.bare,⟨λb o e n hb hx=>?_,λb o e n hb hx=>?_,I.base.free,λb o e hx=>?_,I.base.lB,I.base.iX,I.base.kY⟩,⟨_,Nm,λj y v' e1 e2 e3=>?_⟩,λy c e=>?_,I.free,I.fm,λp hp=>?_,tracked ⟨oL,hoL,I.free⟩ hs,by simpa using I.len⟩ ⟨_,hs,.inl rfl⟩
  .exact(hs.2 b (NR (NP (NN e) I.ok.above))).trans (I.base.keep b o e n hb hx)
  .obtain⟨sl,e1⟩:=I.base.slot b o e n hb hx;exact⟨sl,(hs.2 b (NR (NP (NN e) I.ok.above))).trans e1⟩
  .obtain⟨o',e1⟩:=I.base.there b o e hx;exact⟨o',(hs.2 b (NR (NP (NN e) I.ok.above))).trans e1⟩
  .by_cases hj:j=i
   .subst hj;rw[hi] at e1;cases e1;rw[RA hiσ] at e2;cases e2;exact⟨u,r,.inl ⟨hk,by simp⟩⟩
   .rw[QI (O4 hj)] at e2;obtain⟨u',r',q⟩:=hl j y v' e1 e2 e3;refine⟨u',r',?_⟩;rcases q with ⟨k,e⟩ | ⟨k,c,e,z⟩
    .refine .inl ⟨k,?_⟩;have:y≠x:=λe=>hj (nh hN e1 (e▸hi));simp[this,e]
    .exact .inr ⟨k,c,e,z.sameBut hs (zp y c e)⟩
  .obtain⟨w',z⟩:=I.cell y c e;exact⟨w',z.sameBut hs (zp y c e)⟩
  .obtain⟨e,n,ne,nf,d⟩:=I.pin p hp;exact⟨(hs.2 p.1 ne).trans e,n,ne,nf,d⟩
 .have hfn:X.fn x=true:=by
   rcases hf with z | z
   .exact z
   .rw[z] at hk;cases hk
  obtain⟨c,hc⟩:=I.ok.has x (.inl hk);obtain⟨w',z⟩:=I.cell x c hc;refine wpAny_storeName_cell I.ok.kind hk hc z (λh' LY hs=>?_);obtain⟨oc,hoc,hocd⟩:=id z;refine h { s with heap:=h' } ⟨I.ok,I.os,I.bare,⟨λb o e n hb hx=>?_,λb o e n hb hx=>?_,I.base.free,λb o e hx=>?_,I.base.lB,I.base.iX,I.base.kY⟩,⟨m,hn.sameBut hs (O4 (zp x c hc)),λj y v' e1 e2 e3=>?_⟩,λy c' e=>?_,I.free,I.fm,λp hp=>?_,tracked ⟨oc,hoc,I.fm x c hc⟩ hs,by simpa using I.len⟩ ⟨c,hs,.inr hc⟩
  .exact(hs.2 b (NR (NP (NN e) (I.ok.CB x c hfn hc)))).trans (I.base.keep b o e n hb hx)
  .obtain⟨sl,e1⟩:=I.base.slot b o e n hb hx;exact⟨sl,(hs.2 b (NR (NP (NN e) (I.ok.CB x c hfn hc)))).trans e1⟩
  .obtain⟨o',e1⟩:=I.base.there b o e hx;exact⟨o',(hs.2 b (NR (NP (NN e) (I.ok.CB x c hfn hc)))).trans e1⟩
  .by_cases hj:j=i
   .subst hj;rw[hi] at e1;cases e1;rw[RA hiσ] at e2;cases e2;exact⟨u,r,.inr ⟨.inl hk,c,hc,LY⟩⟩
   .rw[QI (O4 hj)] at e2;obtain⟨u',r',q⟩:=hl j y v' e1 e2 e3;refine⟨u',r',?_⟩;rcases q with q | ⟨k,c',e,z'⟩
    .exact .inl q
    .refine .inr ⟨k,c',e,z'.sameBut hs ?_⟩;rintro rfl;exact hj (nh hN e1 (I.ok.inj _ _ _ e hc▸hi))
  .by_cases hcc:c'=c
   .subst hcc;exact⟨_,LY⟩
   .obtain⟨w2,z2⟩:=I.cell y c' e;exact⟨w2,z2.sameBut hs hcc⟩
  .obtain⟨e,n,ne,nf,d⟩:=I.pin p hp;refine⟨(hs.2 p.1 ?_).trans e,n,ne,nf,d⟩;intro q;rw[q,hoc] at e;have q':oc=p.2:=NX e;exact d w' (by rw[<- q'];exact hocd)
theorem mT{M:Model}{Q:Unit->Shared->Prop}(I:Inv X J2 σ H s)(hN:X.N.Nodup)(hi:X.N[i]?=some x)(hx:Loc X.env.scope x)(r:RelV v u)
  (h:∀ s',Inv X J2 (σ.set i (some v)) H s'->Q () s') (hf:autoParam (X.fn x=true\/X.env.scope.names.lookup x=some .local) aF._auto_1):wpAny M A (storeName X.env x u) Q E s :=
 lD I hN hi hx r (λs' I' _=>h s' I') hf
theorem Inv.o8{s':Shared}(I:Inv X J2 σ H s)(ho:s'.os=s.os)(u:Un (qW X.stack) ch H H' s.heap s'.heap)(bg:kI X.prog X.w H' s'.heap)(hg:AllBare s'.gens)
  (Lx:∀ b∈ch,(b∈X.ex\/X.s₀.heap.objs.size<=b)/\b≠X.env.locals/\(∀ x c,X.env.cells.lookup x=some c->c≠b)/\∀ p∈X.pn++J2,p.1≠b):Inv X J2 σ H' s':=by
 obtain⟨h',g',d',t',o'⟩:=s';have e:o'=s.os:=ho;subst e;exact I.call (g':=g') (t':=t') (d':=d') u bg hg Lx
end
abbrev XK:=Value->Option Addr->Hp->Prop
abbrev St:=List (Option V)
abbrev VK:=V->Hp->Prop
abbrev TE:=St->Hp->VK->Prop
abbrev TT:=St->Hp->(Bool->Hp->Prop)->Prop
abbrev TA:=St->Hp->(List V->Hp->Prop)->Prop
structure Ends where
 nx:St->Hp->Prop
 rt:VK
 bk:St->Hp->Prop:=λ_ _=>False
 ct:St->Hp->Prop:=λ_ _=>False
abbrev TS:=Ends->St->Hp->Prop
def EP(X:Cx)(J2:List (Addr×Obj))(σ:St)(Q:VK)(u:Value)(s':Shared):Prop:=∃ v H',Inv X J2 σ H' s'/\RelV v u/\Q v H'
def TP(X:Cx)(J2:List (Addr×Obj))(σ:St)(Q:Bool->Hp->Prop)(b:Bool)(s':Shared):Prop:=∃ H',Inv X J2 σ H' s'/\Q b H'
def AP(X:Cx)(J2:List (Addr×Obj))(σ:St)(Q:List V->Hp->Prop)(us:List Value)(s':Shared):Prop:=∃ vs H',Inv X J2 σ H' s'/\Vals vs us/\Q vs H'
def SP(X:Cx)(J2:List (Addr×Obj))(D:Ends)(f:Flow)(s':Shared):Prop :=
 match f with
 | .next=>∃ σ' H',Inv X J2 σ' H' s'/\D.nx σ' H'
 | .brk=>∃ σ' H',Inv X J2 σ' H' s'/\D.bk σ' H'
 | .cont=>∃ σ' H',Inv X J2 σ' H' s'/\D.ct σ' H'
 | .ret u=>∃ v σ' H',Inv X J2 σ' H' s'/\RelV v u/\D.rt v H'
def PE(X:Cx)(e:Expr)(t:TE):Prop :=
 ∀ (J2:List (Addr×Obj)) (s:Shared) (σ:St) (H:Hp) (Q:VK),Inv X J2 σ H s->t σ H Q->wpAny (model X.prog X.w) X.A (eval e X.env) (EP X J2 σ Q) X.xe s
def PT(X:Cx)(e:Expr)(t:TT):Prop :=
 ∀ (J2:List (Addr×Obj)) (s:Shared) (σ:St) (H:Hp) (Q:Bool->Hp->Prop),Inv X J2 σ H s->t σ H Q->wpAny (model X.prog X.w) X.A (isTrue e X.env (eval e X.env)) (TP X J2 σ Q) X.xe s
def PW(X:Cx)(e:Expr)(t:TT):Prop :=
 ∀ (whole:Sem Value) (J2:List (Addr×Obj)) (s:Shared) (σ:St) (H:Hp) (Q:Bool->Hp->Prop),Inv X J2 σ H s->t σ H Q->wpAny (model X.prog X.w) X.A (isTrue e X.env whole) (TP X J2 σ Q) X.xe s
variable{e:Expr}
theorem PW.pt{t:TT}(h:PW X e t):PT X e t:=h _
def PA(X:Cx)(es:List Expr)(t:TA):Prop :=
 ∀ (pos:Pos) (J2:List (Addr×Obj)) (s:Shared) (σ:St) (H:Hp) (Q:List V->Hp->Prop),Inv X J2 σ H s->t σ H Q->wpAny (model X.prog X.w) X.A (spliced (backTo pos (starEach es X.env))) (AP X J2 σ Q) X.xe s
def PS(X:Cx)(st:Stmt)(t:TS):Prop :=
 ∀ (J2:List (Addr×Obj)) (s:Shared) (σ:St) (H:Hp) (D:Ends),Inv X J2 σ H s->t D σ H->wpAny (model X.prog X.w) X.A (exec st X.env) (SP X J2 D) X.xe s
def jy(X:Cx)(st:List Stmt)(t:TS):Prop :=
 ∀ (J2:List (Addr×Obj)) (s:Shared) (σ:St) (H:Hp) (D:Ends),Inv X J2 σ H s->t D σ H->wpAny (model X.prog X.w) X.A (execs st X.env) (SP X J2 D) X.xe s
theorem b_{α:Type}{t:Sem α}{Q Q':α->Shared->Prop}{M:Model}(h:wpAny M A t Q E s)(hQ:∀ a s,Q a s->Q' a s):wpAny M A t Q' E s:=N8 h hQ λ_ _ x=>x
variable{pos:Pos}
variable{Q:Value->Shared->Prop}{σ:St}
variable{ta:TE}
variable{c:Expr}
section
def HE(i:Nat):TE:=fun σ H Q=>∃ v,σ[i]?=some (some v)/\Q v H
def tC(v:V):TE:=λ_ H Q=>Q v H
theorem ll(hN:X.N[i]?=some x)(hv:yW X.env.scope x)(hd:autoParam ((x==("__debug__" : Str))=false) aD._auto_1)(K5:autoParam ((x==("__classdict__" : Str))=false) aD._auto_1):PE X (.Name x pos) (HE i):=by
 intro J2 s σ H Q I h;obtain⟨v,e,h⟩:=h;obtain⟨m,hn,hl⟩:=I.loc;obtain⟨u,r,l⟩:=hl i x v hN e hv;have fin:EP X J2 σ Q u s:=⟨v,H,I,r,h⟩
 rcases l with ⟨hk,hm⟩ | ⟨hk,c,hc,Lw⟩
 .exact Tg (wpAny_loadName_local I.ok.kind hk hn hm fin) hd
 .rcases hk with hk | hk
  .exact Tg (wpAny_loadName_cell I.ok.kind hk hc Lw fin) hd
  .exact Tg (wpAny_loadName_free I.ok.kind hk hc Lw fin K5) hd
theorem DL{i j pos}:PE X (.Constant (.int i) j pos) (tC (.int i)):=λ_ _ _ H _ I h=>wpAny_Constant_int ⟨.int i,H,I.tok _,⟨_,rfl⟩,h⟩
theorem GS{b j pos}:PE X (.Constant (.bool b) j pos) (tC (.bl b)):=λ_ _ _ H _ I h=>Constant_bool ⟨.bl b,H,I,rfl,h⟩
theorem Fb{j pos}:PE X (.Constant .none j pos) (tC .bH):=λ_ _ _ H _ I h=>Constant_none ⟨.bH,H,I,rfl,h⟩
theorem D0{x j pos}:PE X (.Constant (.str x) j pos) (tC (.str x)):=λ_ _ _ H _ I h=>Calls.Constant_str ⟨.str x,H,I.tok _,⟨_,rfl⟩,h⟩
def Gl(X:Cx)(x:Str):Prop:=X.env.kindOf x=some .globalImplicit
theorem hW(I:Inv X J2 σ H s)(hg:Gl X x)(hm:X.mg x=some u)(h:Q u s)
  (hd:autoParam ((x==("__debug__" : Str))=false) aD._auto_1):wpAny (model X.prog X.w) X.A (eval (.Name x pos) X.env) Q E s :=
 Q3 I.ok.kind hg (Calls.loadGlobal_global (by rw[I.ok.glob];exact I.mod.glob.keeps I.bk) hm h) hd
theorem kR(I:Inv X J2 σ H s)(hg:Gl X x)(hm:X.mg x=none)(hv:bootBuiltins x=some u)(h:Q u s)
  (hn:autoParam (x ≠ "__name__") aD._auto_1) (hd:autoParam ((x==("__debug__" : Str))=false) aD._auto_1):wpAny (model X.prog X.w) X.A (eval (.Name x pos) X.env) Q E s:=by
 obtain⟨mb,h1,h2⟩:=I.mod.blt;exact Q3 I.ok.kind hg (Calls.loadGlobal_builtin (by rw[I.ok.glob];exact I.mod.glob.keeps I.bk) hm (by rw[I.ok.blt];exact h1.keeps I.bk) ((h2 x hn).trans hv) h) hd
theorem vE(hg:Gl X x)(hm:X.mg x=some u)(r:RelV v u)(hd:autoParam ((x==("__debug__" : Str))=false) aD._auto_1):PE X (.Name x pos) (tC v) :=
 λ_ _ _ H _ I h=>hW I hg hm ⟨v,H,I,r,h⟩ hd
theorem cf(hg:Gl X x)(hm:X.mg x=none)(hv:bootBuiltins x=some u)(r:RelV v u)(hn:autoParam (x ≠ "__name__") aD._auto_1)(hd:autoParam ((x==("__debug__" : Str))=false) aD._auto_1):PE X (.Name x pos) (tC v) :=
 λ_ _ _ H _ I h=>kR I hg hm hv ⟨v,H,I,r,h⟩ hn hd
variable{a b:Expr}{tb:TE}
def tB(t:TE):TT:=fun σ H Q=>t σ H λx H1=>∃ c,x=.bl c/\Q c H1
theorem C3{t:TE}(h:PE X e t)(he:autoParam (∀ whole,isTrue e X.env whole=(do let v <- whole;standAt e.pos;holding [v] (truthy v))) aI._auto_1):PT X e (tB t):=by
 intro J2 s σ H Q I hw;refine isTrue_plain (b_ (h J2 s σ H _ I hw) λv s1 ⟨x,H1,I1,r1,q1⟩=>?_) (he _);obtain⟨d,rfl,q⟩:=q1;cases r1;exact OP ⟨H1,I1,q⟩
variable{tA tB':TT}{rest:List Expr}
def Hl(t u:TT):TT:=fun σ H Q=>t σ H λc H1=>if c=true then u σ H1 Q else Q false H1
def JR(t u:TT):TT:=fun σ H Q=>t σ H λc H1=>if c=true then Q true H1 else u σ H1 Q
def H_(t:TT):TT:=fun σ H Q=>t σ H λc H1=>Q (!c) H1
theorem pw_and1(ha:PT X a tA):PW X (.BoolOp .And [a] pos) tA:=by
 intro wh J2 s σ H Q I h;refine isTrue_and (b_ (ha J2 s σ H Q I h) λc s1 e=>?_);cases c with
 | true=>exact isTrue_and_nil e
 | false=>exact e
theorem pw_or1(ha:PT X a tA):PW X (.BoolOp .Or [a] pos) tA:=by
 intro wh J2 s σ H Q I h;refine isTrue_or (b_ (ha J2 s σ H Q I h) λc s1 e=>?_);cases c with
 | false=>exact isTrue_or_nil e
 | true=>exact e
theorem pw_and(ha:PT X a tA)(hb:PW X (.BoolOp .And (b::rest) pos) tB'):PW X (.BoolOp .And (a::b::rest) pos) (Hl tA tB'):=by
 intro wh J2 s σ H Q I h;refine isTrue_and (b_ (ha J2 s σ H _ I h) λc s1 ⟨H1,I1,q1⟩=>?_);cases c with
 | true=>exact hb wh J2 s1 σ H1 Q I1 q1
 | false=>exact⟨H1,I1,q1⟩
theorem pw_or(ha:PT X a tA)(hb:PW X (.BoolOp .Or (b::rest) pos) tB'):PW X (.BoolOp .Or (a::b::rest) pos) (JR tA tB'):=by
 intro wh J2 s σ H Q I h;refine isTrue_or (b_ (ha J2 s σ H _ I h) λc s1 ⟨H1,I1,q1⟩=>?_);cases c with
 | true=>exact⟨H1,I1,q1⟩
 | false=>exact hb wh J2 s1 σ H1 Q I1 q1
theorem C4(ha:PT X a tA):PT X (.UnaryOp .Not a pos) (H_ tA):=by
 intro J2 s σ H Q I h;exact isTrue_not (ha J2 s σ H (λc H1=>Q (!c) H1) I h)
def Gr(ta tb:TE):TE:=fun σ H Q=>ta σ H λx H1=>∃ c,x=.bl c/\if c=true then tb σ H1 Q else Q (.bl false) H1
def Im(ta tb:TE):TE:=fun σ H Q=>ta σ H λx H1=>∃ c,x=.bl c/\if c=true then Q (.bl true) H1 else tb σ H1 Q
def Gj(ta:TE):TE:=fun σ H Q=>ta σ H λx H1=>∃ c,x=.bl c/\Q (.bl (!c)) H1
theorem jN{op}{t:TE}(h:PE X a t):PE X (.BoolOp op [a] pos) t:=λJ2 s σ H Q I hw=>BoolOp_one (h J2 s σ H Q I hw)
theorem DE(ha:PE X a ta)(hb:PE X (.BoolOp .And (b::rest) pos) tb):PE X (.BoolOp .And (a::b::rest) pos) (Gr ta tb):=by
 intro J2 s σ H Q I h;refine BoolOp_and (b_ (ha J2 s σ H _ I h) λv s1 ⟨x,H1,I1,r1,q1⟩=>?_);obtain⟨c,rfl,q1⟩:=q1;cases r1;refine OP ?_;cases c with
 | true=>exact hb J2 s1 σ H1 Q I1 q1
 | false=>exact⟨.bl false,H1,I1,rfl,q1⟩
theorem GK(ha:PE X a ta)(hb:PE X (.BoolOp .Or (b::rest) pos) tb):PE X (.BoolOp .Or (a::b::rest) pos) (Im ta tb):=by
 intro J2 s σ H Q I h;refine BoolOp_or (b_ (ha J2 s σ H _ I h) λv s1 ⟨x,H1,I1,r1,q1⟩=>?_);obtain⟨c,rfl,q1⟩:=q1;cases r1;refine OP ?_;cases c with
 | false=>exact hb J2 s1 σ H1 Q I1 q1
 | true=>exact⟨.bl true,H1,I1,rfl,q1⟩
theorem Df(ha:PE X a ta):PE X (.UnaryOp .Not a pos) (Gj ta):=by
 intro J2 s σ H Q I h;refine UnaryOp_ (b_ (ha J2 s σ H _ I h) λv s1 ⟨x,H1,I1,r1,q1⟩=>?_);obtain⟨c,rfl,q1⟩:=q1;cases r1;exact not_of (OP ⟨.bl (!c),H1,I1,rfl,q1⟩)
def JG(t:TT)(ta tb:TE):TE:=fun σ H Q=>t σ H λc H1=>if c=true then ta σ H1 Q else tb σ H1 Q
theorem zg(hc:PT X c tA)(ha:PE X a ta)(hb:PE X b tb):PE X (.IfExp c a b pos) (JG tA ta tb):=by
 intro J2 s σ H Q I h;refine wpAny_IfExp (b_ (hc J2 s σ H _ I h) λd s1 ⟨H1,I1,q1⟩=>?_);cases d with
 | true=>exact ha J2 s1 σ H1 Q I1 q1
 | false=>exact hb J2 s1 σ H1 Q I1 q1
end
def gK(K:PySem.W.Frag)(H:Hp)(a:Addr)(xs:List V):Prop :=
 Rd H a (.lst xs) ∨
  ∃ (o:Obj) (J6:Array Value) (n:Nat),K.lookup a=some o/\o.cls=.type "list" /\ o.dict=none/\o.data=.seq J6 n/\J6.size<=sizeLine/\Vals xs J6.toList
def gx(K:PySem.W.Frag)(H:Hp)(a:Addr)(xs:List V):Prop :=
 Rd H a (.tup xs) ∨
  ∃ (o:Obj) (J6:Array Value) (n:Nat),K.lookup a=some o/\o.cls=.type "tuple" /\ o.data=.seq J6 n/\J6.size<=sizeLine/\Vals xs J6.toList
def HL:Value->Option V
 | .none=>some .bH
 | .bool b=>some (.bl b)
 | .int i _=>some (.int i)
 | .str x _=>some (.str x)
 | .bytes b _=>some (.byt b)
 | .float b _=>some (.CI b)
 | .ref a=>some (.ref a)
 | .type n=>some (.ty n)
 | _=>none
theorem RelV.abs{x:V}(r:RelV x u):HL u=some x:=by
 cases x with
 | bH=>cases r;rfl
 | bl _=>cases r;rfl
 | int _=>obtain⟨t,rfl⟩:=r;rfl
 | str _=>obtain⟨t,rfl⟩:=r;rfl
 | byt _=>obtain⟨t,rfl⟩:=r;rfl
 | CI _=>obtain⟨t,rfl⟩:=r;rfl
 | ref _=>cases r;rfl
 | ty _=>cases r;rfl
theorem RelV.inj{x y:V}{u:Value}(r:RelV x u)(q:RelV y u):x=y:=NX (r.abs.symm.trans q.abs)
theorem Vals.inj:∀ {xs ys:List V} {us:List Value},Vals xs us->Vals ys us->xs=ys
 | _,_,_,.nil,.nil=>rfl
 | _,_,_,.cons r t,.cons r' t'=>by rw[r.inj r',Vals.inj t t']
section
variable{xs ys:List V}
theorem gK.of{K:PySem.W.Frag}(h:H a=some (.lst xs)):gK K H a xs:=.inl (.inl h)
theorem gx.of{K:PySem.W.Frag}(h:H a=some (.tup xs)):gx K H a xs:=.inl (.inl h)
theorem Inv.list(I:Inv X J2 σ H s)(h:gK X.K H a xs):∃ J6:List Value,Vals xs J6/\PlainL s.heap a J6.toArray/\xs.length<=sizeLine:=by
 rcases h with h | ⟨o,J6,n,hk,hc,hd,hs,hz,r⟩
 .obtain⟨z,J6,n,r,e⟩:=h.ok I.bg;exact⟨J6,r,⟨_,n,e,rfl,rfl,rfl⟩,z⟩
 .refine⟨J6.toList,r,⟨o,n,I.iH a o hk,hc,hd,by simpa using hs⟩,?_⟩;have e:=r.length;simp only[Qa] at e;lia
theorem Inv.tuple(I:Inv X J2 σ H s)(h:gx X.K H a xs):∃ J6:List Value,Vals xs J6/\IsTup s.heap a J6.toArray/\xs.length<=sizeLine:=by
 rcases h with h | ⟨o,J6,n,hk,hc,hs,hz,r⟩
 .obtain⟨z,J6,r,p⟩:=h.ok I.bg;exact⟨J6,r,p,z⟩
 .refine⟨J6.toList,r,⟨o,I.iH a o hk,hc,n,by simpa using hs⟩,?_⟩;have e:=r.length;simp only[Qa] at e;lia
theorem Inv.nM(I:Inv X J2 σ H s)(h:gK X.K H a xs)(h':gK X.K H a ys):xs=ys:=by
 obtain⟨J6,r,⟨o,n,e,_,_,d⟩,_⟩:=I.list h;obtain⟨its',r',⟨o',n',e',_,_,d'⟩,_⟩:=I.list h';rw[e] at e';cases e';rw[d] at d';injection d' with d1 _
 have:J6=its':=by simpa using congrArg TL d1
 subst this;exact r.inj r'
theorem Inv.kL(I:Inv X J2 σ H s)(h:gx X.K H a xs)(h':gx X.K H a ys):xs=ys:=by
 obtain⟨J6,r,⟨o,e,_,n,d⟩,_⟩:=I.tuple h;obtain⟨its',r',⟨o',e',_,n',d'⟩,_⟩:=I.tuple h';rw[e] at e';cases e';rw[d] at d';injection d' with d1 _
 have:J6=its':=by simpa using congrArg TL d1
 subst this;exact r.inj r'
end
abbrev Cx.kK(X:Cx)(E:Value->Shared->Prop):Cx:={ X with xe:=E }
theorem Cx.Ok.kK{X:Cx}(ok:X.Ok)(E:Value->Shared->Prop):(X.kK E).Ok :=
 ⟨ok.mod,ok.kind,ok.glob,ok.blt,ok.above,ok.inj,ok.has,ok.CB,ok.hd,ok.frames,ok.Fm,ok.E3,ok.bs,ok.xD,ok.oM,ok.qI,ok.jW,ok.Ar⟩
theorem Cx.Ok.cL(ok:(X.kK E).Ok):X.Ok :=
 ⟨ok.mod,ok.kind,ok.glob,ok.blt,ok.above,ok.inj,ok.has,ok.CB,ok.hd,ok.frames,ok.Fm,ok.E3,ok.bs,ok.xD,ok.oM,ok.qI,ok.jW,ok.Ar⟩
theorem Inv.kK(I:Inv X J2 σ H s)(E:Value->Shared->Prop):Inv (X.kK E) J2 σ H s:=⟨I.ok.kK E,I.os,I.bare,I.base,I.loc,I.cell,I.free,I.fm,I.pin,I.bg,I.len⟩
theorem Inv.cL(I:Inv (X.kK E) J2 σ H s):Inv X J2 σ H s:=⟨I.ok.cL,I.os,I.bare,I.base,I.loc,I.cell,I.free,I.fm,I.pin,I.bg,I.len⟩
theorem SP.cL{D:Ends}{f:Flow}{s':Shared}(h:SP (X.kK E) J2 D f s'):SP X J2 D f s':=by
 cases f with
 | next=>obtain⟨σ',H',I,q⟩:=h;exact⟨σ',H',I.cL,q⟩
 | brk=>obtain⟨σ',H',I,q⟩:=h;exact⟨σ',H',I.cL,q⟩
 | cont=>obtain⟨σ',H',I,q⟩:=h;exact⟨σ',H',I.cL,q⟩
 | ret u=>obtain⟨v,σ',H',I,r,q⟩:=h;exact⟨v,σ',H',I.cL,r,q⟩
variable{te:TE}
variable{tc:TT}
section
variable{st:Stmt}{rest:List Stmt}{t u:TS}
def FP:TS:=λD σ H=>D.nx σ H
def Hw(t u:TS):TS:=λD σ H=>t { D with nx:=u D } σ H
theorem vq:jy X [] FP:=λ_ _ σ H _ I h=>Qk ⟨σ,H,I,h⟩
theorem rM(h1:PS X st t)(h2:jy X rest u):jy X (st::rest) (Hw t u):=by
 intro J2 s σ H D I h;refine wpAny_execs_cons (b_ (h1 J2 s σ H { D with nx:=u D } I h) λf s1 q=>?_);cases f with
 | next =>
  obtain⟨σ',H',I',q⟩:=q;exact h2 J2 s1 σ' H' D I' q
 | ret v=>exact q
 | brk=>exact q
 | cont=>exact q
theorem BB(h1:PS X st t):jy X [st] t:=by
 intro J2 s σ H D I h;refine wpAny_execs_cons (b_ (h1 J2 s σ H D I h) λf s1 q=>?_);cases f with
 | next=>exact Qk q
 | ret v=>exact q
 | brk=>exact q
 | cont=>exact q
theorem Inv.quiet(I:Inv X J2 σ H s):interactive X.env=false:=by simp[interactive,I.ok.kind]
def FN(te:TE):TS:=λD σ H=>te σ H λ_ H1=>D.nx σ H1
theorem vM(he:PE X e te)(hs:autoParam (swapsWith e none pos.line X.env=pure false) aR._auto_1):PS X (.Expr e pos) (FN te):=by
 intro J2 s σ H D I h;exact wpAny_Expr_any (b_ (he J2 s σ H _ I h) λv s1 ⟨x,H1,I1,r1,q1⟩=>⟨σ,H1,I1,q1⟩) I.quiet hs
def Je(te:TE):TS:=λD σ H=>te σ H D.rt
theorem DJ(he:PE X e te):PS X (.Return (some e) pos) (Je te):=by
 intro J2 s σ H D I h;exact wpAny_Return_some (b_ (he J2 s σ H _ I h) λv s1 ⟨x,H1,I1,r1,q1⟩=>⟨x,σ,H1,I1,r1,q1⟩)
def IW(c:TT)(t u:TS):TS:=λD σ H=>c σ H λb H1=>if b=true then t D σ H1 else u D σ H1
theorem GO{a b:List Stmt}(hc:PT X c tc)(ha:jy X a t)(hb:jy X b u):PS X (.If c a b pos) (IW tc t u):=by
 intro J2 s σ H D I h;refine wpAny_If (b_ (hc J2 s σ H _ I h) λd s1 ⟨H1,I1,q1⟩=>?_);cases d with
 | true=>exact ha J2 s1 σ H1 D I1 q1
 | false=>exact hb J2 s1 σ H1 D I1 q1
end
abbrev TG:=V->St->Hp->(St->Hp->Prop)->Prop
abbrev Ec:=List V->St->Hp->(St->Hp->Prop)->Prop
def PG(X:Cx)(target:Expr)(t:TG):Prop :=
 ∀ (J2:List (Addr×Obj)) (s:Shared) (σ:St) (H:Hp) (v:V) (u:Value) (Q:St->Hp->Prop),Inv X J2 σ H s->RelV v u->t v σ H Q ->
  wpAny (model X.prog X.w) X.A (assign target X.env u) (λ_ s'=>∃ σ' H',Inv X J2 σ' H' s'/\Q σ' H') X.xe s
def G5(X:Cx)(ts:List Expr)(t:Ec):Prop :=
 ∀ (J2:List (Addr×Obj)) (s:Shared) (σ:St) (H:Hp) (vs:List V) (us:List Value) (Q:St->Hp->Prop),Inv X J2 σ H s->Vals vs us->t vs σ H Q ->
  wpAny (model X.prog X.w) X.A (assignInOrder ((assignEach ts X.env).map (·.2)) us) (λ_ s'=>∃ σ' H',Inv X J2 σ' H' s'/\Q σ' H') X.xe s
abbrev E5:=V->V->V->Hp->(Hp->Prop)->Prop
def Gw(X:Cx)(t:E5):Prop :=
 ∀ (J2:List (Addr×Obj)) (s:Shared) (σ:St) (H:Hp) (o i v:V) (ov iv u:Value) (Q:Hp->Prop),Inv X J2 σ H s->RelV o ov->RelV i iv->RelV v u->t o i v H Q ->
  wpAny (model X.prog X.w) X.A (setItem ov iv u) (λ_ s'=>∃ H',Inv X J2 σ H' s'/\Q H') X.xe s
variable{es:List Expr}
variable{n k:Nat}
variable{tg:Expr}
def aM(i:Nat):TG:=λv σ H Q=>Q (σ.set i (some v)) H
theorem AO(hN:X.N.Nodup)(hi:X.N[i]?=some x)(hx:Loc X.env.scope x)(hf:autoParam (X.fn x=true\/X.env.scope.names.lookup x=some .local) aF._auto_1):PG X (.Name x pos) (aM i):=by
 intro J2 s σ H v u Q I r h;exact Ri (mT I hN hi hx r (λs' I'=>⟨_,H,I',h⟩) hf)
def nr:Ec:=λvs σ H Q=>vs=[]/\Q σ H
def cV(t:TG)(u:Ec):Ec:=λvs σ H Q=>∃ v r,vs=v::r/\t v σ H fun σ' H'=>u r σ' H' Q
theorem gL:G5 X [] nr:=by
 intro J2 s σ H vs us Q I r h;obtain⟨e,h⟩:=h;subst e;cases r;exact assignInOrder_nil ⟨σ,H,I,h⟩
theorem bC{t:TG}{u:Ec}(h1:PG X e t)(h2:G5 X es u)
  (hs:autoParam ((assignEach (e::es) X.env).map (·.2)=assign e X.env::(assignEach es X.env).map (·.2)) aR._auto_1):G5 X (e::es) (cV t u):=by
 intro J2 s σ H vs us Q I r h;obtain⟨v,vr,e1,h⟩:=h;subst e1;cases r with
 | cons r rr =>
  rw[hs];refine assignInOrder_cons (b_ (h1 J2 s σ H _ _ _ I r h) λ_ s1 ⟨σ1,H1,I1,q1⟩=>?_);exact h2 J2 s1 σ1 H1 _ _ Q I1 rr q1
def nR(K:PySem.W.Frag)(n:Nat)(t:Ec):TG:=λv σ H Q=>∃ a xs,v=.ref a/\gx K H a xs/\xs.length=n/\t xs σ H Q
theorem iN{t:Ec}(hc:X.calm=true)(h:G5 X es t)
  (hn:autoParam ((assignEach es X.env).length=n) aR._auto_1) (Ke:autoParam ((assignEach es X.env).findIdx? (·.1)=none) aR._auto_1):PG X (.Tuple es k pos) (nR X.K n t):=by
 intro J2 s σ H v u Q I r hw;obtain⟨a,xs,e1,hq,hl,hw⟩:=hw;subst e1;cases r;obtain⟨J6,rv,ht,hz⟩:=I.tuple hq;refine assign_Tuple_tuple (I.ok.hd hc) ht (by simp[hn,<- hl,rv.length]) Ke λh' hx=>?_;have I1:Inv X J2 σ H { s with heap:=h' }:=I.kept (t':=s.toks) λb o e=>hx b o (NR (NN e)) e;exact h J2 _ σ H xs _ Q I1 (by simpa using rv) hw
def HY(to ti:TE)(t:E5):TG:=λv σ H Q=>to σ H λo H1=>ti σ H1 λi H2=>t o i v H2 λH3=>Q σ H3
theorem Fj{o i:Expr}{to ti:TE}{t:E5}(ho:PE X o to)(hi:PE X i ti)(hs:Gw X t)
  (ha:autoParam (∀ v,assign (.Subscript o i pos) X.env v=(do
   let ov <- holding [v] (eval o X.env)
   let iv <- holding [v,ov] (eval i X.env)
   standAt pos
   holding [v,ov,iv] (setItem ov iv v)
   release [v,ov,iv] [])) aI._auto_1):PG X (.Subscript o i pos) (HY to ti t):=by
 intro J2 s σ H v u Q I r h;rw[ha];refine NB (Ou (b_ (ho J2 s σ H _ I h) λov s1 ⟨x,H1,I1,r1,q1⟩=>?_));refine NB (Ou (b_ (hi J2 s1 σ H1 _ I1 q1) λiv s2 ⟨y,H2,I2,r2,q2⟩=>?_));refine NB (PB (NB (Ou (b_ (hs J2 s2 σ H2 x y v ov iv u _ I2 r1 r2 r q2) λ_ s3 ⟨H3,I3,q3⟩=>?_))));exact wpAny_release ⟨σ,H3,I3,q3⟩
def Er(te:TE)(g:TG):TS:=λD σ H=>te σ H λx H1=>g x σ H1 D.nx
theorem zx{g:TG}(he:PE X e te)(hg:PG X tg g)(hs:autoParam (swapsWithSole [tg] e pos.line X.env=pure false) aR._auto_1)(hw:autoParam (swappedStores [tg] e X.env=pure none) aR._auto_1)
  (h1:autoParam ((assignEach [tg] X.env).map (·.2)=[assign tg X.env]) aR._auto_1):PS X (.Assign [tg] e pos) (Er te g):=by
 intro J2 s σ H D I h;refine wpAny_Assign_stores (b_ (he J2 s σ H _ I h) λv s1 ⟨x,H1,I1,r1,q1⟩=>?_) hs hw;rw[h1];exact b_ (hg J2 s1 σ H1 x v _ I1 r1 q1) λ_ s2 q=>q
theorem uh{pos':Pos}(hN:X.N.Nodup)(hi:X.N[i]?=some x)(hx:Loc X.env.scope x)(he:PE X e te)(hs:autoParam (swapsWith e (some (.Name x pos')) pos.line X.env=pure false) aR._auto_1)(hf:autoParam (X.fn x=true\/X.env.scope.names.lookup x=some .local) aF._auto_1) :
  PS X (.Assign [.Name x pos'] e pos) (Er te (aM i)):=by
 intro J2 s σ H D I h;refine wpAny_Assign_Name (b_ (he J2 s σ H _ I h) λv s1 ⟨y,H1,I1,r1,q1⟩=>?_) hs;exact mT I1 hN hi hx r1 (λs2 I2=>⟨_,H1,I2,q1⟩) hf
variable{tb:TS}{body:List Stmt}
def D_(c:TT)(tb:TS):TS:=λD σ H=>∃ W:Nat->St->Hp->Prop,(∃ m,W m σ H)/\∀ m σ H,W m σ H ->
 c σ H λb H1=>if b=true then ∃ N:St->Hp->Prop,(∀ σ' H',N σ' H'->∃ m',m'<m/\W m' σ' H')/\tb { D with nx:=N,ct:=N,bk:=D.nx } σ H1 else D.nx σ H1
theorem x8(hp:PassesOwn (model X.prog X.w) X.A X.env X.xe)(hc:PT X c tc)(hb:jy X body tb):PS X (.While c body [] pos) (D_ tc tb):=by
 intro J2 s σ H D I h;obtain⟨W,⟨m0,w0⟩,turn⟩:=h;refine wpAny_While (codeAny_whileLoop (λn s'=>∃ σ' H',Inv X J2 σ' H' s'/\W n σ' H') ?_ m0 ⟨σ,H,I,w0⟩);rintro n s1 ⟨σ1,H1,I1,w1⟩;refine Pu hp (b_ (hc J2 s1 σ1 H1 _ I1 (turn n σ1 H1 w1)) λb s2 ⟨H2,I2,q2⟩=>?_);cases b with
 | true =>
  obtain⟨N,hN,q2⟩:=q2;rw[if_pos rfl];refine Pu hp (b_ (hb J2 s2 σ1 H2 _ I2 q2) λf s3 q3=>?_);cases f with
  | next =>
   obtain⟨σ3,H3,I3,n3⟩:=q3;obtain⟨m',hm,w3⟩:=hN σ3 H3 n3;exact⟨m',hm,σ3,H3,I3,w3⟩
  | cont =>
   obtain⟨σ3,H3,I3,n3⟩:=q3;obtain⟨m',hm,w3⟩:=hN σ3 H3 n3;exact⟨m',hm,σ3,H3,I3,w3⟩
  | brk=>exact q3
  | ret v=>exact q3
 | false =>
  rw[if_neg OC];exact Qk ⟨σ1,H2,I2,q2⟩
structure It where
 go:Nat->Hp->Prop
 rD:Nat->Hp->V->Hp->Prop
 stop:Nat->Hp->Prop
def jk(X:Cx)(J2:List (Addr×Obj))(H:Hp)(b:Addr):Prop :=
 H b=none/\b≠X.env.locals/\b ∉ X.fs/\(b∈X.ex\/X.s₀.heap.objs.size<=b)/\(∀ x c,X.env.cells.lookup x=some c->c≠b)/\∀ p∈X.pn++J2,p.1≠b
theorem Inv.om(I:Inv X J2 σ H s)(hb:s.heap.objs.size<=b)(hn:H' b=none):jk X J2 H' b:=by
 refine⟨hn,Py (NP I.lt hb),I.IV hb,.inr (N3 I.sz hb),λx c e z=>?_,λp hp z=>?_⟩
 .obtain⟨v,q⟩:=I.cell x c e;exact absurd (NP q.lt (by rw[z];exact hb)) (O_ _)
 .exact absurd (NP (NN (I.pin p hp).1) (by rw[z];exact hb)) (O_ _)
structure Turn (P:Program) (w:World) (K:PySem.W.Frag) (tg:Expr) (J:It) (fp:List Addr) (it:Addr) (tn:Nat->Heap->Prop):Prop where
 mem:it∈fp
 obj:∀ i h,tn i h->∀ b∈fp,∃ o,h.get? b=some o/\∀ v,o.data≠.cell v
 keep:∀ i h h',tn i h->(∀ b∈fp,∀ o,h.get? b=some o->h'.get? b=some o)->tn i h'
 item:∀ (X:Cx),X.prog=P->X.w=w->X.K=K->X.calm=true->∀ (i:Nat) (J2:List (Addr×Obj)) (s:Shared) (σ:St) (H:Hp) (E:Value->Shared->Prop),Inv X J2 σ H s->(∀ b∈fp,jk X J2 H b)->tn i s.heap->J.go i H ->
  wpAny (model P w) X.A (pyNext (.ref it)) (λr s1=>∃ u,r=some u ∧
   wpAny (model P w) X.A (letOwnedTupleGo tg (.ref it) u) (λ_ s2=>∃ x H',Inv X J2 σ H' s2/\RelV x u/\J.rD i H x H'/\tn (i+1) s2.heap/\∀ b∈fp,H' b=none) E s1) E s
 done:∀ (X:Cx),X.prog=P->X.w=w->X.K=K->X.calm=true->∀ (i:Nat) (J2:List (Addr×Obj)) (s:Shared) (σ:St) (H:Hp) (E:Value->Shared->Prop),Inv X J2 σ H s->(∀ b∈fp,jk X J2 H b)->tn i s.heap->J.stop i H ->
  wpAny (model P w) X.A (pyNext (.ref it)) (λr s1=>r=none/\Inv X J2 σ H s1) E s
 self:∀ (A:Around) (i:Nat) (s:Shared) (Q:Value->Shared->Prop) (E:Value->Shared->Prop),tn i s.heap->Q (.ref it) s->wpAny (model P w) A (pyIter (.ref it)) Q E s
abbrev TI:=St->Hp->(It->Hp->Prop)->Prop
def Ju(X:Cx)(J2:List (Addr×Obj))(σ:St)(tg:Expr)(R:It->Hp->Prop)(itv:Value)(s2:Shared):Prop :=
 ∃ (it:Addr) (fp:List Addr) (tn:Nat->Heap->Prop) (J:It) (H':Hp),itv=.ref it/\Inv X J2 σ H' s2/\Turn X.prog X.w X.K tg J fp it tn/\tn 0 s2.heap/\(∀ b∈fp,jk X J2 H' b)/\R J H'
def PI(X:Cx)(tg iter:Expr)(wi:TI):Prop :=
 ∀ (J2:List (Addr×Obj)) (s:Shared) (σ:St) (H:Hp) (R:It->Hp->Prop),Inv X J2 σ H s->wi σ H R ->
  wpAny (model X.prog X.w) X.A (eval iter X.env) (λv s1=>wpAny (model X.prog X.w) X.A (pyIter v) (Ju X J2 σ tg R) X.xe s1) X.xe s
theorem sX {M : Model} {n : String} {vs : Array Value} {Q : Unit -> Shared -> Prop} (ho : s.heap.get? it = some o) (hc : o.cls = .type n) (hd : o.data = .fields vs)
    (hn : ["enumerate", "zip", "dict_itemiterator", "dict_reverseitemiterator", "odict_iterator", "itertools.zip_longest", "itertools.pairwise"].contains n = false) (hQ : Q () s) : wpAny M A (letOwnedTupleGo tg (.ref it) u) Q E s := by
  unfold letOwnedTupleGo;cases tg <;> first
    | exact NH hQ
    | (cases u <;> first
        | exact NH hQ
        | (refine NB (wpAny_load ho ?_)
           rw [hc, hd];show wpAny M A (if (["enumerate", "zip", "dict_itemiterator", "dict_reverseitemiterator", "odict_iterator", "itertools.zip_longest", "itertools.pairwise"].contains n && vs[0]? == some (rawInt _)) = true then _ else _) Q E s;rw [if_neg (by intro h; rw [hn, Qt] at h; cases h)];exact NH hQ))
def Js(K:PySem.W.Frag)(a:Addr):It :=
 ⟨λi H=>∃ xs x,gK K H a xs/\xs[i]?=some x,λi H x H'=>H'=H/\∀ xs,gK K H a xs->xs[i]?=some x,λi H=>∃ xs,gK K H a xs/\xs.length<=i⟩
def Jt(K:PySem.W.Frag)(a:Addr):It :=
 ⟨λi H=>∃ xs x,gx K H a xs/\xs[i]?=some x,λi H x H'=>H'=H/\∀ xs,gx K H a xs->xs[i]?=some x,λi H=>∃ xs,gx K H a xs/\xs.length<=i⟩
def G1(lo:Int)(n:Nat):It:=⟨λi _=>i<n,λi H x H'=>H'=H/\x=.int (lo+i),λi _=>n<=i⟩
theorem xB{K:PySem.W.Frag}(a it:Addr):Turn P w K tg (Js K a) [it] it (λi h=>h.IsListIter it a i) where
 mem:=by simp
 obj:=λi h st b hb=>by
  have e:b=it:=by simpa using hb
  subst e;obtain⟨o,e,c,d⟩:=st;exact⟨o,e,λv z=>by rw[d] at z;cases z⟩
 keep:=λi h h' st k=>st.at λo e=>k it (by simp) o e
 item:=by
  intro X hP hw hK hc i J2 s σ H E I hf st hg;subst hP hw hK;obtain⟨xs,x,hq,hx⟩:=hg;obtain⟨J6,rv,p,hz⟩:=I.list hq;obtain⟨u,hu,ru⟩:=rv.get hx;obtain⟨f0,f1,f2,f3,f4,f5⟩:=hf it (by simp);refine wpAny_pyNext_list_item st p.isList (x:=u) (by simpa using hu) λh' L6 sb=>?_;have I1:Inv X J2 σ H { s with heap:=h' }:=I.turned (t':=s.toks) (λb o hb e=>(sb.2 b hb).trans e) f0 f1 f3 f4 f5;obtain⟨o,e,c,d⟩:=id L6;exact⟨u,rfl,sX (s:={ s with heap:=h' }) e c d (by decide) ⟨x,H,I1,ru,⟨rfl,λys hy=>by rw[I.nM hy hq];exact hx⟩,L6,λb hb=>(hf b hb).1⟩⟩
 done:=by
  intro X hP hw hK hc i J2 s σ H E I hf st hg;subst hP hw hK;obtain⟨xs,hq,hx⟩:=hg;obtain⟨J6,rv,p,hz⟩:=I.list hq;obtain⟨f0,f1,f2,f3,f4,f5⟩:=hf it (by simp);have hl:=rv.length;exact wpAny_pyNext_list_end (I.ok.hd hc) st p.isList (by simp;lia) λh' eb=>⟨rfl,I.turned (t':=s.toks) (λb o hb e=>eb b o hb e) f0 f1 f3 f4 f5⟩
 self:=λ_ _ _ _ _ st h=>wpAny_pyIter_listiter st h
theorem uM{K:PySem.W.Frag}(a it:Addr):Turn P w K tg (Jt K a) [it] it (λi h=>h.IsTupleIter it a i) where
 mem:=by simp
 obj:=λi h st b hb=>by
  have e:b=it:=by simpa using hb
  subst e;obtain⟨o,e,c,d⟩:=st;exact⟨o,e,λv z=>by rw[d] at z;cases z⟩
 keep:=λi h h' st k=>st.at λo e=>k it (by simp) o e
 item:=by
  intro X hP hw hK hc i J2 s σ H E I hf st hg;subst hP hw hK;obtain⟨xs,x,hq,hx⟩:=hg;obtain⟨J6,rv,p,hz⟩:=I.tuple hq;obtain⟨u,hu,ru⟩:=rv.get hx;obtain⟨f0,f1,f2,f3,f4,f5⟩:=hf it (by simp);refine wpAny_pyNext_tuple_item st (show s.heap.IsTuple a J6.toArray from p) (x:=u) (by simpa using hu) λh' L6 sb=>?_;have I1:Inv X J2 σ H { s with heap:=h' }:=I.turned (t':=s.toks) (λb o hb e=>(sb.2 b hb).trans e) f0 f1 f3 f4 f5;obtain⟨o,e,c,d⟩:=id L6;exact⟨u,rfl,sX (s:={ s with heap:=h' }) e c d (by decide) ⟨x,H,I1,ru,⟨rfl,λys hy=>by rw[I.kL hy hq];exact hx⟩,L6,λb hb=>(hf b hb).1⟩⟩
 done:=by
  intro X hP hw hK hc i J2 s σ H E I hf st hg;subst hP hw hK;obtain⟨xs,hq,hx⟩:=hg;obtain⟨J6,rv,p,hz⟩:=I.tuple hq;obtain⟨f0,f1,f2,f3,f4,f5⟩:=hf it (by simp);have hl:=rv.length;exact wpAny_pyNext_tuple_end (I.ok.hd hc) st (show s.heap.IsTuple a J6.toArray from p) (by simp;lia) λh' eb=>⟨rfl,I.turned (t':=s.toks) (λb o hb e=>eb b o hb e) f0 f1 f3 f4 f5⟩
 self:=λ_ _ _ _ _ st h=>wpAny_pyIter_tupleiter st h
theorem uV{K:PySem.W.Frag}(it:Addr)(lo:Int)(n:Nat):Turn P w K tg (G1 lo n) [it] it (λi h=>IsRangeIter h it (lo+(i:Nat)*1) ((n:Int)-(i:Nat)) 1) where
 mem:=by simp
 obj:=λi h st b hb=>by
  have e:b=it:=by simpa using hb
  subst e;exact⟨_,st,λv z=>by
   have z':Data.fields _=Data.cell v:=z;cases z'⟩
 keep:=λi h h' st k=>k it (by simp) _ st
 item:=by
  intro X hP hw hK hc i J2 s σ H E I hf st hg;subst hP hw hK;obtain⟨f0,f1,f2,f3,f4,f5⟩:=hf it (by simp);have W:=Walks.range (prog:=X.prog) (w:=X.w) (I.ok.hd hc) it lo 1 n;refine W.item i s _ _ hg st λv h' tk hv L6 kk=>?_;obtain⟨t,rfl⟩:=hv;have I1:Inv X J2 σ H { s with heap:=h',toks:=tk }:=I.turned (λb o hb e=>kk b o (by simpa using hb) e) f0 f1 f3 f4 f5;refine⟨_,rfl,sX (s:={ s with heap:=h',toks:=tk }) (n := "range_iterator") L6 rfl rfl (by decide) ⟨.int (lo+i),H,I1,⟨t,?_⟩,⟨rfl,rfl⟩,L6,λb hb=>(hf b hb).1⟩⟩;rw[Int.mul_one]
 done:=by
  intro X hP hw hK hc i J2 s σ H E I hf st hg;subst hP hw hK;obtain⟨f0,f1,f2,f3,f4,f5⟩:=hf it (by simp);exact wpAny_pyNext_range_end (I.ok.hd hc) st (by have:n<=i:=hg;lia) λh' eb=>⟨rfl,I.turned (t':=s.toks) (λb o hb e=>eb b o hb e) f0 f1 f3 f4 f5⟩
 self:=λ_ _ _ _ _ st h=>wpAny_pyIter_rangeiter st h
variable{fp:List Addr}
theorem xH{R:It->Hp->Prop}{lo hi:Int}{t u v:Tok}{tk:Nat}(I:Inv X J2 σ H s)(h1:-(2^62)<=lo)(h2:lo<2^62)(h3:-(2^62)<=hi)(h4:hi<2^62)
  (q:R (G1 lo (hi-lo).toNat) H):wpAny (model X.prog X.w) X.A (pyIter (.ref s.heap.objs.size)) (Ju X J2 σ tg R) E { s with heap:=s.heap.push { cls:=.type "range", data:=.fields #[.int lo t,.int hi u,.int 1 v] },toks:=tk }:=by
 refine wpAny_pyIter_range (IsRange.new ..) (small_one h1 h2 h3 h4) ?_;have I1:Inv X J2 σ H { s with heap:=s.heap.push { cls:=.type "range", data:=.fields #[.int lo t,.int hi u,.int 1 v] },toks:=tk }:=I.kept λb o e=>NF _ e;refine⟨(s.heap.push { cls:=.type "range", data:=.fields #[.int lo t,.int hi u,.int 1 v] }).objs.size,[(s.heap.push { cls:=.type "range", data:=.fields #[.int lo t,.int hi u,.int 1 v] }).objs.size],_,_,H,rfl,
  I1.kept (t':=tk) λb o e=>NF _ e,uV _ lo (hi-lo).toNat,?_,λb hb=>?_,q⟩
 .have e1:lo+((0:Nat):Int)*1=lo:=by simp
  have e2:(((hi-lo).toNat:Nat):Int)-((0:Nat):Int)=Builtin.Range.rangeSize lo hi 1:=by rw[rangeSize_one];split <;> lia
  show IsRangeIter _ _ (lo+((0:Nat):Int)*1) ((((hi-lo).toNat:Nat):Int)-((0:Nat):Int)) 1;rw[e1,e2];exact NO _ rfl
 .have e:b=(s.heap.push { cls:=.type "range", data:=.fields #[.int lo t,.int hi u,.int 1 v] }).objs.size:=by simpa using hb
  subst e;exact I1.om (NK _) (I1.bg.fresh (NK _))
def CF(ta:TA):TI:=fun σ H R=>ta σ H λvs H1=>∃ j:Int,vs=[.int j]/\-(2^62)<=j/\j<2^62/\R (G1 0 j.toNat) H1
theorem c_{a:Expr}{ta:TA}{p:Pos}(hg:Gl X "range")(hm:X.mg "range" = none)(ha:PA X [a] ta)(hs:autoParam (starEach [a] X.env=[(false,eval a X.env)]) aR._auto_1):PI X tg (.Call (.Name "range" p) [a] [] pos) (CF ta):=by
 intro J2 s σ H R I h;refine Call_ (kR I hg hm boot_range (O7 (b_ (ha pos J2 s σ H _ I h) λus s1 ⟨vs,H1,I1,r1,q1⟩=>?_) hs rfl));obtain⟨j,e,q1,q2,q⟩:=q1;subst e;cases r1 with
 | cons r rr =>
  cases rr;obtain⟨t,rfl⟩:=r;exact call_range_1 (xH I1 (by lia) (by lia) q1 q2 (by simpa using q))
def Jo(wi:TI)(g:TG)(tb:TS):TS:=λD σ H=>wi σ H λJ H1=>∃ W:Nat->Nat->St->Hp->Prop,(∃ m,W 0 m σ H1)/\∀ i m σ H,W i m σ H ->
 (J.stop i H/\D.nx σ H)\/(J.go i H/\∃ N:St->Hp->Prop,(∀ σ' H',N σ' H'->∃ m',m'<m/\W (i+1) m' σ' H')/\∀ x H',J.rD i H x H'->g x σ H' fun σ2 H2=>tb { D with nx:=N,ct:=N,bk:=D.nx } σ2 H2)
def iU(fp:List Addr)(h:Heap):List (Addr×Obj):=fp.filterMap λb=>(h.get? b).map λo=>(b,o)
theorem eT(hb:b∈fp)(e:h.get? b=some o):(b,o)∈iU fp h:=Q4.mpr ⟨b,hb,by rw[e];rfl⟩
theorem wQ{p:Addr×Obj}(hp:p∈iU fp h):p.1∈fp/\h.get? p.1=some p.2:=by
 obtain⟨b,hb,e⟩:=Q4.mp hp;cases q:h.get? b with
 | none=>rw[q] at e;cases e
 | some o =>
  rw[q] at e;have e':(b,o)=p:=NX e;subst e';exact⟨hb,q⟩
theorem Inv.pinned(I:Inv X J2 σ H s)(hf:∀ b∈fp,jk X J2 H b)(ho:∀ b∈fp,∃ o,s.heap.get? b=some o/\∀ v,o.data≠.cell v):Inv X (J2++iU fp s.heap) σ H s :=
 I.vC λp hp=>(OZ.mp hp).elim (λz=>I.pin p (N1 _ z)) λz=>by
  obtain⟨hb,e⟩:=wQ z;obtain⟨f0,f1,f2,_⟩:=hf p.1 hb;obtain⟨o,e',d⟩:=ho p.1 hb;rw[e] at e';cases e';exact⟨e,f0,f1,f2,d⟩
theorem Inv.iR{pl:List (Addr×Obj)}(I:Inv X (J2++pl) σ H s):Inv X J2 σ H s:=I.vC λp hp=>I.pin p (N1 _ (OI _ hp))
theorem Dz{iter:Expr}{wi:TI}{g:TG}(hp:PassesOwn (model X.prog X.w) X.A X.env X.xe)(hc:X.calm=true)(hi:PI X tg iter wi)(hg:PG X tg g)(hb:jy X body tb)
  (hs:autoParam (∀ x,foldedSetIterable iter X.env x=pure x) aI._auto_1):PS X (.For tg iter body [] pos) (Jo wi g tb):=by
 intro J2 s σ H D I h;refine wpAny_For (b_ (hi J2 s σ H _ I h) λv s1 h1=>b_ h1 λitv s2 h2=>?_) hs;obtain⟨it,fp,tn,J,H2,e,I2,T,Mb,f2,W,⟨m0,w0⟩,turn⟩:=h2;subst e;have Le:∀ {H':Hp},(∀ b∈fp,H' b=none)->∀ b∈fp,jk X J2 H' b:=λhn b hb=>⟨hn b hb,(f2 b hb).2⟩
 refine codeAny_forLoop_any (λn s'=>∃ i σ' H',Inv X J2 σ' H' s'/\tn i s'.heap/\(∀ b∈fp,H' b=none)/\W i n σ' H') ?_ m0 ⟨0,σ,H2,I2,Mb,λb hb=>(f2 b hb).1,w0⟩;rintro n s3 ⟨i,σ3,H3,I3,st3,fr3,w3⟩;rcases turn i n σ3 H3 w3 with ⟨stop,qn⟩ | ⟨go,N,hN,step⟩
 .refine Pu hp (b_ (T.done X rfl rfl rfl hc i J2 s3 σ3 H3 X.xe I3 (Le fr3) st3 stop) λr s4 ⟨hr,I4⟩=>?_);subst hr;exact Qk ⟨σ3,H3,I4,qn⟩
 .refine Pu hp (b_ (T.item X rfl rfl rfl hc i J2 s3 σ3 H3 X.xe I3 (Le fr3) st3 go) λr s4 ⟨u,hr,h4⟩=>?_);subst hr;refine Pu hp (b_ h4 λ_ s5 ⟨x,H5,I5,r5,y5,st5,fr5⟩=>?_);have M3:=I5.pinned (Le fr5) (T.obj _ _ st5);refine Pu hp (b_ (hg _ s5 σ3 H5 x u _ M3 r5 (step x H5 y5)) λ_ s6 ⟨σ6,H6,I6,q6⟩=>?_);refine Pu hp (b_ (hb _ s6 σ6 H6 _ I6 q6) λf s7 q7=>?_);have again:∀ {σ7:St} {H7:Hp},Inv X (J2++iU fp s5.heap) σ7 H7 s7->N σ7 H7->∃ m,m<n/\∃ i σ' H',Inv X J2 σ' H' s7/\tn i s7.heap/\(∀ b∈fp,H' b=none)/\W i m σ' H':=λ{σ7 H7} I7 n7=>by
   obtain⟨m',hm,w7⟩:=hN σ7 H7 n7;refine⟨m',hm,i+1,σ7,H7,I7.iR,T.keep _ _ _ st5 λb hb o e=>(I7.pin (b,o) (N1 _ (N1 _ (eT hb e)))).1,λb hb=>?_,w7⟩;obtain⟨o,e,d⟩:=T.obj _ _ st5 b hb;exact(I7.pin (b,o) (N1 _ (N1 _ (eT hb e)))).2.1
  cases f with
  | next=>obtain⟨σ7,H7,I7,n7⟩:=q7;exact again I7 n7
  | cont=>obtain⟨σ7,H7,I7,n7⟩:=q7;exact again I7 n7
  | brk=>obtain⟨σ7,H7,I7,q7⟩:=q7;exact⟨σ7,H7,I7.iR,q7⟩
  | ret v=>obtain⟨x7,σ7,H7,I7,r7,q7⟩:=q7;exact⟨x7,σ7,H7,I7.iR,r7,q7⟩
abbrev R2:=V->V->Hp->VK->Prop
def fF(X:Cx)(f:Value->Value->Sem Value)(r:R2):Prop :=
 ∀ (J2:List (Addr×Obj)) (s:Shared) (σ:St) (H:Hp) (x y:V) (v u:Value) (Q:VK),Inv X J2 σ H s->RelV x v->RelV y u->r x y H Q ->
  wpAny (model X.prog X.w) X.A (f v u) (EP X J2 σ Q) X.xe s
def Jk(X:Cx)(f:Value->Sem Value)(r:V->Hp->VK->Prop):Prop :=
 ∀ (J2:List (Addr×Obj)) (s:Shared) (σ:St) (H:Hp) (x:V) (v:Value) (Q:VK),Inv X J2 σ H s->RelV x v->r x H Q ->
  wpAny (model X.prog X.w) X.A (f v) (EP X J2 σ Q) X.xe s
def cO(X:Cx)(f:Value)(r:List V->Hp->VK->Prop):Prop :=
 ∀ (J2:List (Addr×Obj)) (s:Shared) (σ:St) (H:Hp) (xs:List V) (us:List Value) (Q:VK),Inv X J2 σ H s->Vals xs us->r xs H Q ->
  wpAny (model X.prog X.w) X.A (call f us) (EP X J2 σ Q) X.xe s
def GX(r:R2)(ta tb:TE):TE:=fun σ H Q=>ta σ H λx H1=>tb σ H1 λy H2=>r x y H2 Q
def Jy(r:V->Hp->VK->Prop)(ta:TE):TE:=fun σ H Q=>ta σ H λx H1=>r x H1 Q
def rI(C:Int->Int->Prop)(g:Int->Int->V):R2:=λx y H Q=>∃ i j,x=.int i/\y=.int j/\C i j/\Q (g i j) H
def v7(g:Int->Int->V):R2:=λx y H Q=>∃ i j,x=.int i/\y=.int j/\Q (g i j) H
def rU(g:Int->V):V->Hp->VK->Prop:=λx H Q=>∃ i,x=.int i/\Q (g i) H
variable{f:Value->Value->Sem Value}
variable{r:R2}
section
variable{a b:Expr}{tb tc:TE}
theorem D7(ha:PE X a ta)(hb:PE X b tb){R:V->V->Hp->Prop}(I:Inv X J2 σ H s)
  (h:ta σ H λx H1=>tb σ H1 λy H2=>R x y H2)
  (hf:∀ v u s2 x y H2,Inv X J2 σ H2 s2->RelV x v->RelV y u->R x y H2->wpAny (model X.prog X.w) X.A (f v u) Q X.xe s2) :
  wpAny (model X.prog X.w) X.A (eval a X.env) (λv s₁=>wpAny (model X.prog X.w) X.A (eval b X.env) (λu s₂=>wpAny (model X.prog X.w) X.A (f v u) Q X.xe s₂) X.xe s₁) X.xe s:=by
 refine b_ (ha J2 s σ H _ I h) λv s1 ⟨x,H1,I1,r1,q1⟩=>?_;refine b_ (hb J2 s1 σ H1 _ I1 q1) λu s2 ⟨y,H2,I2,r2,q2⟩=>?_;exact hf v u s2 x y H2 I2 r1 r2 q2
theorem F3{op:Operator}(ho:fF X (binaryOp op) r)(ha:PE X a ta)(hb:PE X b tb):PE X (.BinOp a op b pos) (GX r ta tb):=by
 intro J2 s σ H Q I h;exact wpAny_BinOp (D7 ha hb I h λv u s2 x y H2 I2 rx ry q=>ho J2 s2 σ H2 x y v u Q I2 rx ry q)
theorem GH{op:UnaryOp}{r:V->Hp->VK->Prop}(ho:Jk X (unaryOp op) r)(ha:PE X a ta):PE X (.UnaryOp op a pos) (Jy r ta):=by
 intro J2 s σ H Q I h;exact UnaryOp_ (b_ (ha J2 s σ H _ I h) λv s1 ⟨x,H1,I1,r1,q1⟩=>ho J2 s1 σ H1 x v Q I1 r1 q1)
theorem G_{C:Int->Int->Prop}{g:Int->Int->Int}
  (rule:∀ (i j:Int) (t u:Tok) (s:Shared) (Q:Value->Shared->Prop) (E:Value->Shared->Prop),C i j->Q (.int (g i j) s.toks) { s with toks:=s.toks+1 }->wpAny (model X.prog X.w) X.A (f (.int i t) (.int j u)) Q E s) :
  fF X f (rI C λi j=>.int (g i j)):=by
 intro J2 s σ H x y v u Q I rx ry h;obtain⟨i,j,rfl,rfl,hc,q⟩:=h;obtain⟨t,rfl⟩:=rx;obtain⟨t',rfl⟩:=ry;exact rule i j t t' s _ _ hc ⟨.int (g i j),H,I.tok _,⟨_,rfl⟩,q⟩
theorem F0{g:Int->Int->Int}
  (rule:∀ (i j:Int) (t u:Tok) (s:Shared) (Q:Value->Shared->Prop) (E:Value->Shared->Prop),Q (.int (g i j) s.toks) { s with toks:=s.toks+1 }->wpAny (model X.prog X.w) X.A (f (.int i t) (.int j u)) Q E s) :
  fF X f (v7 λi j=>.int (g i j)):=by
 intro J2 s σ H x y v u Q I rx ry h;obtain⟨i,j,rfl,rfl,q⟩:=h;obtain⟨t,rfl⟩:=rx;obtain⟨t',rfl⟩:=ry;exact rule i j t t' s _ _ ⟨.int (g i j),H,I.tok _,⟨_,rfl⟩,q⟩
theorem AJ{g:Int->Int->Bool}
  (rule:∀ (i j:Int) (t u:Tok) (s:Shared) (Q:Value->Shared->Prop) (E:Value->Shared->Prop),Q (.bool (g i j)) s->wpAny (model X.prog X.w) X.A (f (.int i t) (.int j u)) Q E s) :
  fF X f (v7 λi j=>.bl (g i j)):=by
 intro J2 s σ H x y v u Q I rx ry h;obtain⟨i,j,rfl,rfl,q⟩:=h;obtain⟨t,rfl⟩:=rx;obtain⟨t',rfl⟩:=ry;exact rule i j t t' s _ _ ⟨.bl (g i j),H,I,rfl,q⟩
def DA(i j:Int):Prop:=0<=j/\j<=1000000/\i.natAbs<2^64
theorem CN:fF X (binaryOp .Add) (v7 λi j=>.int (i+j)):=F0 λ_ _ _ _ _ _ _ q=>add_int q
theorem C6:fF X (binaryOp .Sub) (v7 λi j=>.int (i-j)):=F0 λ_ _ _ _ _ _ _ q=>sub_int q
theorem Be:fF X (binaryOp .Mod) (rI (λ_ j=>j≠0) λi j=>.int (i.fmod j)):=G_ λ_ _ _ _ _ _ _ hc q=>mod_int' hc q
theorem Dk:fF X (binaryOp .Pow) (rI DA λi j=>.int (i^j.toNat)):=G_ λ_ _ _ _ _ _ _ hc q=>pow_int_small hc.1 hc.2.1 hc.2.2 q
theorem JQ{f:Value->Sem Value}{g:Int->Int}
  (rule:∀ (i:Int) (t:Tok) (s:Shared) (Q:Value->Shared->Prop) (E:Value->Shared->Prop),Q (.int (g i) s.toks) { s with toks:=s.toks+1 }->wpAny (model X.prog X.w) X.A (f (.int i t)) Q E s) :
  Jk X f (rU λi=>.int (g i)):=by
 intro J2 s σ H x v Q I rx h;obtain⟨i,rfl,q⟩:=h;obtain⟨t,rfl⟩:=rx;exact rule i t s _ _ ⟨.int (g i),H,I.tok _,⟨_,rfl⟩,q⟩
theorem Eb:Jk X (unaryOp .USub) (rU λi=>.int (-i)):=JQ λ_ _ _ _ _ q=>neg_int q
end
variable{op:CmpOp}
variable{us:List Value}
section
variable{a b:Expr}{tb tc:TE}
theorem nI{Q:VK}{k k':Bool}(I:Inv X J2 σ H s)(q:Q (.bl k) H)(e:k=k'):EP X J2 σ Q (.bool k') s:=by
 subst e;exact⟨.bl k,H,I,rfl,q⟩
theorem B5:fF X (compareOp .Lt) (v7 λi j=>.bl (decide (i<j))):=AJ λ_ _ _ _ _ _ _ q=>lt_int q
theorem jv:fF X (compareOp .LtE) (v7 λi j=>.bl (decide (i<=j))):=AJ λ_ _ _ _ _ _ _ q=>le_int q
theorem Cg:fF X (compareOp .Gt) (v7 λi j=>.bl (decide (j<i))):=AJ λ_ _ _ _ _ _ _ q=>gt_int q
theorem Cs:fF X (compareOp .GtE) (v7 λi j=>.bl (decide (j<=i))):=AJ λ_ _ _ _ _ _ _ q=>ge_int q
theorem xl:fF X (compareOp .In) (λx y H Q=>∃ i j,x=.str i/\y=.str j/\Q (.bl (!(Oa j i 0 j.length 1).isEmpty)) H):=by
 intro J2 s σ H x y v u Q I rx ry h;obtain⟨i,j,rfl,rfl,q⟩:=h;obtain⟨t,rfl⟩:=rx;obtain⟨t',rfl⟩:=ry;exact in_str (nI I q rfl)
theorem yD:fF X (compareOp .Is) (λx y H Q=>y=.bH/\Q (.bl (decide (x=.bH))) H):=by
 intro J2 s σ H x y v u Q I rx ry h;obtain⟨rfl,q⟩:=h;cases ry;refine is_none_gen (nI I q ?_);cases x <;> first
  | (cases rx;rfl)
  | (obtain⟨t,rfl⟩:=rx;rfl)
theorem vF:fF X (compareOp .IsNot) (λx y H Q=>y=.bH/\Q (.bl (!decide (x=.bH))) H):=by
 intro J2 s σ H x y v u Q I rx ry h;obtain⟨rfl,q⟩:=h;cases ry;refine isnot_none_gen (nI I q ?_);cases x <;> first
  | (cases rx;rfl)
  | (obtain⟨t,rfl⟩:=rx;rfl)
theorem fF.or{r':R2}(h:fF X f r)(h':fF X f r'):fF X f (λx y H Q=>r x y H Q\/r' x y H Q):=by
 intro J2 s σ H x y v u Q I rx ry q;rcases q with q | q
 .exact h J2 s σ H x y v u Q I rx ry q
 .exact h' J2 s σ H x y v u Q I rx ry q
theorem de(b:Expr)(h:autoParam (op≠.In) aD._auto_1)(h2:autoParam (op≠.NotIn) aD._auto_1):behindInMarks op b=false:=by
 have e1:(op==CmpOp.In)=false:=by cases op <;> first | rfl | exact absurd rfl h
 have e2:(op==CmpOp.NotIn)=false:=by cases op <;> first | rfl | exact absurd rfl h2
 cases b <;> simp[behindInMarks,e1,e2]
theorem AV(ho:fF X (compareOp op) r)(ha:PE X a ta)(hb:PE X b tb)(hm:behindInMarks op b=false):PE X (.Compare a [op] [b] pos) (GX r ta tb):=by
 intro J2 s σ H Q I h;exact wpAny_Compare1 (D7 ha hb I h λv u s2 x y H2 I2 rx ry q=>ho J2 s2 σ H2 x y v u Q I2 rx ry q) hm
def Cw(t:TE):TT:=fun σ H Q=>t σ H λx H'=>∃ k,x=.bl k/\Q k H'
theorem Bj(ho:fF X (compareOp op) r)(ha:PE X a ta)(hb:PE X b tb)(hm:behindInMarks op b=false):PT X (.Compare a [op] [b] pos) (Cw (GX r ta tb)):=by
 intro J2 s σ H Q I h;refine wpAny_isTrue_Compare1 (b_ (ha J2 s σ H _ I h) λv s1 ⟨x,H1,I1,r1,q1⟩=>b_ (hb J2 s1 σ H1 _ I1 q1) λu s2 ⟨y,H2,I2,r2,q2⟩ =>
  b_ (ho J2 s2 σ H2 x y v u _ I2 r1 r2 q2) λc s3 ⟨z,H3,I3,r3,k,e,q3⟩=>?_) hm
 subst e;cases r3;exact OP ⟨H3,I3,q3⟩
def uU(r r':R2)(ta tb tc:TE):TE:=fun σ H Q=>ta σ H λx H1=>tb σ H1 λy H2=>r x y H2 λz H3=>∃ k,z=.bl k ∧
 (if k=true then tc σ H3 λw' H4=>r' y w' H4 Q else Q (.bl false) H3)
theorem zP{LV:CmpOp}{r':R2}(ho:fF X (compareOp op) r)(Lz:fF X (compareOp LV) r')(ha:PE X a ta)(hb:PE X b tb)(hc:PE X c tc)
  (hm:autoParam (lastMarks [op,LV] [b,c]=false) aU._auto_1):PE X (.Compare a [op,LV] [b,c] pos) (uU r r' ta tb tc):=by
 intro J2 s σ H Q I h;refine Compare_chain (b_ (ha J2 s σ H _ I h) λv s1 ⟨x,H1,I1,r1,q1⟩=>chain_link (b_ (hb J2 s1 σ H1 _ I1 q1) λu s2 ⟨y,H2,I2,r2,q2⟩ =>
  b_ (ho J2 s2 σ H2 x y v u _ I2 r1 r2 q2) λd s3 ⟨z,H3,I3,r3,k,e,q3⟩=>?_)) hm
 subst e;cases r3;refine OP ?_;cases k with
 | false=>exact ite_ff ⟨.bl false,H3,I3,rfl,q3⟩
 | true=>exact ite_tt (chain_last (b_ (hc J2 s3 σ H3 _ I3 q3) λw' s4 ⟨z',H4,I4,r4,q4⟩=>Lz J2 s4 σ H4 y z' u w' Q I4 r2 r4 q4))
theorem ze{LV:CmpOp}{r':R2}(ho:fF X (compareOp op) r)(Lz:fF X (compareOp LV) r')(ha:PE X a ta)(hb:PE X b tb)(hc:PE X c tc)
  (hm:autoParam (lastMarks [op,LV] [b,c]=false) aU._auto_1):PT X (.Compare a [op,LV] [b,c] pos) (Cw (uU r r' ta tb tc)):=by
 intro J2 s σ H Q I h;refine isTrue_chain (b_ (ha J2 s σ H _ I h) λv s1 ⟨x,H1,I1,r1,q1⟩=>test_link (b_ (hb J2 s1 σ H1 _ I1 q1) λu s2 ⟨y,H2,I2,r2,q2⟩ =>
  b_ (ho J2 s2 σ H2 x y v u _ I2 r1 r2 q2) λd s3 ⟨z,H3,I3,r3,k,e,q3⟩=>?_)) hm
 subst e;cases r3;refine OP ?_;cases k with
 | false =>
  obtain⟨k',e',q'⟩:=q3;cases e';exact ite_ff ⟨H3,I3,q'⟩
 | true =>
  refine ite_tt (test_last (b_ (hc J2 s3 σ H3 _ I3 q3) λw' s4 ⟨z',H4,I4,r4,q4⟩=>b_ (Lz J2 s4 σ H4 y z' u w' _ I4 r2 r4 q4) λd' s5 ⟨z2,H5,I5,r5,k2,e2,q5⟩=>?_));subst e2;cases r5;exact OP ⟨H5,I5,q5⟩
theorem lF:(sizeLine:Nat)<2^63:=by rw[sizeLine_eq];decide
theorem tQ:fF X (binaryOp .Add) (λx y H Q=>∃ i j,x=.str i/\y=.str j/\i.length+j.length<=sizeLine/\Q (.str (i++j)) H):=by
 intro J2 s σ H x y v u Q I rx ry h;obtain⟨i,j,rfl,rfl,hz,q⟩:=h;obtain⟨t,rfl⟩:=rx;obtain⟨t',rfl⟩:=ry;exact add_str (λt' tk=>⟨.str (i++j),H,I.tok _,⟨_,rfl⟩,q⟩) hz
theorem vals1{x:V}(r:Vals [x] us):∃ u,us=[u]/\RelV x u:=by
 cases r with
 | cons r1 r2=>cases r2;exact⟨_,rfl,r1⟩
theorem vals2{x y:V}(r:Vals [x,y] us):∃ u w',us=[u,w']/\RelV x u/\RelV y w':=by
 cases r with
 | cons r1 r2 =>
  cases r2 with
  | cons r3 r4=>cases r4;exact⟨_,_,rfl,r1,r3⟩
theorem pf(hc:X.calm=true):cO X (.builtin "max") (λxs H Q=>∃ i j,xs=[.int i,.int j]/\Q (.int (if j>i then j else i)) H):=by
 intro J2 s σ H xs us Q I r h;obtain⟨i,j,rfl,q⟩:=h;obtain⟨u,w',rfl,⟨t,rfl⟩,⟨t',rfl⟩⟩:=vals2 r;refine max_two_ints (I.ok.hd hc) λh' tk k=>⟨_,H,I.kept k,?_,q⟩
 by_cases hj:j>i
 .rw[if_pos hj,if_pos hj];exact⟨_,rfl⟩
 .rw[if_neg hj,if_neg hj];exact⟨_,rfl⟩
theorem fW:cO X (.type "str") (λxs H Q=>∃ i,xs=[.int i]/\i.natAbs.log2<1920/\Q (.str (toString i)) H):=by
 intro J2 s σ H xs us Q I r h;obtain⟨i,rfl,hz,q⟩:=h;obtain⟨u,rfl,t,rfl⟩:=vals1 r;exact PySem.P.str_of_int hz ⟨.str _,H,I.tok _,⟨_,rfl⟩,q⟩
end
structure uk (h:Heap) (x dx C:Addr) (mA:Str->Option Value):Prop where
 obj:h.get? x=some (PySem.W.instObj C dx)
 ns:h.Ns1 dx mA
 ne:dx≠x
variable{mA:Str->Option Value}{dx:Addr}
theorem lh(n:h.Ns1 dx mA):∃ od,h.get? dx=some od/\∀ name,PySem.W.lookIn name od=some (mA name):=by
 obtain⟨o,es,ep,ho,hd,hk,_,hm⟩:=n;refine⟨o,ho,λname=>?_⟩;have e:=hm name;unfold nsFind findBy at e;rw[<- Sm] at e;unfold PySem.W.lookIn;rw[hd];dsimp only
 split
 .rename_i y q;rw[q] at e;exact congrArg some e
 .rename_i q;rw[q] at e;have a:es.toList.any (·.refKey)=false:=by
   rw[List.any_eq_false];intro y hy;obtain⟨z,t,hkey⟩:=hk y (Array.mem_toList_iff.mp hy);simp[DictEntry.refKey,hkey]
  have a':¬ es.toList.any (·.refKey)=true:=by rw[a];exact OC
  rw[if_neg a'];exact congrArg some e
variable{C:Addr}
theorem uk.look{x:Addr}(I:uk h x dx C mA):∃ od,PySem.W.InstAt h x (PySem.W.instObj C dx) C (some od)/\∀ name,PySem.W.lookIn name od=some (mA name) :=
 let ⟨od,ho,hl⟩:=lh I.ns
 ⟨od,⟨I.obj,rfl,rfl,ho⟩,hl⟩
variable{prog:Program}
variable{pl:Sem Bool}
variable{kw:List (Str×Value)}
section
variable{K:PySem.W.Frag}{x f:Addr}{name:Str}{v:Value}
theorem get_map{expr:Bool}(X:K.In s.heap)(I:uk s.heap x dx C mA)(hg:PySem.W.plainGet K C name=true)(hh:PySem.W.hasDictIn K C=true)
  (ha:PySem.W.findIn K (.ref C) name=some none) (hv:mA name=some v) (MD:PySem.W.handedIn v=true) (h:Q v { s with toks:=s.toks+1 }) :
  wpAny (model prog w) A (getAttr (.ref x) name expr) Q E s:=by
 obtain⟨od,J,hl⟩:=I.look;exact PySem.W.get_value X J (PySem.W.plainGet_of hg).1 (PySem.W.findObj_own hh ha rfl (by rw[hl,hv])) MD h
theorem Ai{Q:Value×List Value->Shared->Prop}(X:K.In s.heap)(I:uk s.heap x dx C mA)(hg:PySem.W.plainGet K C name=true)
  (hf:PySem.W.findIn K (.ref C) name=some (some (.ref f))) (ht:PySem.W.isFn K (.ref f)=true) (hv:mA name=none) (h:Q (.ref f,[.ref x]) s) :
  wpAny (model prog w) A (getMethod (.ref x) name pl) Q E s:=by
 obtain⟨od,J,hl⟩:=I.look;exact PySem.W.method_fn X J (PySem.W.plainGet_of hg).1 (PySem.W.plainGet_of hg).2 hf (beq_iff_eq.mp ht) (by show (PySem.W.lookIn name od).map (·.isSome)=some false;rw[hl,hv];rfl) h
theorem AA{ns:List Str}{Q:Unit->Shared->Prop}(X:K.In s.heap)(I:uk s.heap x dx C mA)
  (hs:PySem.W.findIn K (.ref C) "__setattr__" = some (some (.builtin "object.__setattr__"))) (hp:PySem.W.plainOver K C=true) (ht:PySem.W.takerIn K C name=some none) (hh:PySem.W.hasDictIn K C=true)
  (hw:PySem.Within mA ns) (Lh:ns.length<=sizeLine)
  (h:∀ h',uk h' x dx C (λy=>if y=name then some v else mA y)->Px dx s.heap h'->Q () { s with heap:=h',toks:=s.toks+2 }) :
  wpAny (model prog w) A (setAttr (.ref x) name v) Q E s:=by
 obtain⟨od,J,hl⟩:=I.look;refine PySem.W.set_plain X J hs (PySem.W.osa_open (s:={ s with toks:=s.toks+1 }) (r:=none) X J hp ht λb=>?_);obtain⟨cd,hc,Nf⟩:=PySem.W.any_some hh;have hx:s.heap.get? x=some ⟨.ref C,some dx,.plain,#[]⟩:=I.obj;refine NB (NH (NB (NB (Qu hx (NB (PySem.W.Looks.here (s:={ s with toks:=s.toks+1 }) (PySem.W.looks_clsIn X hc) ?_))))));rw[Nf];refine NH (a:=some dx) (NB (NH (NB ?_)));refine wpAny_nsSet1 (s:={ s with toks:=s.toks+1 }) I.ns λh' MC LQ=>?_;obtain⟨oD,esD,epD,hoD,hdD,Mj⟩:=MC.count (PySem.Within.cons name v hw);refine NB (wpAny_lookBehind hoD (by rw[hdD];exact pastItsLine_dict (N3 Mj (by rw[NS];lia))) ?_);exact NH (h _ ⟨(LQ.2 _ (O4 I.ne)).trans I.obj,MC,I.ne⟩ LQ)
theorem y_{R:Result->Shared->Prop}{vs:List Value}(X:K.In s.heap)(hm:PySem.W.makesIn K C=true)
  (hi:PySem.W.findIn K (.ref C) "__init__" = some (some (.ref f))) (hf:PySem.W.typeIn K (.ref f)=some (.type "function"))
  (h:codeAny (model prog w) (A.under (.builtin "type.__call__" ⟨.ref C::vs,kw⟩)) (.call (.ref f) ⟨.ref (s.heap.objs.size+1)::vs,kw⟩) (PySem.W.InitBack (s.heap.objs.size+1) R)
   { s with heap:=(s.heap.push PySem.W.emptyDict).push (PySem.W.instObj C s.heap.objs.size) }) :
  codeAny (model prog w) A (.call (.ref C) ⟨vs,kw⟩) R s:=by
 obtain⟨hh,g,d,t,os⟩:=s;exact PySem.W.make_core (PySem.W.makes_of X hm) (PySem.W.looks_findIn X hi) (λself=>PySem.W.bind_fn X self hf) (.inl rfl) h
end
def iI(f:Str)(v:V):List (Str×V)->List (Str×V)
 | []=>[(f,v)]
 | (g,x)::r=>if g=f then (g,v)::r else (g,x)::iI f v r
theorem lH(f g:Str)(v:V):∀ fs:List (Str×V),(iI f v fs).lookup g=if g=f then some v else fs.lookup g
 | []=>by
  show P1 g [(f,v)]=_
  by_cases h:g=f
  .have hb:(g==f)=true:=beq_iff_eq.mpr h;simp only[P1,hb,if_pos h]
  .have hb:(g==f)=false:=beq_eq_false_iff_ne.mpr h;simp only[P1,hb,if_neg h]
 | (k,x)::r=>by
  have ih:=lH f g v r;rw[show iI f v ((k,x)::r)=(if k=f then (k,v)::r else (k,x)::iI f v r) from rfl]
  by_cases hk:k=f
  .rw[if_pos hk]
   by_cases h:g=k
   .have hb:(g==k)=true:=beq_iff_eq.mpr h;simp only[P1,hb,if_pos (h.trans hk)]
   .have hb:(g==k)=false:=beq_eq_false_iff_ne.mpr h;simp only[P1,hb,if_neg (λe:g=f=>h (e.trans hk.symm))]
  .rw[if_neg hk]
   by_cases h:g=k
   .have hb:(g==k)=true:=beq_iff_eq.mpr h;simp only[P1,hb,if_neg (λe:g=f=>hk (h.symm.trans e))]
   .have hb:(g==k)=false:=beq_eq_false_iff_ne.mpr h;simp only[P1,hb];exact ih
theorem k8(f:Str)(v:V):∀ fs:List (Str×V),f∈(iI f v fs).map (·.1)/\∀ g,g∈fs.map (·.1)->g∈(iI f v fs).map (·.1)
 | []=>⟨by simp[iI],λg h=>by simp at h⟩
 | (k,x)::r=>by
  obtain⟨i1,i2⟩:=k8 f v r;rw[show iI f v ((k,x)::r)=(if k=f then (k,v)::r else (k,x)::iI f v r) from rfl]
  by_cases hk:k=f
  .rw[if_pos hk];subst hk;exact⟨by simp,λg h=>by simpa using h⟩
  .rw[if_neg hk];refine⟨?_,λg h=>?_⟩
   .rw[N5];exact NI _ i1
   .rw[N5] at h ⊢;rcases NU.mp h with e | e
    .exact NU.mpr (.inl e)
    .exact NI _ (i2 g e)
theorem lS(f:Str)(v:V):∀ fs:List (Str×V),(iI f v fs).length<=fs.length+1
 | []=>by simp[iI]
 | (k,x)::r=>by
  have ih:=lS f v r;rw[show iI f v ((k,x)::r)=(if k=f then (k,v)::r else (k,x)::iI f v r) from rfl]
  by_cases hk:k=f
  .rw[if_pos hk,NS,NS];lia
  .rw[if_neg hk,NS,NS];lia
theorem kF.some_of{o:Option Value}(r:kF (some v) o):∃ u,o=some u/\RelV v u:=by
 cases o with
 | none=>exact(show False from r).elim
 | some u=>exact⟨u,rfl,r⟩
theorem kF.none_of{o:Option Value}(r:kF none o):o=none:=by
 cases o with
 | none=>rfl
 | some u=>exact(show False from r).elim
theorem o3(r:RelV v u):PySem.W.handedIn u=true:=by
 cases v with
 | bH=>cases (show u=Oe from r);rfl
 | bl b=>cases (show u=OV b from r);rfl
 | int i=>obtain⟨t,e⟩:=(show ∃ t,u=Rq i t from r);cases e;rfl
 | str x=>obtain⟨t,e⟩:=(show ∃ t,u=Rr x t from r);cases e;rfl
 | byt b=>obtain⟨t,e⟩:=(show ∃ t,u=TU b t from r);cases e;rfl
 | CI b=>obtain⟨t,e⟩:=(show ∃ t,u=RY b t from r);cases e;rfl
 | ref a=>cases (show u=NQ a from r);rfl
 | ty n=>cases (show u=OW n from r);rfl
section
variable{fs MF:List (Str×V)}
theorem j8(bg:kI P w H h)(e:H a=some (.ins C dx fs)):∃ mA,uk h a dx C mA/\(∀ f,kF (fs.lookup f) (mA f))/\PySem.Within mA (fs.map (·.1))/\fs.length<=1000/\H dx=some (.own a):=by
 obtain⟨d,z,ne,ob,mA,n,r,q⟩:=(show bF P w H h a (.ins C dx fs) from bg a _ e)
 exact⟨mA,⟨ob,n,ne⟩,r,q,z,d⟩
end
structure oU (K:PySem.W.Frag) (C:Addr):Prop where
 pg:PySem.W.plainGet K C TH=true
 hd:PySem.W.hasDictIn K C=true
 po:PySem.W.plainOver K C=true
 sa:PySem.W.findIn K (.ref C) "__setattr__" = some (some (.builtin "object.__setattr__"))
theorem oU.get{K:PySem.W.Frag}(c:oU K C)(f:Str):PySem.W.plainGet K C f=true:=c.pg
def bP(K:PySem.W.Frag)(C:Addr)(f:Str):Prop:=PySem.W.findIn K (.ref C) f=some none
theorem bP.Cr{K:PySem.W.Frag}{f:Str}(n:bP K C f):PySem.W.takerIn K C f=some none:=by
 unfold PySem.W.takerIn;rw[show PySem.W.findIn K (.ref C) f=some none from n];rfl
structure Meth (K:PySem.W.Frag) (C:Addr) (m:Str) (f:Addr):Prop where
 at_:PySem.W.findIn K (.ref C) m=some (some (.ref f))
 fn:PySem.W.isFn K (.ref f)=true
 kp:PySem.W.keepIn K (.ref f)=true
variable{m:Str}
section
variable{fs:List (Str×V)}{f:Str}
theorem uN{b:Bool}(I:Inv X J2 σ H s)(e:H a=some (.ins C dx fs))(c:oU X.K C)(n:bP X.K C f)(l:fs.lookup f=some v)
  (h:∀ u s',Inv X J2 σ H s'->RelV v u->Q u s'):wpAny (model X.prog X.w) A (getAttr (.ref a) f b) Q E s:=by
 obtain⟨mA,O,r,_,_,_⟩:=j8 I.bg e;obtain⟨u,hu,ru⟩:=kF.some_of (v:=v) (o:=mA f) (by rw[<- l];exact r f);exact get_map I.iH O (c.get f) c.hd n hu (o3 ru) (h u _ (I.tok _) ru)
theorem uQ{g:Addr}{Q:Value×List Value->Shared->Prop}(I:Inv X J2 σ H s)(e:H a=some (.ins C dx fs))(c:oU X.K C)(k:Meth X.K C m g)(l:fs.lookup m=none)
  (h:Q (.ref g,[.ref a]) s):wpAny (model X.prog X.w) A (getMethod (.ref a) m pl) Q E s:=by
 obtain⟨mA,O,r,_,_,_⟩:=j8 I.bg e;have hn:mA m=none:=kF.none_of (by rw[<- l];exact r m);exact Ai I.iH O (c.get m) k.at_ k.fn hn h
theorem uW{y:V}{Q:Unit->Shared->Prop}(I:Inv X J2 σ H s)(e:H a=some (.ins C dx fs))(c:oU X.K C)(n:bP X.K C f)(hl:fs.length<1000)(ry:RelV y u)
  (h:∀ s',Inv X J2 σ (upd H a (.ins C dx (iI f y fs))) s'->Q () s'):wpAny (model X.prog X.w) A (setAttr (.ref a) f u) Q E s:=by
 obtain⟨mA,O,r,wi,_,ho⟩:=j8 I.bg e;have hz:(fs.map (·.1)).length<=sizeLine:=by rw[ND,sizeLine_eq];lia
 refine AA I.iH O c.sa c.po n.Cr c.hd wi hz λh' O' sb=>h _ ?_;have hd:∃ o,h'.get? dx=some o:=let ⟨o,_,_,e',_⟩:=O'.ns;⟨o,e'⟩
 refine I.write (x:=a) (e:=dx) (by rw[e];exact O6) (.inr ho) (λb q hb z=>(sb.2 b hb).trans z) hd ?_;refine⟨by rw[ar O.ne];exact ho,?_,O.ne,O'.obj,_,O'.ns,λg=>?_,λg hg=>?_⟩
 .have:=lS f y fs;lia
 .show kF ((iI f y fs).lookup g) (if g=f then some u else mA g);rw[lH]
  by_cases q:g=f
  .rw[if_pos q,if_pos q];exact ry
  .rw[if_neg q,if_neg q];exact r g
 .by_cases q:g=f
  .rw[q];exact(k8 f y fs).1
  .refine(k8 f y fs).2 g (wi g λz=>hg ?_);show (if g=f then some u else mA g)=none;rw[if_neg q];exact z
theorem Inv.made(I:Inv X J2 σ H s):Inv X J2 σ (upd (upd H s.heap.objs.size (.own (s.heap.objs.size+1))) (s.heap.objs.size+1) (.ins C s.heap.objs.size []))
  { s with heap:=(s.heap.push PySem.W.emptyDict).push (PySem.W.instObj C s.heap.objs.size) }:=by
 have e1:(s.heap.push PySem.W.emptyDict).get? s.heap.objs.size=some PySem.W.emptyDict:=NO s.heap rfl;have e2:((s.heap.push PySem.W.emptyDict).push (PySem.W.instObj C s.heap.objs.size)).get? (s.heap.objs.size+1)=some (PySem.W.instObj C s.heap.objs.size):=by
  have:=NO (s.heap.push PySem.W.emptyDict) (o:=PySem.W.instObj C s.heap.objs.size) rfl
  rwa [Ow] at this
 have e3:(s.heap.push PySem.W.emptyDict).Ns s.heap.objs.size (λ_=>none):=⟨PySem.W.emptyDict,#[],_,e1,rfl,(λe he=>absurd he (by simp)),λ_=>rfl⟩
 have I1:=I.laid (a:=s.heap.objs.size) (o:=.own (s.heap.objs.size+1)) (h':=s.heap.push PySem.W.emptyDict) (t':=s.toks) (λb u q=>NF _ q) (NK _) ⟨_,e1⟩;refine I1.laid (a:=s.heap.objs.size+1) (o:=.ins C s.heap.objs.size []) (t':=s.toks) (λb u q=>NF _ q) (Sx (Ow _ _)) ?_;have ne:s.heap.objs.size≠s.heap.objs.size+1:=NR (Ox _);refine⟨by rw[ar ne,av],OQ _,ne,e2,λ_=>none,(Sy e3).at λo q=>NF _ q,λ_=>O6,λy hy=>absurd rfl hy⟩
theorem vY{env:Env}{f:Str}(hb:attributeBase e f env (eval e env)=eval e env)
  (h:wpAny (model prog w) A (eval e env) (λo s₁=>wpAny (model prog w) A (getAttr o f true) Q E s₁) E s):wpAny (model prog w) A (eval (.Attribute e f pos) env) Q E s :=
 Attribute_any_ h (by rw[arm_eval_Attribute,hb])
end
def Iw(K:PySem.W.Frag)(ta:TE)(f:Str):TE:=fun σ H Q=>ta σ H λx H1=>∃ a C dx fs v,x=.ref a/\H1 a=some (.ins C dx fs)/\oU K C/\bP K C f/\fs.lookup f=some v/\Q v H1
def Hh(K:PySem.W.Frag)(ta tv:TE)(f:Str):TS:=λD σ H=>tv σ H λy H1=>ta σ H1 λx H2=>∃ a C dx fs,x=.ref a/\H2 a=some (.ins C dx fs)/\oU K C/\bP K C f/\fs.length<1000 ∧
 D.nx σ (upd H2 a (.ins C dx (iI f y fs)))
section
variable{o value:Expr}{f:Str}{pos' tpos:Pos}{tv:TE}
theorem DT(he:PE X e ta)(hb:attributeBase e f X.env (eval e X.env)=eval e X.env):PE X (.Attribute e f pos) (Iw X.K ta f):=by
 intro J2 s σ H Q I h;refine vY hb (b_ (he J2 s σ H _ I h) λu s1 ⟨x,H1,I1,rx,a,C,dx,fs,v,ex,ea,c,n,l,q⟩=>?_);subst ex;obtain rfl:u=NQ a:=rx;exact uN I1 ea c n l λu' s2 I2 ru=>⟨v,H1,I2,ru,q⟩
theorem DD(ha:PE X o ta)(hv:PE X value tv)(hs:swapsWith value (some (.Attribute o f pos')) pos.line X.env=pure false):PS X (.Assign [.Attribute o f pos'] value pos) (Hh X.K ta tv f):=by
 intro J2 s σ H D I h;refine QD (b_ (hv J2 s σ H _ I h) λu s1 ⟨y,H1,I1,ry,q⟩=>b_ (ha J2 s1 σ H1 _ I1 q) λov s2 ⟨x,H2,I2,rx,a,C,dx,fs,ex,ea,c,n,l,q2⟩=>?_) hs;subst ex;obtain rfl:ov=NQ a:=rx;exact uW I2 ea c n l ry λs3 I3=>⟨σ,_,I3,q2⟩
end
section
variable{c:Value}{b:Bool}
inductive iF (K:PySem.W.Frag) (H:Hp):V->Value->Prop where
 | bH:iF K H .bH (.type "NoneType")
 | bl (x:Bool):iF K H (.bl x) (.type "bool")
 | int (i:Int):iF K H (.int i) (.type "int")
 | str (x:Str):iF K H (.str x) (.type "str")
 | CI (x:UInt64):iF K H (.CI x) (.type "float")
 | lst {a:Addr} {xs:List V} (e:H a=some (.lst xs)):iF K H (.ref a) (.type "list")
 | oO {a:Addr} {o:Obj} {xs:List V} (e:H a=some (.oO o (.lst xs))):iF K H (.ref a) (.type "list")
 | tup {a:Addr} {xs:List V} (e:H a=some (.tup xs)):iF K H (.ref a) (.type "tuple")
 | dK {a:Addr} {Ky:List (Key×V)} (e:H a=some (.dK Ky)):iF K H (.ref a) (.type "dict")
 | dT {a:Addr} {Ky:List (List Key×V)} (e:H a=some (.dT Ky)):iF K H (.ref a) (.type "dict")
 | ins {a C dx:Addr} {fs:List (Str×V)} (e:H a=some (.ins C dx fs)) (cl:oU K C) (ha:PySem.W.findIn K (.ref C) "__class__" = some (some (.builtin "object.__class__")))
   (hn:PySem.W.specialIn K (.builtin "object.__class__") "__get__" = some (some (.builtin "getset_descriptor.__get__"))) (Fu:PySem.W.takesIn K (.builtin "object.__class__")=some true)
   (hm:PySem.W.mroIn K C (.type "object")=some true):iF K H (.ref a) (.ref C)
theorem pv{x:V}{t:Value}(I:Inv X J2 σ H s)(rx:RelV x u)(ty:iF X.K H x t)(e:PySem.W.kitOne X.K t c=some b)(h:∀ tk,Q (.bool b) { s with toks:=tk }) :
  wpAny (model X.prog X.w) A (call (.builtin "isinstance") [u,c]) Q E s:=by
 cases ty with
 | bH=>cases (show u=Oe from rx);exact PySem.W.kia_one PySem.W.kitx_none I.iH O6 e (λz=>nomatch z) h
 | bl y=>cases (show u=OV y from rx);exact PySem.W.kia_one PySem.W.kitx_bool I.iH O6 e (λz=>nomatch z) h
 | int i=>obtain⟨t,q⟩:=(show ∃ t,u=Rq i t from rx);cases q;exact PySem.W.kia_one PySem.W.kitx_int I.iH O6 e (λz=>nomatch z) h
 | str y=>obtain⟨t,q⟩:=(show ∃ t,u=Rr y t from rx);cases q;exact PySem.W.kia_one PySem.W.kitx_str I.iH O6 e (λz=>nomatch z) h
 | CI y=>obtain⟨t,q⟩:=(show ∃ t,u=RY y t from rx);cases q;exact PySem.W.kia_one PySem.W.kitx_float I.iH O6 e (λz=>nomatch z) h
 | @lst a xs ea =>
  cases (show u=NQ a from rx);obtain⟨_,_,n,_,h1⟩:=(show bF X.prog X.w H s.heap a (.lst xs) from I.bg a _ ea)
  exact PySem.W.kia_one PySem.W.kitx_list I.iH ⟨_,h1,rfl⟩ e (λz=>nomatch z) h
 | @oO a ob xs ea =>
  cases (show u=NQ a from rx);obtain⟨_,_,_,n,_,h1⟩:=(show bF X.prog X.w H s.heap a (.oO ob (.lst xs)) from I.bg a _ ea)
  exact PySem.W.kia_one PySem.W.kitx_list I.iH ⟨_,h1,rfl⟩ e (λz=>nomatch z) h
 | @tup a xs ea =>
  cases (show u=NQ a from rx);obtain⟨_,_,_,p⟩:=(show bF X.prog X.w H s.heap a (.tup xs) from I.bg a _ ea)
  obtain⟨o,h1,h2,_⟩:=p;exact PySem.W.kia_one PySem.W.kitx_tuple I.iH ⟨o,h1,h2⟩ e (λz=>nomatch z) h
 | @dK a Ky ea =>
  cases (show u=NQ a from rx);obtain⟨_,_,vs,_,p⟩:=(show bF X.prog X.w H s.heap a (.dK Ky) from I.bg a _ ea)
  obtain⟨o,es,ep,h1,h2,_⟩:=p;exact PySem.W.kia_one PySem.W.kitx_dict I.iH ⟨o,h1,h2.1⟩ e (λz=>nomatch z) h
 | @dT a Ky ea =>
  cases (show u=NQ a from rx);obtain⟨_,_,xs,_,o,es,ep,h1,h2,_⟩:=(show bF X.prog X.w H s.heap a (.dT Ky) from I.bg a _ ea)
  exact PySem.W.kia_one PySem.W.kitx_dict I.iH ⟨o,h1,h2.1⟩ e (λz=>nomatch z) h
 | @ins a C dx fs ea cl ha hn Fu hm =>
  cases (show u=NQ a from rx);obtain⟨mA,O,_⟩:=j8 I.bg ea;obtain⟨od,J,_⟩:=O.look;exact PySem.W.kia_one (PySem.W.kitx_own (cl.get _) cl.hd ha hn Fu hm) I.iH J e (λz=>nomatch z) h
end
structure bU (k:Nat) (A:Around):Prop where
 hd:A.handled=none
 dp:A.depth+3*k+5<recursionLimit
 un:A.units+16*k+200<cLine
theorem bU.mono{j:Nat}(r:bU k A)(h:j<=k):bU j A:=⟨r.hd,by have:=r.dp;lia,by have:=r.un;lia⟩
theorem bU.deeper{k:Nat}{A:Around}(r:bU (k+1) A)(env:Env):bU k (A.deeper env) :=
 ⟨r.hd,by have:=r.dp;show A.depth+1+3*k+5<_;lia,by have:=r.un;show A.units+3+16*k+200<_;lia⟩
theorem ur:(A.under (.builtin "type.__call__" ⟨.ref C::us,kw⟩)).depth=A.depth+1:=by
 first | rfl | simp[SA,Code.weight,Code.isCreation,Code.isGuard,Code.isCaller,Code.frames,SD,guardIds]
theorem uO:(A.under (.builtin "type.__call__" ⟨.ref C::us,kw⟩)).units=A.units+1:=by
 first | rfl | simp[SA,Code.cUnits,Code.frames,SD]
theorem bU.make(r:bU (k+1) A)(C:Addr)(us:List Value)(kw:List (Str×Value)):bU k (A.under (.builtin "type.__call__" ⟨.ref C::us,kw⟩)) :=
 ⟨r.hd,by have:=r.dp;rw[ur];lia,by have:=r.un;rw[uO];lia⟩
theorem bU.depth{k:Nat}{A:Around}(r:bU k A):A.depth<recursionLimit:=by have:=r.dp;lia
theorem bU.units{k:Nat}{A:Around}(r:bU k A):A.units+64<cLine:=by have:=r.un;lia
def Gx:TA:=λ_ H Q=>Q [] H
def Gy(ta:TE)(tr:TA):TA:=fun σ H Q=>ta σ H λx H1=>tr σ H1 λxs H2=>Q (x::xs) H2
variable{t:TA}
theorem gk:PA X [] Gx:=λ_ _ _ _ H Q I h=>Calls.spliced_nil ⟨[],H,I,.nil,h⟩
theorem bZ(ha:PE X e te)(hr:PA X es t)(hs:autoParam (starEach (e::es) X.env=(false,eval e X.env)::starEach es X.env) aR._auto_1):PA X (e::es) (Gy te t):=by
 intro pos J2 s σ H Q I h;rw[hs];show wpAny _ _ (spliced ((false,eval e X.env)::backTo pos (starEach es X.env))) _ _ s;refine Calls.spliced_cons (b_ (ha J2 s σ H _ I h) λu s1 ⟨x,H1,I1,r1,q1⟩=>?_);exact b_ (hr pos J2 s1 σ H1 _ I1 q1) λus s2 ⟨xs,H2,I2,r2,q2⟩=>⟨x::xs,H2,I2,.cons r1 r2,q2⟩
def IZ(t:TA):TE:=fun σ H Q=>t σ H λxs H1=>xs.length<=sizeLine/\∀ p,H1 p=none->Q (.ref p) (upd H1 p (.tup xs))
def Hn(t:TA):TE:=fun σ H Q=>t σ H λxs H1=>xs.length<=sizeLine/\∀ p,H1 p=none->Q (.ref p) (upd H1 p (.lst xs))
theorem qz{x1}(h:PA X es t):PE X (.Tuple es x1 pos) (IZ t):=by
 intro J2 s σ H Q I hq;refine wpAny_Tuple_spliced (b_ (h pos J2 s σ H _ I hq) λus s1 ⟨xs,H1,I1,r,z,q⟩=>⟨by rw[<- r.length];exact z,?_⟩);have hf:H1 s1.heap.objs.size=none:=I1.bg.fresh (NK _);refine⟨.ref s1.heap.objs.size,upd H1 s1.heap.objs.size (.tup xs),I1.laid (t':=s1.toks) (λb u e=>NF _ e) (NK _) ?_,rfl,q _ hf⟩;exact⟨z,us,r,⟨_,NO _ rfl,rfl,_,rfl⟩⟩
theorem yN(h:PA X es t):PE X (.List es pos) (Hn t):=by
 intro J2 s σ H Q I hq;refine wpAny_List_spliced (b_ (h pos J2 s σ H _ I hq) λus s1 ⟨xs,H1,I1,r,z,q⟩=>⟨by rw[<- r.length];exact z,?_⟩);have hf:H1 s1.heap.objs.size=none:=I1.bg.fresh (NK _);refine⟨.ref s1.heap.objs.size,upd H1 s1.heap.objs.size (.lst xs),I1.laid (t':=s1.toks) (λb u e=>NF _ e) (NK _) ?_,rfl,q _ hf⟩;exact⟨z,us,0,r,NO _ rfl⟩
abbrev Sp:=List V->Hp->VK->XK->Prop
abbrev Fv:=List Env->Hp->Shared->XK->Value->Shared->Prop
structure uL (P:Program) (w:World) (K:PySem.W.Frag) (mg:Str->Option Value) (base:Heap) (A:Around) (outer:List Env) (s:Shared) (H:Hp):Prop where
 frames:A.frames=some outer
 mod:Mod K mg base
 bs:∀ b o,base.get? b=some o->s.heap.get? b=some o/\H b=none
 xD:base.objs.size<=s.heap.objs.size
 jW:s.heap.FunFrames base outer
 Ar:∀ b∈qW outer,H b=none
 bg:kI P w H s.heap
 bare:AllBare s.gens
def CE(outer:List Env)(P:Program)(w:World)(H:Hp)(s:Shared)(Q:VK)(u:Value)(s':Shared):Prop :=
 ∃ v H',s'.os=s.os/\AllBare s'.gens/\Un (qW outer) [] H H' s.heap s'.heap/\kI P w H' s'.heap/\RelV v u/\Q v H'
def CR(CX:Fv)(outer:List Env)(P:Program)(w:World)(H:Hp)(s:Shared)(Q:VK)(E:XK)(r:Result)(s':Shared):Prop :=
 match r with
 | .ok (.ret u)=>CE outer P w H s Q u s'
 | .ok _=>False
 | .error e=>CX outer H s E e s'
structure aP (P:Program) (w:World) (K:PySem.W.Frag) (mg:Str->Option Value) (base:Heap) (CX:Fv) (k:Nat) (f:Addr) (fd:FuncData) (ps:List Str) (sp:Sp):Prop where
 len:∀ vs H Q E,sp vs H Q E->vs.length=ps.length
 run:∀ (A:Around) (outer:List Env) (s:Shared) (H:Hp) (args:Args) (us:List Value) (vs:List V) (Q:VK) (E:XK),bU k A->uL P w K mg base A outer s H->BindsTo s fd args (ps.zip us)->Vals vs us->sp vs H Q E ->
  codeAny (model P w) A (.call (.ref f) args) (CR CX outer P w H s Q E) s
variable{outer:List Env}{base:Heap}{mg:Str->Option Value}
theorem uL.make{K:PySem.W.Frag}(e:uL P w K mg base A outer s H)(C:Addr)(us:List Value)(kw:List (Str×Value)) :
  uL P w K mg base (A.under (.builtin "type.__call__" ⟨.ref C::us,kw⟩)) outer s H:=⟨by first | exact e.frames | (simpa [SA,Code.envs,SD,pushEnvs] using e.frames),e.mod,e.bs,e.xD,e.jW,e.Ar,e.bg,e.bare⟩
section
variable{s':Shared}
theorem Inv.bQ(I:Inv X J2 σ H s):uL X.prog X.w X.K X.mg X.base X.A X.stack s H :=
 ⟨I.ok.frames,I.ok.mod,I.bs,N3 I.ok.xD I.sz,I.stack,I.j3,I.bg,I.bare⟩
theorem Inv.after{Q:VK}(I:Inv X J2 σ H s)(h:CE X.stack X.prog X.w H s Q u s'):EP X J2 σ Q u s':=by
 obtain⟨v,H',os,bare,un,bg,r,q⟩:=h;obtain⟨hh,g,d,t,os'⟩:=s';obtain rfl:os'=s.os:=os;exact⟨v,H',I.call (h':=hh) (g':=g) (d':=d) (t':=t) (ch:=[]) un bg bare (λb z=>absurd z (by simp)),r,q⟩
end
def Binds(K:PySem.W.Frag)(fd:FuncData)(ps:List Str)(ds:List Value):Prop :=
 ∀ (s:Shared) (us:List Value),K.In s.heap->(us++ds).length=ps.length->BindsTo s fd ⟨us,[]⟩ (ps.zip (us++ds))
variable{ps:List Str}{fd:FuncData}
theorem Binds.all{K:PySem.W.Frag}(h:∀ us:List Value,us.length=ps.length->bindArgs fd ⟨us,[]⟩=pure (ps.zip us)):Binds K fd ps []:=λs us _ hl=>by
 rw[Oh] at hl ⊢;exact .of_eq (h us hl)
variable{CX:Fv}
section
variable{f:Addr}{sp:Sp}{Kz:List V}{ds:List Value}{E:XK}{p apos:Pos}{o:Expr}
structure Mk (K:PySem.W.Frag) (C f:Addr):Prop where
 makes:PySem.W.makesIn K C=true
 init:PySem.W.findIn K (.ref C) "__init__" = some (some (.ref f))
 fn:PySem.W.isFn K (.ref f)=true
 kp:PySem.W.keepIn K (.ref C)=true
end
section
variable{f:Addr}{ks:List Str}{sp:Sp}{E:XK}{p apos kpos:Pos}{o:Expr}{kws:List Keyword}{tk:TA}{nm:Option Str}
variable{g:List Value->List Value->List Value}{gV:List V->List V->List V}
end
structure cB (N P:List Str) (sc:Scope):Prop where
 kind:sc.kind=.function
 co:sc.isCoroutine=false
 gen:sc.isGenerator=false
 nd:N.Nodup
 pre:N.take P.length=P
 par:∀ x∈P,sc.names.lookup x=some .local\/sc.names.lookup x=some .cell
 DX:∀ y∈sc.names,y.2≠.free
theorem pq{kindOf:Str->Option NameKind}{x:Str}:∀ {binds:List (Str×Value)} {m:Str->Option Value},(∀ v,(x,v) ∉ binds)->bindL kindOf binds m x=m x
 | [],_,_=>rfl
 | (n,v)::r,m,h=>by
  unfold bindL;rw[pq λw hw=>h w (NI _ hw)]
  split
  .have:x≠n:=by rintro rfl;exact h v NJ
   simp[this]
  .rfl
theorem pb{kindOf:Str->Option NameKind}{x:Str}:∀ {binds:List (Str×Value)} {m:Str->Option Value},(∀ v,(x,v) ∉ binds)->bindC kindOf binds m x=m x
 | [],_,_=>rfl
 | (n,v)::r,m,h=>by
  unfold bindC;rw[pb λw hw=>h w (NI _ hw)]
  split
  .rfl
  .have:x≠n:=by rintro rfl;exact h v NJ
   simp[this]
theorem pJ{kindOf:Str->Option NameKind}{x:Str}{v:Value}:∀ {P:List Str} {vs:List Value} {i:Nat} {m:Str->Option Value},P.Nodup->P[i]?=some x->vs[i]?=some v->kindOf x=some .local ->
  bindL kindOf (P.zip vs) m x=some v
 | [],_,_,_,_,h,_,_=>by simp at h
 | _::_,[],_,_,_,_,h,_=>by simp at h
 | p::P,w::vs,0,m,nd,h1,h2,hk=>by
  simp at h1 h2;subst h1;subst h2;show bindL kindOf ((p,w)::P.zip vs) m p=_;unfold bindL;rw[pq λv hv=>(QM.mp nd).1 (OU hv).1,if_pos hk];simp
 | p::P,w::vs,i+1,m,nd,h1,h2,hk=>by
  show bindL kindOf ((p,w)::P.zip vs) m x=_;unfold bindL;exact pJ (i:=i) (QM.mp nd).2 (by simpa using h1) (by simpa using h2) hk
theorem ph{kindOf:Str->Option NameKind}{x:Str}{v:Value}:∀ {P:List Str} {vs:List Value} {i:Nat} {m:Str->Option Value},P.Nodup->P[i]?=some x->vs[i]?=some v->kindOf x≠some .local ->
  bindC kindOf (P.zip vs) m x=some v
 | [],_,_,_,_,h,_,_=>by simp at h
 | _::_,[],_,_,_,_,h,_=>by simp at h
 | p::P,w::vs,0,m,nd,h1,h2,hk=>by
  simp at h1 h2;subst h1;subst h2;show bindC kindOf ((p,w)::P.zip vs) m p=_;unfold bindC;rw[pb λv hv=>(QM.mp nd).1 (OU hv).1,if_neg hk];simp
 | p::P,w::vs,i+1,m,nd,h1,h2,hk=>by
  show bindC kindOf ((p,w)::P.zip vs) m x=_;unfold bindC;exact ph (i:=i) (QM.mp nd).2 (by simpa using h1) (by simpa using h2) hk
def start(N:List Str)(vs:List V):St:=vs.map some++NV (N.length-vs.length) none
def ko(CX:Fv)(P:Program)(w:World)(K:PySem.W.Frag)(mg:Str->Option Value)(base:Heap)(N:List Str)(qual:Str)(scope:Scope)(f:Addr)(cd:Value)(A:Around)(outer:List Env)(s:Shared)(H:Hp)(E:XK):Cx where
 prog:=P
 w:=w
 K:=K
 mg:=mg
 base:=base
 A:=A.deeper (envOfC qual scope s.heap.objs.size f cd)
 N:=N
 s₀:=s
 H₀:=H
 env:=envOfC qual scope s.heap.objs.size f cd
 outer:=outer
 stack:=envOfC qual scope s.heap.objs.size f cd::outer
 ex:=[]
 calm:=true
 fn:=λ_=>true
 pn:=[]
 xe:=λe s'=>wpAny (model P w) (A.deeper (envOfC qual scope s.heap.objs.size f cd)) (leaving (envOfC qual scope s.heap.objs.size f cd) e) (λ_ Mw=>CX outer H s E e Mw) (λe' Mw=>CX outer H s E e' Mw) s'
theorem rV{sc:Scope}(h:sc.names.lookup x=some .cell):∃ c,(cellsFrom n sc.names []).lookup x=some c:=by
 have q:=PySem.W.cellsFrom_some sc.names n [] (.inl h);exact PC.mp q
variable{scope:Scope}
theorem w9{K:PySem.W.Frag}{qual:Str}{f:Addr}{cd:Value}{s1:Shared}{E:XK}{vs:List V}
  (S:cB N ps scope) (hd:A.handled=none) (e0:uL P w K mg base A outer s H) (hl:vs.length=ps.length) (r:Vals vs us)
  (x:InCallC s s.heap.objs.size (bindL (envOfC qual scope s.heap.objs.size f cd).kindOf (ps.zip us) λ_=>none) (cellsFrom (s.heap.objs.size+1) scope.names []) (bindC (envOfC qual scope s.heap.objs.size f cd).kindOf (ps.zip us) λ_=>none) s1) :
  Inv (ko CX P w K mg base N qual scope f cd A outer s H E) [] (start N vs) H s1:=by
 have Kp:ps.length<=N.length:=by have:=congrArg S7 S.pre;rw[O1] at this;lia
 obtain⟨h1,tk,rfl,hk⟩:=x.done;have jq:∀ b:Addr,b ∉ (ko CX P w K mg base N qual scope f cd A outer s H E).ex:=λb z=>absurd (show b∈([]:List Addr) from z) (by simp);refine⟨⟨e0.mod,S.kind,rfl,rfl,NK _,λy z c h1 h2=>?_,λy hy=>?_,λy c _ h=>?_,λ_=>hd,Around.frames_deeper e0.frames,.inr ⟨rfl,rfl⟩,λb z=>absurd z (jq b),e0.bs,e0.xD,λb _ _=>jq b,λb z=>absurd z (jq b),e0.jW,e0.Ar⟩,
  rfl,e0.bare,Un.kept hk,⟨_,x.toInCall.ns,λi y v h1 h2 h3=>?_⟩,λy c h=>⟨_,x.cell y c h⟩,e0.bg.fresh (NK _),λy c h=>?_,λp hp=>absurd (show p∈([]:List (Addr×Obj)) from hp) (by simp),e0.bg.kept hk,?_⟩
 .exact name_of_addr x.apart (PySem.mem_of_lookup h1) (PySem.mem_of_lookup h2)
 .have hy:scope.names.lookup y=some .cell\/scope.names.lookup y=some .free:=hy;rcases hy with hy | hy
  .exact rV hy
  .exact absurd rfl (S.DX _ (PySem.mem_of_lookup hy))
 .exact Qs (x.above y c (PySem.mem_of_lookup h))
 .have hi:i<vs.length:=by
   unfold start at h2
   by_cases hi:i<vs.length
   .exact hi
   .rw[N6 (by simpa using hi)] at h2;rw[OG] at h2
    split at h2 <;> cases h2
  have ha:vs[i]?=some v:=by
   unfold start at h2;rw[Ob (by simpa using hi),NZ] at h2;cases e:vs[i]? with
   | none=>rw[e] at h2;cases h2
   | some a=>rw[e] at h2;cases h2;rfl
  obtain⟨u,hu,rv⟩:=r.get ha;have hp:ps[i]?=some y:=by
   rw[<- S.pre,List.getElem?_take_of_lt (by lia)];exact h1
  have ndP:ps.Nodup:=by rw[<- S.pre];exact S.nd.sublist (List.take_sublist _ _)
  refine⟨u,rv,?_⟩;rcases S.par y (RZ hp) with k | k
  .exact .inl ⟨k,pJ ndP hp hu k⟩
  .obtain⟨c,e⟩:=rV (n:=s.heap.objs.size+1) k;refine .inr ⟨.inl k,c,e,?_⟩;have q:=x.cell y c e;rw[ph ndP hp hu (by show scope.names.lookup y≠_;rw[k];decide)] at q;exact q
 .exact e0.bg.fresh (Qs (x.above y c (PySem.mem_of_lookup h)))
 .unfold start;show _=N.length;rw[NW,ND,RS];lia
theorem FT{K:PySem.W.Frag}{f:Addr}{name qual:Str}{params:Arguments}{dV kV doc pm Kj ct oc:Value}{an od:Option Addr}
  {Mv:Array (Option Value)} {sp:Sp} (lk:K.lookup f=some ⟨oc,od,.func (PySem.W.fnOf name qual params body scope dV kV doc pm an Kj ct),Mv⟩) (K5:PySem.W.codeIn K Kj qual=true) (S:cB N ps scope)
  (len:∀ vs H Q E,sp vs H Q E->vs.length=ps.length)
  (Mi:∀ (A:Around) (outer:List Env) (s:Shared) (H:Hp) (vs:List V) (Q:VK) (E:XK),bU k (A.deeper (envOfC qual scope s.heap.objs.size f Kj))->sp vs H Q E ->
   ∃ t,jy (ko CX P w K mg base N qual scope f Kj A outer s H E) body t/\t { nx:=λ_ H'=>Q .bH H',rt:=Q } (start N vs) H) :
  aP P w K mg base CX (k+1) f (PySem.W.fnOf name qual params body scope dV kV doc pm an Kj ct) ps sp:=by
 refine⟨len,λA outer s H args us vs Q E hr e0 hb r hsp=>?_⟩;have hl:=len _ _ _ _ hsp;have KX:K.In s.heap:=e0.mod.DH.keeps λb o e=>(e0.bs b o e).1;have lim:s.heap.NoLimit:=e0.mod.nolimit.keeps λb o e=>(e0.bs b o e).1;have Nk:∀ y∈ps.zip us,scope.names.lookup y.1=some .local\/(scope.names.lookup y.1=some .cell/\((cellsFrom (s.heap.objs.size+1) scope.names []).lookup y.1).isSome=true):=λ⟨n,v⟩ hy=>by
  rcases S.par n (OU hy).1 with q | q
  .exact .inl q
  .exact .inr ⟨q,PySem.W.cellsFrom_some _ _ _ (.inl q)⟩
 refine codeAny_call_function hr.depth (KX _ _ lk) rfl S.co S.gen rfl (PySem.W.codeRec_of KX K5) (hb _ _ _ _ ?_);refine wpAny_newFunctionEnv_cells S.kind Nk λenv he s1 x=>?_;subst he;refine⟨lim.keeps x.toInCall.keep,codeAny_func ?_⟩;obtain⟨t,ht,hq⟩:=Mi A outer s H vs Q E (hr.deeper _) hsp;have I:Inv (ko CX P w K mg base N qual scope f Kj A outer s H E) [] (start N vs) H s1:=w9 S hr.hd e0 hl r x;refine N8 (ht [] s1 (start N vs) H _ I hq) (λfl s' hs=>?_) λe s' hs=>hs;have fin:∀ {σ':St} {H':Hp} {v:V} {u:Value},Inv (ko CX P w K mg base N qual scope f Kj A outer s H E) [] σ' H' s'->RelV v u->Q v H'->CE outer P w H s Q u s' :=
  λ{σ' H' v u} J rv q=>⟨v,H',J.os,J.bare,J.base,J.bg,rv,q⟩
 cases fl with
 | ret u =>
  obtain⟨v,σ',H',J,rv,q⟩:=hs;exact fin J rv q
 | next =>
  obtain⟨σ',H',J,q⟩:=hs;exact fin (v:=V.bH) (u:=Oe) J rfl q
 | brk =>
  obtain⟨_,_,_,q⟩:=hs;exact OX q
 | cont =>
  obtain⟨_,_,_,q⟩:=hs;exact OX q
section
variable{p:Pos}{id T:String}{r:List V->Hp->VK->Prop}
def Ip(r:List V->Hp->VK->Prop)(t:TA):TE:=fun σ H Q=>t σ H λvs H1=>r vs H1 Q
theorem kj(hc:cO X (.builtin id) r)(hg:Gl X x)(hm:X.mg x=none)(hv:bootBuiltins x=some (.builtin id))(ha:PA X (e::es) t)(hn:autoParam (x ≠ "__name__") aD._auto_1)(KP:autoParam ((x==("__debug__" : Str))=false) aD._auto_1)
  (he:autoParam (starEach (e::es) X.env=(false,eval e X.env)::starEach es X.env) aR._auto_1) (Kp:autoParam ((backTo pos (starEach es X.env)).any (·.1)=false) aR._auto_1):PE X (.Call (.Name x p) (e::es) [] pos) (Ip r t):=by
 intro J2 s σ H Q I h;refine Pd (kR I hg hm hv ?_ hn KP);exact PyProof.Rows.callWith_builtin1 (b_ (ha pos J2 s σ H _ I h) λus s1 ⟨vs,H1,I1,r1,q1⟩=>hc J2 s1 σ H1 vs us Q I1 r1 q1) he Kp
theorem xC(hc:cO X (.type T) r)(hg:Gl X x)(hm:X.mg x=none)(hv:bootBuiltins x=some (.type T))(ha:PA X (e::es) t)(hn:autoParam (x ≠ "__name__") aD._auto_1)(KP:autoParam ((x==("__debug__" : Str))=false) aD._auto_1)
  (he:autoParam (starEach (e::es) X.env=(false,eval e X.env)::starEach es X.env) aR._auto_1) (Kp:autoParam ((backTo pos (starEach es X.env)).any (·.1)=false) aR._auto_1):PE X (.Call (.Name x p) (e::es) [] pos) (Ip r t):=by
 intro J2 s σ H Q I h;refine Pd (kR I hg hm hv ?_ hn KP);exact O7 (b_ (ha pos J2 s σ H _ I h) λus s1 ⟨vs,H1,I1,r1,q1⟩=>hc J2 s1 σ H1 vs us Q I1 r1 q1) he Kp
end
end L2
namespace HT
open PySem PyProof.Rows
section
open PySem.SeqAt
open PySem.AutoSeq1 (wpAny_loadPart')
open PySem.MeetsSeq PySem.MeetsSeq2 PySem.MeetsSeq3
end
variable{Q:Value->Shared->Prop}
section
variable{prog:Program}{w:World}{A:Around}{E:Value->Shared->Prop}{s:Shared}
theorem AG{t b:Addr}{vs ws:List Value}(ht:IsTup s.heap t vs.toArray)(hb:IsTup s.heap b ws.toArray)(hv:vs≠[])
  (h1:ws=[]->Q (.ref t) s) (h2:ws≠[]->Q (.ref s.heap.objs.size) { s with heap:=s.heap.push { cls:=.type "tuple", data:=.seq (vs++ws).toArray } })
  (Lh:vs.length+ws.length<=sizeLine):wpAny (model prog w) A (binaryOp .Add (.ref t) (.ref b)) Q E s:=by
 obtain⟨⟨cls,dd,data,sl⟩,ho,hc,n,hd⟩:=id ht;obtain⟨⟨cls2,M5,data2,sl2⟩,L9,Nc,n2,hd2⟩:=id hb;simp only at hc hd Nc hd2;subst hc hd Nc hd2;have e:vs.toArray++ws.toArray=(vs++ws).toArray:=by simp
 by_cases hw:ws=[]
 .exact SE ⟨_,ho,rfl⟩ ⟨_,L9,rfl⟩ Rt Sj PySem.F.slot_tuple_add PySem.F.entry_tuple_add (PySem.F.args_tuple_add_2 _ _)
   (tuple_addW1 t b vs.toArray ws.toArray n n2 dd M5 sl sl2 (by simpa using hv) (by simp[hw])) ⟨ho,L9,h1 hw⟩
 .refine SE ⟨_,ho,rfl⟩ ⟨_,L9,rfl⟩ Rt Sj PySem.F.slot_tuple_add PySem.F.entry_tuple_add (PySem.F.args_tuple_add_2 _ _)
   (tuple_addW2 t b vs.toArray ws.toArray n n2 dd M5 sl sl2 (by simpa using hv) (by simpa using hw) (by rw[NT,NT];exact Lh)) ⟨ho,L9,?_⟩
  rw[e];exact h2 hw
def dc(n d:Nat):Option Int->Nat
 | none=>d
 | some v=>if v<0 then (v+(n:Int)).toNat else min v.toNat n
theorem mF(n d:Nat):dc n d none=d:=rfl
theorem j9(n d k:Nat):dc n d (some (k:Int))=min k n:=by
 show (if (k:Int)<0 then ((k:Int)+(n:Int)).toNat else min (k:Int).toNat n)=min k n;rw[if_neg (by lia),Og]
theorem CY(n d:Nat)(hd:d<=n)(o:Option Int):dc n d o<=n:=by
 cases o with
 | none=>exact hd
 | some v =>
  show (if v<0 then (v+(n:Int)).toNat else min v.toNat n)<=n
  by_cases hv:v<0
  .rw[if_pos hv];lia
  .rw[if_neg hv];exact SQ _ _
theorem vG(v:Int)(n d:Nat):(if v<0 then max (v+(n:Int)) 0 else min v (n:Int))=((dc n d (some v):Nat):Int):=by
 show (if v<0 then max (v+(n:Int)) 0 else min v (n:Int))=(((if v<0 then (v+(n:Int)).toNat else min v.toNat n):Nat):Int)
 by_cases hv:v<0
 .simp only[if_pos hv];lia
 .simp only[if_neg hv];lia
theorem t9(lo hi:Option Int)(n:Nat):P_ lo hi 1 (n:Int)=(((dc n 0 lo:Nat):Int),((dc n n hi:Nat):Int)):=by
 have h1:¬ ((1:Int)<0):=by lia
 unfold P_;simp only[h1,if_false];refine Prod.ext ?_ ?_
 .cases lo with
  | none=>rfl
  | some v=>exact vG v n 0
 .cases hi with
  | none=>rfl
  | some v=>exact vG v n n
theorem tJ(i j:Nat):Pp (i:Int) (j:Int) 1=j-i:=by
 unfold Pp;have h1:(1:Int)>0:=by lia
 simp only[h1,if_true,Int.ediv_one]
 split <;> lia
theorem mY{v:Value}{o:Option Int}{Q:Option Int->Shared->Prop}(p:IsPart v o)(h:Q o s):wpAny (model prog w) A (Builtin.Slice.slicePartIndex v) Q E s:=by
 cases p with
 | none=>exact slicePart_none h
 | int i t=>exact slicePart_int h
theorem gZ{sl:Addr}{vl vu:Value}{lo hi:Option Int}{n:Nat}{Q:Int×Int×Nat->Shared->Prop}(hs:s.heap.IsSliceOf sl vl vu .none)(pl:IsPart vl lo)(pu:IsPart vu hi)
  (h:Q (((dc n 0 lo:Nat):Int),1,dc n n hi-dc n 0 lo) s):wpAny (model prog w) A (Q5 (.ref sl) (pure (n:Int))) Q E s:=by
 obtain⟨os,ML,Mx,MI⟩:=id hs;unfold Q5 Builtin.Slice.sliceFields;refine NB (NB (N_ ML MI (x:=vl) rfl (NB (N_ ML MI (x:=vu) rfl (NB (N_ ML MI (x:=.none) rfl (NH ?_)))))));refine NB (slicePart_none ?_);show wpAny _ _ (if ((1:Int)==0)=true then _ else _) _ _ s;rw[if_neg (by decide)];refine NB (mY pl (NB (mY pu (NB (NH ?_)))));show wpAny _ _ (match P_ lo hi 1 (n:Int) with | (lo,hi)=>pure (lo,(1:Int),Pp lo hi 1)) _ _ s;rw[t9 lo hi n];show wpAny _ _ (pure (((dc n 0 lo:Nat):Int),(1:Int),Pp ((dc n 0 lo:Nat):Int) ((dc n n hi:Nat):Int) 1)) _ _ s;rw[tJ];exact NH h
theorem z_(xs:Array Value)(i k:Nat):((N2 k).filterMap λ(m:Nat)=>xs[((i:Int)+(m:Int)*1).toNat]?).toArray=((xs.toList.drop i).take k).toArray:=by
 have e:(λ(m:Nat)=>xs[((i:Int)+(m:Int)*1).toNat]?)=λm=>xs[i+m]?:=by
  funext m
  have:((i:Int)+(m:Int)*1).toNat=i+m:=by lia
  rw[this]
 rw[e];have:=pick_run xs i k;rw[List.filterMap_map] at this;have e2:((λx=>xs[x]?)∘λx=>i+x)=λm=>xs[i+m]?:=rfl;rw[e2] at this;rw[this]
theorem kr{t sl:Addr}{J3:Array Value}{vl vu:Value}{lo hi:Option Int}(ht:IsTup s.heap t J3)(hs:s.heap.IsSliceOf sl vl vu .none)(pl:IsPart vl lo)(pu:IsPart vu hi)
  (hw:¬ (dc J3.size 0 lo=0/\dc J3.size J3.size hi=J3.size))
  (h:Q (.ref s.heap.objs.size) { s with heap:=s.heap.push { cls:=.type "tuple", data:=.seq ((J3.toList.drop (dc J3.size 0 lo)).take (dc J3.size J3.size hi-dc J3.size 0 lo)).toArray } })
  (Lh:J3.size<=sizeLine):wpAny (model prog w) A (getItem (.ref t) (.ref sl)) Q E s:=by
 have L4:sizeOk (.seq ((J3.toList.drop (dc J3.size 0 lo)).take (dc J3.size J3.size hi-dc J3.size 0 lo)).toArray):=by
  show ((J3.toList.drop (dc J3.size 0 lo)).take (dc J3.size J3.size hi-dc J3.size 0 lo)).toArray.size<=sizeLine;rw[NT,O1,PK,Qa];lia
 have hj:dc J3.size J3.size hi<=J3.size:=CY _ _ (NK _) hi;obtain⟨os,ML,Mx,MI⟩:=id hs;have hTs:s.TypeIs (.ref sl) "slice" := ⟨os,ML,Mx⟩
 unfold getItem
 try with_reducible refine Ou ?_
 first | refine NB (NH ?_) | skip
 refine NB (SG ht.typeIs (by decide) ?_);refine NB (OH (name:=NC "__getitem__") ht.typeIs Ov
  (Pb Ov ht.typeIs Sa ?_ (Sn _ _)))
 show wpAny _ _ (Q6 (.ref t) >>= _) _ _ s;refine NB (tupleItemsOf_ ht ?_);refine NB (SH hTs ?_);rw[if_pos (by decide)];refine NB (gZ hs pl pu ?_);have hno:¬ ((((dc J3.size 0 lo:Nat):Int)==0&&(1:Int)==1&&(dc J3.size J3.size hi-dc J3.size 0 lo)==J3.size)=true):=by
  intro q;rw[Oz,Oz] at q;have q1:((dc J3.size 0 lo:Nat):Int)=0:=eq_of_beq q.1.1;have q2:dc J3.size J3.size hi-dc J3.size 0 lo=J3.size:=eq_of_beq q.2;exact hw ⟨by lia,by lia⟩
 show wpAny _ _ (if (((dc J3.size 0 lo:Nat):Int)==0&&(1:Int)==1&&(dc J3.size J3.size hi-dc J3.size 0 lo)==J3.size)=true then _ else _) _ _ s;rw[if_neg hno,z_]
 first
  | exact NB (m:=PD _) (OR (NH ⟨_,rfl,NH h⟩) L4)
  | exact NB (m:=PD _) (OR (NB (NH (NH ⟨_,rfl,NH h⟩))) L4)
  | exact NB (NB (m:=PD _) (OR (NH (NH ⟨_,rfl,NH h⟩)) L4))
  | exact NB (NB (m:=PD _) (OR (NH ⟨_,rfl,NH h⟩) L4))
end
end HT
namespace L2
open PySem PySem.Spec PyProof.Rows
abbrev TO:=St->Hp->(Option Int->Hp->Prop)->Prop
def PO(X:Cx)(e:Option Expr)(t:TO):Prop :=
 ∀ (J2:List (Addr×Obj)) (s:Shared) (σ:St) (H:Hp) (Q:Option Int->Hp->Prop),Inv X J2 σ H s->t σ H Q ->
  wpAny (model X.prog X.w) X.A (evalPart e X.env) (λu s'=>∃ o H',Inv X J2 σ H' s'/\IsPart u o/\Q o H') X.xe s
def A5:TO:=λ_ H Q=>Q none H
def GW(t:TE):TO:=fun σ H Q=>t σ H λx H1=>∃ i,x=.int i/\Q (some i) H1
variable{pos:Pos}{e:Expr}{X:Cx}
variable{r:V->Option Int->Option Int->Hp->VK->Prop}
variable{xs:List V}
section
variable{te:TE}{lo hi:Option Expr}{tl th:TO}{p2:Pos}
theorem AE:PO X none A5:=by
 intro J2 s σ H Q I h;rw[evalPart_none];exact NH ⟨none,H,I,.none,h⟩
theorem BR(h:PE X e te):PO X (some e) (GW te):=by
 intro J2 s σ H Q I hw;rw[evalPart_some];refine b_ (h J2 s σ H _ I hw) λu s1 ⟨x,H1,I1,r1,q1⟩=>?_;obtain⟨i,rfl,q⟩:=q1;obtain⟨t,rfl⟩:=r1;exact⟨some i,H1,I1,.int i t,q⟩
def Ae(X:Cx)(r:V->Option Int->Option Int->Hp->VK->Prop):Prop :=
 ∀ (J2:List (Addr×Obj)) (s:Shared) (σ:St) (H:Hp) (x:V) (v vl vu:Value) (lo hi:Option Int) (sl:Addr) (Q:VK),Inv X J2 σ H s->RelV x v->s.heap.IsSliceOf sl vl vu .none->IsPart vl lo->IsPart vu hi->r x lo hi H Q ->
  ∃ T id,typeLookup (.type T) "__getitem__" = pure (some (.builtin id))/\s.TypeIs v T/\wpAny (model X.prog X.w) X.A (getItem v (.ref sl)) (EP X J2 σ Q) X.xe s
theorem Ae.or{r':V->Option Int->Option Int->Hp->VK->Prop}(h:Ae X r)(h':Ae X r'):Ae X (λx lo hi H Q=>r x lo hi H Q\/r' x lo hi H Q):=by
 intro J2 s σ H x v vl vu lo hi sl Q I rx hs pl pu q;rcases q with q | q
 .exact h J2 s σ H x v vl vu lo hi sl Q I rx hs pl pu q
 .exact h' J2 s σ H x v vl vu lo hi sl Q I rx hs pl pu q
def JN(r:V->Option Int->Option Int->Hp->VK->Prop)(te:TE)(tl th:TO):TE:=fun σ H Q=>te σ H λx H1=>tl σ H1 λl H2=>th σ H2 λu H3=>r x l u H3 Q
theorem rT(hr:Ae X r)(he:PE X e te)(hl:PO X lo tl)(hu:PO X hi th):PE X (.Subscript e (.Slice lo hi none p2) pos) (JN r te tl th):=by
 intro J2 s σ H Q I h;refine Subscript_ (b_ (he J2 s σ H _ I h) λv s1 ⟨x,H1,I1,r1,q1⟩=>?_);refine wpAny_Slice (b_ (hl J2 s1 σ H1 _ I1 q1) λvl s2 ⟨l,H2,I2,pl,q2⟩=>b_ (hu J2 s2 σ H2 _ I2 q2) λvu s3 ⟨u,H3,I3,pu,q3⟩=>?_);rw[evalPart_none];refine NH ?_;have I4:Inv X J2 σ H3 { s3 with heap:=s3.heap.push { cls:=.type "slice", data:=.fields #[vl,vu,.none] } }:=I3.kept (t':=s3.toks) λb ob q=>NF _ q;obtain⟨T,id,hT,ht,hg⟩:=hr J2 { s3 with heap:=s3.heap.push { cls:=.type "slice", data:=.fields #[vl,vu,.none] } } σ H3 x v vl vu l u s3.heap.objs.size Q I4 r1 (TX ..) pl pu q3;show wpAny (model X.prog X.w) X.A (subscriptTail e (.Slice lo hi none p2) v (.ref s3.heap.objs.size)) (EP X J2 σ Q) X.xe { s3 with heap:=s3.heap.push { cls:=.type "slice", data:=.fields #[vl,vu,.none] } };exact tail_any (ops:=[.ref s3.heap.objs.size,v]) ht hT hg (by with_unfolding_all rfl)
def sL(xs:List V)(lo hi:Option Int):List V:=(xs.drop (HT.dc xs.length 0 lo)).take (HT.dc xs.length xs.length hi-HT.dc xs.length 0 lo)
theorem lK(xs:List V)(lo hi:Option Int):(sL xs lo hi).length<=xs.length:=by
 unfold sL;rw[O1,PK];lia
def Hg(K:PySem.W.Frag):V->Option Int->Option Int->Hp->VK->Prop:=λx lo hi H Q=>∃ a xs,x=.ref a/\gx K H a xs ∧
 ¬ (HT.dc xs.length 0 lo=0/\HT.dc xs.length xs.length hi=xs.length)/\∀ p,H p=none->Q (.ref p) (upd H p (.tup (sL xs lo hi)))
theorem EK:Ae X (Hg X.K):=by
 intro J2 s σ H x v vl vu lo hi sl Q I rx hs pl pu h;obtain⟨a,xs,rfl,hx,hw,q⟩:=h;cases rx;obtain⟨J6,r,ht,hz⟩:=I.tuple hx;have hlen:J6.toArray.size=xs.length:=by rw[NT];exact r.length.symm
 refine⟨"tuple", _,Ov.lookup,ht.typeIs,?_⟩;refine HT.kr ht hs pl pu (by rw[hlen];exact hw) ?_ (by rw[hlen];exact hz);rw[hlen];refine⟨.ref s.heap.objs.size,_,I.laid (t':=s.toks) (o:=.tup (sL xs lo hi)) (λb ob q=>NF _ q) (NK _) ?_,rfl,q _ (I.bg.fresh (NK _))⟩;exact⟨N3 (lK xs lo hi) hz,_,(r.drop (HT.dc xs.length 0 lo)).take (HT.dc xs.length xs.length hi-HT.dc xs.length 0 lo),SS _ _⟩
def Cd(K:PySem.W.Frag):R2:=λx y H Q=>∃ a b xs ys,x=.ref a/\y=.ref b/\gx K H a xs/\gx K H b ys/\xs≠[]/\xs.length+ys.length<=sizeLine ∧
 (ys=[]->Q (.ref a) H)/\(ys≠[]->∀ p,H p=none->Q (.ref p) (upd H p (.tup (xs++ys))))
theorem Vals.kC{us:List Value}(r:Vals xs us):us=[] ↔ xs=[]:=by
 cases r with
 | nil=>simp
 | cons _ _=>simp
theorem A8:fF X (binaryOp .Add) (Cd X.K):=by
 intro J2 s σ H x y v u Q I rx ry h;obtain⟨a,b,xs,ys,rfl,rfl,ha,hb,hx,hz,q1,q2⟩:=h;cases rx;cases ry;obtain⟨J6,r1,p1,_⟩:=I.tuple ha;obtain⟨LU,r2,p2,_⟩:=I.tuple hb;refine HT.AG p1 p2 (λz=>hx (r1.kC.mp z)) (λz=>⟨.ref a,H,I,rfl,q1 (r2.kC.mp z)⟩) (λz=>?_) (by rw[<- r1.length,<- r2.length];exact hz);refine⟨.ref s.heap.objs.size,_,I.laid (t':=s.toks) (o:=.tup (xs++ys)) (λb ob q=>NF _ q) (NK _) ?_,rfl,q2 (λw=>z (r2.kC.mpr w)) _ (I.bg.fresh (NK _))⟩;exact⟨by rw[NW];exact hz,_,r1.append r2,SS _ _⟩
end
def qV(n:Nat)(i:Int):Option Nat:=if 0<=i then (if i<n then some i.toNat else none) else if -(n:Int)<=i then some (i+n).toNat else none
variable{α:Type}
def nZ(xs:List α)(i:Int):Option α:=(qV xs.length i).bind λj=>xs[j]?
variable{j n:Nat}{i:Int}
theorem u3(h:qV n i=some j):seqIndex? i n=some j/\j<n/\-(n:Int)<=i/\i<n:=by
 unfold qV at h
 by_cases h0:0<=i
 .rw[if_pos h0] at h
  by_cases h1:i<n
  .rw[if_pos h1] at h;have e:i.toNat=j:=NX h;exact⟨by rw[S8 h0 h1,e],by lia,by lia,h1⟩
  .rw[if_neg h1] at h;cases h
 .rw[if_neg h0] at h
  by_cases h1:-(n:Int)<=i
  .rw[if_pos h1] at h;have e:(i+n).toNat=j:=NX h;exact⟨by rw[SI (by lia) h1,e],by lia,h1,by lia⟩
  .rw[if_neg h1] at h;cases h
theorem qH{xs:List α}{v:α}(h:nZ xs i=some v):∃ j,seqIndex? i xs.length=some j/\xs[j]?=some v/\j<xs.length/\-(xs.length:Int)<=i/\i<xs.length:=by
 unfold nZ at h;cases e:qV xs.length i with
 | none=>rw[e] at h;cases h
 | some j =>
  rw[e] at h;obtain⟨h1,h2,h3,h4⟩:=u3 e;exact⟨j,h1,h,h2,h3,h4⟩
theorem qh{xs:List α}{v:α}(h:xs[j]?=some v):nZ xs (j:Int)=some v:=by
 have hj:j<xs.length:=(ON.mp h).1;have e:qV xs.length (j:Int)=some j:=by
  unfold qV;rw[if_pos (by lia),if_pos (by lia)];simp
 unfold nZ;rw[e];exact h
def qL(b:Expr):Prop:=∀ o i,subscripted b false o i=operate [o,i] (getItem o i)
def Bs(X:Cx)(r:R2):Prop :=
 ∀ (value slice:Expr) (J2:List (Addr×Obj)) (s:Shared) (σ:St) (H:Hp) (x y:V) (v u:Value) (Q:VK),Inv X J2 σ H s->RelV x v->RelV y u->r x y H Q ->
  subscripted slice false v u=operate [v,u] (getItem v u)->wpAny (model X.prog X.w) X.A (subscriptTail value slice v u) (EP X J2 σ Q) X.xe s
def C5(X:Cx)(id:String)(r:V->List V->Hp->VK->Prop):Prop :=
 ∀ (J2:List (Addr×Obj)) (s:Shared) (σ:St) (H:Hp) (x:V) (xs:List V) (v:Value) (us:List Value) (Q:VK),Inv X J2 σ H s->RelV x v->Vals xs us->r x xs H Q ->
  wpAny (model X.prog X.w) X.A (call (.builtin id) (v::us)) (EP X J2 σ Q) X.xe s
variable{J6:List Value}{s:Shared}{H:Hp}{σ:St}{J2:List (Addr×Obj)}
section
variable{a b:Expr}{ta tb:TE}
theorem Bs.or{r r':R2}(h:Bs X r)(h':Bs X r'):Bs X (λx y H Q=>r x y H Q\/r' x y H Q):=by
 intro value slice J2 s σ H x y v u Q I rx ry q hs;rcases q with q | q
 .exact h value slice J2 s σ H x y v u Q I rx ry q hs
 .exact h' value slice J2 s σ H x y v u Q I rx ry q hs
theorem FV{r:R2}(hr:Bs X r)(ha:PE X a ta)(hb:PE X b tb)(hs:qL b):PE X (.Subscript a b pos) (GX r ta tb):=by
 intro J2 s σ H Q I h;exact Subscript_ (D7 ha hb I h λv u s2 x y H2 I2 rx ry q=>hr a b J2 s2 σ H2 x y v u Q I2 rx ry q (hs _ _))
def Ge(K:PySem.W.Frag):R2:=λx y H Q=>∃ p xs i v,x=.ref p/\y=.int i/\gK K H p xs/\nZ xs i=some v/\Q v H
def GL(K:PySem.W.Frag):R2:=λx y H Q=>∃ p xs i v,x=.ref p/\y=.int i/\gx K H p xs/\nZ xs i=some v/\Q v H
def FJ:R2:=λx y H Q=>∃ z i c,x=.str z/\y=.int i/\z.length<=sizeLine/\nZ z.cps.toList i=some c/\Q (.str ⟨#[c]⟩) H
theorem A_:Bs X (Ge X.K):=by
 intro value slice J2 s σ H x y v u Q I rx ry h hs;obtain⟨p,xs,i,z,rfl,rfl,hq,he,q⟩:=h;cases rx;obtain⟨t,rfl⟩:=ry;obtain⟨J6,r,pl,hz⟩:=I.list hq;obtain⟨j,h1,h2,h3,h4,h5⟩:=qH he;obtain⟨w,ew,LW⟩:=r.get h2;have hl:=r.length;have hn:=lF;have fin:EP X J2 σ Q w s:=⟨z,H,I,LW,q⟩
 by_cases h0:0<=i
 .have hj:i.toNat=j:=by
   rw[S8 h0 h5] at h1;exact NX h1
  exact item_listR pl.isList h0 (by lia) (by rw[hj];simpa using ew) fin hs
 .have hj:(i+(J6.toArray.size:Int)).toNat=j:=by
   rw[SI (by lia) h4] at h1;rw[NT,<- hl];exact NX h1
  exact RB (x:=w) pl.isList.typeIs SJ.lookup
   (wpAny_getItem_list_neg (Q:=λr s'=>r=w/\EP X J2 σ Q r s') pl.isList (by lia) (by rw[NT] <;> lia) (by lia) (by rw[hj];simpa using ew) ⟨rfl,fin⟩) hs
theorem Dn:Bs X (GL X.K):=by
 intro value slice J2 s σ H x y v u Q I rx ry h hs;obtain⟨p,xs,i,z,rfl,rfl,hq,he,q⟩:=h;cases rx;obtain⟨t,rfl⟩:=ry;obtain⟨J6,r,pl,hz⟩:=I.tuple hq;obtain⟨j,h1,h2,h3,h4,h5⟩:=qH he;obtain⟨w,ew,LW⟩:=r.get h2;have hl:=r.length;have hn:=lF;have fin:EP X J2 σ Q w s:=⟨z,H,I,LW,q⟩
 exact RB (x:=w) pl.typeIs slot_tuple_getitem.lookup
  (getItem_tuple (j:=j) (Q:=λr s'=>r=w/\EP X J2 σ Q r s') pl (by lia) (by lia) (by rw[NT,<- hl];exact h1) (by simpa using ew) ⟨rfl,fin⟩) hs
theorem Fi:Bs X FJ:=by
 intro value slice J2 s σ H x y v u Q I rx ry h hs;obtain⟨z,i,c,rfl,rfl,hz,he,q⟩:=h;obtain⟨t,rfl⟩:=rx;obtain⟨t',rfl⟩:=ry;obtain⟨j,h1,h2,h3,h4,h5⟩:=qH he;have hl:z.cps.toList.length=z.length:=by simp[Th]
 rw[hl] at h1 h4 h5;have hn:=lF;exact tail_any (Qn s z t) slot_str_getitem.lookup (getItem_str (c:=c) (by
  have e1:decide (i < -(2^63:Int))=false:=decide_eq_false (by lia);have e2:decide (i>=2^63)=false:=decide_eq_false (by lia);rw[e1,e2,Bool.or_false]) (by rw[h1];simpa using h2) ⟨.str ⟨#[c]⟩,H,I.tok _,⟨_,rfl⟩,q⟩) hs
def Jw(K:PySem.W.Frag):R2:=λx y H Q=>Ge K x y H Q\/GL K x y H Q\/FJ x y H Q
theorem Dq:Bs X (Jw X.K):=A_.or (Dn.or Fi)
theorem tU(J6:List Value)(n j:Nat)(u:Value):RC (·.setIfInBounds j u) { cls:=.type "list", data:=.seq J6.toArray n }={ cls:=.type "list", data:=.seq (J6.set j u).toArray n }:=by
 simp[RC]
theorem Inv.lst{J2:List (Addr×Obj)}{σ:St}{H:Hp}{s:Shared}{p:Addr}{xs:List V}(I:Inv X J2 σ H s)(h:H p=some (.lst xs)) :
  ∃ (J6:List Value) (n:Nat),Vals xs J6/\s.heap.get? p=some { cls:=.type "list", data:=.seq J6.toArray n }/\xs.length<=sizeLine:=by
 obtain⟨z,J6,n,r,e⟩:=I.bg p _ h;exact⟨J6,n,r,e,z⟩
theorem Inv.E1{p:Addr}{ys:List V}{its':List Value}{n':Nat}{f:Obj->Obj}(I:Inv X J2 σ H s)(h:H p=some (.lst xs))
  (ho:s.heap.get? p=some { cls:=.type "list", data:=.seq J6.toArray n }) (hf:f { cls:=.type "list", data:=.seq J6.toArray n }={ cls:=.type "list", data:=.seq its'.toArray n' }) (r:Vals ys its') (hz:ys.length<=sizeLine) (t:Nat) :
  Inv X J2 σ (upd H p (.lst ys)) { s with heap:=s.heap.update p f,toks:=t }:=by
 have e:(s.heap.update p f).get? p=some { cls:=.type "list", data:=.seq its'.toArray n' }:=by
  rw[O0 f ho (by rw[hf] <;> rfl),hf]
 refine I.write (x:=p) (e:=p) (by rw[h];trivial) (.inl rfl) (λb u hb q=>(OD _ _ (O4 hb)).trans q) ⟨_,e⟩ ?_;exact⟨hz,its',n',r,e⟩
def GC:V->V->V->Hp->(Hp->Prop)->Prop:=λo i v H Q=>∃ p xs k j,o=.ref p/\i=.int k/\H p=some (.lst xs)/\qV xs.length k=some j/\Q (upd H p (.lst (xs.set j v)))
theorem set_list:Gw X GC:=by
 intro J2 s σ H o i v ov iv u Q I ro ri rv h;obtain⟨p,xs,k,j,rfl,rfl,hp,hj,q⟩:=h;cases ro;obtain⟨t,rfl⟩:=ri;obtain⟨J6,n,r,ho,hz⟩:=I.lst hp;obtain⟨h1,h2,h3,h4⟩:=u3 hj;have hl:=r.length;have hn:=lF;have I':Inv X J2 σ (upd H p (.lst (xs.set j v))) { s with heap:=s.heap.update p (RC (·.setIfInBounds j u)) } :=
  I.E1 hp ho (tU J6 n j u) (r.set rv j) (by rw[OJ];exact hz) s.toks
 by_cases h0:0<=k
 .have hk:k.toNat=j:=by
   rw[S8 h0 h4] at h1;exact NX h1
  exact PySem.W.ki_setAt ho h0 (by lia) (by rw[NT,<- hl];exact h4) (by rw[hk];exact⟨_,I',q⟩)
 .have hk:(k+(J6.toArray.size:Int)).toNat=j:=by
   rw[SI (by lia) h3] at h1;rw[NT,<- hl];exact NX h1
  exact PySem.W.ki_setBack ho (by lia) (by rw[NT,<- hl];exact h3) (by lia) (by rw[hk];exact⟨_,I',q⟩)
theorem pS(lo hi:Option Int)(n:Nat):(sliceBounds lo hi none n).1=((HT.dc n 0 lo:Nat):Int)/\(sliceBounds lo hi none n).2.1=((HT.dc n n hi:Nat):Int)/\(sliceBounds lo hi none n).2.2=1:=by
 refine⟨?_,?_,rfl⟩
 .cases lo with
  | none=>simp[sliceBounds,HT.dc]
  | some i =>
   simp only[sliceBounds,HT.dc,SW,show (1:Int)>0 by decide,if_true]
   by_cases h:i<0
   .simp only[h,if_true] <;> lia
   .simp only[h,if_false] <;> lia
 .cases hi with
  | none=>simp[sliceBounds,HT.dc]
  | some i =>
   simp only[sliceBounds,HT.dc,SW,show (1:Int)>0 by decide,if_true]
   by_cases h:i<0
   .simp only[h,if_true] <;> lia
   .simp only[h,if_false] <;> lia
theorem n5(J6:List Value)(lo hi:Option Int):slicePick J6.toArray lo hi none=((J6.drop (HT.dc J6.length 0 lo)).take (HT.dc J6.length J6.length hi-HT.dc J6.length 0 lo)).toArray:=by
 obtain⟨h1,h2,h3⟩:=pS lo hi J6.toArray.size;unfold slicePick;rw[h1,h2,h3];simp only[sliceRange_one,pick_run,NT] <;> rfl
def Ij(K:PySem.W.Frag):V->Option Int->Option Int->Hp->VK->Prop:=λx lo hi H Q=>∃ a xs,x=.ref a/\gK K H a xs/\∀ p,H p=none->Q (.ref p) (upd H p (.lst (sL xs lo hi)))
theorem AQ:Ae X (Ij X.K):=by
 intro J2 s σ H x v vl vu lo hi sl Q I rx hs pl pu h;obtain⟨a,xs,rfl,hx,q⟩:=h;cases rx;obtain⟨J6,r,ht,hz⟩:=I.list hx;have hlen:=r.length;refine⟨"list", _,SJ.lookup,ht.isList.typeIs,?_⟩;refine wpAny_getItem_list_slice ht.isList hs pl pu .none (by simp) ?_ (by rw[NT] <;> lia);rw[n5,<- hlen];refine⟨.ref s.heap.objs.size,_,I.laid (t':=s.toks) (o:=.lst (sL xs lo hi)) (λb ob q=>NF _ q) (NK _) ?_,rfl,q _ (I.bg.fresh (NK _))⟩;exact⟨N3 (lK xs lo hi) hz,_,0,(r.drop (HT.dc xs.length 0 lo)).take (HT.dc xs.length xs.length hi-HT.dc xs.length 0 lo),NO _ rfl⟩
theorem qE:fF X (compareOp .NotIn) (λx y H Q=>∃ i j,x=.str i/\y=.str j/\Q (.bl (!(!(Oa j i 0 j.length 1).isEmpty))) H):=by
 intro J2 s σ H x y v u Q I rx ry h;obtain⟨i,j,rfl,rfl,q⟩:=h;obtain⟨t,rfl⟩:=rx;obtain⟨t',rfl⟩:=ry;exact notIn_str ⟨.bl _,H,I,rfl,q⟩
theorem qT:cO X (.builtin "len") (λxs H Q=>∃ p ys,xs=[.ref p]/\(gK X.K H p ys\/gx X.K H p ys)/\Q (.int ys.length) H):=by
 intro J2 s σ H xs us Q I r h;obtain⟨p,ys,rfl,hq,q⟩:=h;obtain⟨u,rfl,rx⟩:=vals1 r;cases rx;have hn:=lF;rcases hq with hq | hq
 .obtain⟨J6,r',pl,hz⟩:=I.list hq;have hlen:=r'.length;exact Calls.call_len_list pl.isList (by simp only[NT] <;> lia) ⟨.int ys.length,H,I.tok _,⟨s.toks+1,by rw[NT,hlen]⟩,q⟩
 .obtain⟨J6,r',pl,hz⟩:=I.tuple hq;have hlen:=r'.length;exact len_tuple pl (by simp only[NT] <;> lia) ⟨.int ys.length,H,I.tok _,⟨s.toks+1,by rw[NT,hlen]⟩,q⟩
theorem qR:cO X (.builtin "len") (λxs H Q=>∃ z,xs=[.str z]/\z.length<=sizeLine/\Q (.int z.length) H):=by
 intro J2 s σ H xs us Q I r h;obtain⟨z,rfl,hz,q⟩:=h;obtain⟨u,rfl,t,rfl⟩:=vals1 r;have hn:=lF;exact len_str (by lia) ⟨.int z.length,H,I.tok _,⟨_,rfl⟩,q⟩
theorem cO.or{f:Value}{r r':List V->Hp->VK->Prop}(h:cO X f r)(h':cO X f r'):cO X f (λxs H Q=>r xs H Q\/r' xs H Q):=by
 intro J2 s σ H xs us Q I rs q;rcases q with q | q
 .exact h J2 s σ H xs us Q I rs q
 .exact h' J2 s σ H xs us Q I rs q
theorem oz:cO X (.type "tuple") (λxs H Q=>∃ p ys,xs=[.ref p]/\((gK X.K H p ys/\∀ l,H l=none->Q (.ref l) (upd H l (.tup ys)))\/(gx X.K H p ys/\Q (.ref p) H))):=by
 intro J2 s σ H xs us Q I r h;obtain⟨p,ys,rfl,h⟩:=h;obtain⟨u,rfl,rx⟩:=vals1 r;cases rx;rcases h with ⟨hq,q⟩ | ⟨hq,q⟩
 .obtain⟨J6,r',pl,hz⟩:=I.list hq;have hlen:=r'.length;refine call_tuple_list pl.isList (λh' kp=>?_) (by simp only[NT] <;> lia);have I1:Inv X J2 σ H { s with heap:=h' }:=I.kept (t':=s.toks) kp;have I2:Inv X J2 σ (upd H h'.objs.size (.tup ys)) { s with heap:=h'.push { cls:=.type "tuple", data:=.seq J6.toArray } } :=
   I1.laid (t':=s.toks) (λb o e=>NF _ e) (NK _) (show bF X.prog X.w _ _ _ (.tup ys) from ⟨hz,J6,r',SS _ _⟩)
  exact⟨.ref h'.objs.size,_,I2,rfl,q _ (I1.bg.fresh (NK _))⟩
 .obtain⟨J6,r',pl,hz⟩:=I.tuple hq;exact call_tuple_same pl ⟨.ref p,H,I,rfl,q⟩
def JB(K:PySem.W.Frag)(T:String)(x:V)(H:Hp):Prop:=match x with
 | .str _=>T = "str"
 | .int _=>T = "int"
 | .ref p=>(T = "list" /\ ∃ xs,gK K H p xs)\/(T = "tuple" /\ ∃ o,K.lookup p=some o/\o.cls=.type "tuple" /\ o.dict=none) ∨
   (T = "dict" /\ ((∃ Ky,H p=some (.dK Ky))\/∃ Ky,H p=some (.dT Ky)))\/(T = "set" /\ ∃ S n,H p=some (.set S n))
 | _=>False
theorem Es{T:String}{x:V}{v:Value}(I:Inv X J2 σ H s)(r:RelV x v)(ty:JB X.K T x H) :
  s.TypeIs v T/\∀ a,v=.ref a->∃ ob,s.heap.get? a=some ob/\ob.dict=none:=by
 cases x with
 | str z =>
  obtain⟨t,rfl⟩:=r;cases (show T = "str" from ty);exact⟨Qn s z t,λ_ e=>nomatch e⟩
 | int i =>
  obtain⟨t,rfl⟩:=r;cases (show T = "int" from ty);exact⟨RD s i t,λ_ e=>nomatch e⟩
 | ref p =>
  cases r;rcases ty with ⟨rfl,xs,hq⟩ | ⟨rfl,o,hk,hc,hd⟩ | ⟨rfl,hk⟩ | ⟨rfl,S,n,hk⟩
  .obtain⟨J6,_,pl,_⟩:=I.list hq;refine⟨pl.isList.typeIs,λa e=>?_⟩;cases e;obtain⟨o,n,e,c,hd,_⟩:=pl;exact⟨o,e,hd⟩
  .refine⟨⟨o,I.iH p o hk,hc⟩,λa e=>?_⟩;cases e;exact⟨o,I.iH _ o hk,hd⟩
  .have z:∃ o,s.heap.get? p=some o/\o.ExactDict:=by
    rcases hk with ⟨Ky,hk⟩ | ⟨Ky,hk⟩
    .obtain⟨_,_,_,_,o,_,_,e,ex,_⟩:=I.bg p _ hk;exact⟨o,e,ex⟩
    .obtain⟨_,_,_,_,o,_,_,e,ex,_⟩:=I.bg p _ hk;exact⟨o,e,ex⟩
   obtain⟨o,e,ex⟩:=z;refine⟨⟨o,e,ex.1⟩,λa e2=>?_⟩;cases e2;exact⟨o,e,ex.2.1⟩
  .obtain⟨o,_,_,_,e,ex,_⟩:=I.bg p _ hk;refine⟨⟨o,e,ex.1⟩,λa e2=>?_⟩;cases e2;exact⟨o,e,ex.2.1⟩
 | _=>exact OX ty
def JF(K:PySem.W.Frag)(T:String)(r:V->List V->Hp->VK->Prop)(to:TE)(t:TA):TE:=fun σ H Q=>to σ H λx H1=>JB K T x H1/\t σ H1 λxs H2=>r x xs H2 Q
variable{o:Expr}{es:List Expr}{to:TE}{t:TA}{name:Str}{apos J_:Pos}{T id:String}{r:V->List V->Hp->VK->Prop}
theorem v_(pa:PlainAttrs T)(slot:Slot T name id)(hty:typeOf (.builtin id)=pure (.type "method_descriptor"))(hm:C5 X id r)(ho:PE X o to)(ha:PA X (e::es) t)
  (KQ:autoParam (attributeBase o name X.env (eval o X.env)=eval o X.env) aR._auto_1)
  (LG:autoParam (((backTo J_ (starEach (e::es) X.env)).all (λx=>!x.1)&&(backToKw J_ (keywordEach [] X.env)).all (λx=>x.1.isSome)
   && decide ((e::es).length+([]:List Keyword).length+(if ([]:List Keyword).isEmpty then 0 else 1)<30))=true) aR._auto_1)
  (KR:autoParam ((apos.endLine==J_.line)=true) aR._auto_1) (hs:autoParam (starEach (e::es) X.env=(false,eval e X.env)::starEach es X.env) aR._auto_1) (Kt:autoParam ((backTo J_ (starEach es X.env)).any (·.1)=false) aR._auto_1) :
  PE X (.Call (.Attribute o name apos) (e::es) [] J_) (JF X.K T r to t):=by
 intro J2 s σ H Q I h;refine wpAny_Call_method_late KQ LG KR rfl (b_ (ho J2 s σ H _ I h) λv s1 ⟨x,H1,I1,r1,ty,q1⟩=>?_);obtain⟨h1,h2⟩:=Es I1 r1 ty;refine⟨T,id,pa,slot,hty,h1,h2,?_⟩;have hA:=ha J_ J2 s1 σ H1 _ I1 q1;rw[hs] at hA ⊢;refine Calls.callWith_builtin (by show (false||(backTo J_ (starEach es X.env)).any (·.1))=false;rw[Kt] <;> rfl) (Calls.evalArgs_plain ?_);exact b_ hA λus s2 ⟨vs,H2,I2,r2,q2⟩=>hm J2 s2 σ H2 x vs v us Q I2 r1 r2 q2
end
def JK(X:Cx)(id:String)(r:V->List V->Hp->VK->Prop):Prop :=
 ∀ (J2:List (Addr×Obj)) (s:Shared) (σ:St) (H:Hp) (x:V) (xs:List V) (v:Value) (us:List Value) (Q:VK),Inv X J2 σ H s->RelV x v->Vals xs us->r x xs H Q ->
  wpAny (model X.prog X.w) X.A (call (.builtin id) (v::us)) (EP X J2 σ Q) X.xe s
theorem Vals.one:∀ {x:V} {us:List Value},Vals [x] us->∃ u,us=[u]/\RelV x u
 | _,_,.cons r .nil=>⟨_,rfl,r⟩
theorem Vals.rep{xs:List V}{us:List Value}(h:Vals xs us):∀ k:Nat,Vals (NV k xs).flatten (NV k us).flatten
 | 0=>.nil
 | k+1=>by
  rw[OO,OO,O5,O5];exact Vals.append h (Vals.rep h k)
theorem foldl_rep(J6:List Value):∀ (k:Nat) (acc:List Value),
  Q7 (λx1 x2=>x1++x2) acc.toArray (NV k J6.toArray)=(acc++(NV k J6).flatten).toArray
 | 0,acc=>by simp
 | k+1,acc=>by
  have e:acc.toArray++J6.toArray=(acc++J6).toArray:=by simp
  have e2:(acc++J6)++(NV k J6).flatten=acc++(NV (k+1) J6).flatten:=by
   rw[OO,O5,Qw]
  rw[<- e2,<- foldl_rep J6 k (acc++J6),<- e,OO,RO]
variable{t':Nat}
section
variable{l b:Addr}{ys zs:List V}
theorem Inv.HV{its':List Value}{f:Array Value->Array Value}(I:Inv X J2 σ H s)(hH:H l=some (.lst xs))
  (e:s.heap.get? l=some { cls:=.type "list", data:=.seq J6.toArray n }) (hf:f J6.toArray=its'.toArray) (hv:Vals ys its') (hz:ys.length<=sizeLine) :
  Inv X J2 σ (upd H l (.lst ys)) { s with heap:=s.heap.update l (RC f),toks:=t' }:=by
 have q:=PySem.IsL.update e f;rw[hf] at q;refine I.write (x:=l) (e:=l) (by rw[hH];exact trivial) (.inl rfl) (λb' u hb hu=>(OD s.heap (RC f) (O4 hb)).trans hu) ⟨_,q⟩ ?_;exact⟨hz,its',_,hv,q⟩
theorem Inv.Gn(I:Inv X J2 σ H s)(hv:Vals ys J6)(hz:ys.length<=sizeLine) :
  Inv X J2 σ (upd H s.heap.objs.size (.lst ys)) { s with heap:=s.heap.push { cls:=.type "list", data:=.seq J6.toArray },toks:=t' } :=
 I.laid (λ_ _ q=>NF _ q) (NK _) ⟨hz,J6,0,hv,NO _ rfl⟩
theorem Inv.fresh(I:Inv X J2 σ H s):H s.heap.objs.size=none:=I.bg.fresh (NK _)
theorem Inv.BZ(I:Inv X J2 σ H s)(hH:H l=some (.lst xs)):xs.length<=sizeLine/\∃ (J6:List Value) (n:Nat),Vals xs J6/\xs.length=J6.length/\s.heap.get? l=some { cls:=.type "list", data:=.seq J6.toArray n }:=by
 obtain⟨z,J6,n,r,e⟩:=I.bg l _ hH;exact⟨z,J6,n,r,r.length,e⟩
theorem Aa(h:n<=sizeLine):Qe n=false:=by
 unfold Qe;exact decide_eq_false (by lia)
end
def Bd:V->List V->Hp->VK->Prop:=λx vs H Q=>∃ l xs y,x=.ref l/\vs=[y]/\H l=some (.lst xs)/\xs.length<sizeLine/\Q .bH (upd H l (.lst (xs++[y])))
theorem lq:JK X "list.append" Bd:=by
 intro J2 s σ H x vs v us Q I rx rv h;obtain⟨l,xs,y,rfl,rfl,hH,hz,q⟩:=h;cases rx;obtain⟨u,rfl,ru⟩:=rv.one;obtain⟨z,J6,n,r,hl,e⟩:=I.BZ hH;refine Pe F.slot_list_append ⟨_,e,rfl⟩ F.entry_list_append (F.args_list_append_2 _ _) (PySem.list_append l J6.toArray n u (by rw[NT];lia)) ⟨e,?_⟩;refine⟨.bH,_,I.HV (its':=J6++[u]) hH e (by simp) (r.append (.cons ru .nil)) ?_,rfl,q⟩;rw[NW,Pn];lia
def FK:R2:=λx y H Q=>∃ l b xs zs,x=.ref l/\y=.ref b/\H l=some (.lst xs)/\H b=some (.lst zs)/\xs.length+zs.length<=sizeLine/\∀ p,H p=none->Q (.ref p) (upd H p (.lst (xs++zs)))
theorem EU:fF X (binaryOp .Add) FK:=by
 intro J2 s σ H x y v u Q I rx ry h;obtain⟨l,b,xs,zs,rfl,rfl,hH,hB,hz,q⟩:=h;cases rx;cases ry;obtain⟨z,J6,n,r,hl,e⟩:=I.BZ hH;obtain⟨z2,LU,n2,r2,Md,e2⟩:=I.BZ hB;refine PySem.P.add_list e e2 ?_ (by rw[NT,NT];lia);have ea:J6.toArray++LU.toArray=(J6++LU).toArray:=by simp
 rw[ea];exact⟨.ref _,_,I.Gn (t':=s.toks) (r.append r2) (by rw[NW];lia),rfl,q _ I.fresh⟩
def FA:R2:=λx y H Q=>∃ l k xs,x=.ref l/\y=.int k/\H l=some (.lst xs)/\-(2^63)<=k/\k<2^63/\xs.length*k.toNat<=sizeLine ∧
 ∀ p,H p=none->Q (.ref p) (upd H p (.lst (NV k.toNat xs).flatten))
theorem len_rep(xs:List α)(k:Nat):(NV k xs).flatten.length=k*xs.length:=by
 induction k with
 | zero=>simp
 | succ k ih=>rw[OO,O5,NW,ih,Nat.succ_mul,SK]
theorem Dh:fF X (binaryOp .Mult) FA:=by
 intro J2 s σ H x y v u Q I rx ry h;obtain⟨l,k,xs,rfl,rfl,hH,h1,h2,hz,q⟩:=h;cases rx;obtain⟨t,rfl⟩:=ry;obtain⟨z,J6,n,r,hl,e⟩:=I.BZ hH;have hlen:J6.toArray.size*k.toNat<=sizeLine:=by rw[NT,<- hl];exact hz
 have hcap:¬ J6.toArray.size*k.toNat>(2^63-1)/8:=by
  have:(sizeLine:Nat)<=(2^63-1)/8:=by decide
  lia
 have hfit:¬ (!Builtin.List.listFitsIndex k)=true:=by
  rw[fitsIndex_both h1 h2];exact OC
 have Nl:¬ Qe (J6.toArray.size*k.toNat)=true:=by
  rw[Aa hlen];exact OC
 have Lk:Q7 (λx1 x2=>x1++x2) #[] (NV (if J6.toArray.isEmpty=true then 0 else k.toNat) J6.toArray)=(NV k.toNat J6).flatten.toArray:=by
  have f0:∀ m:Nat,Q7 (λx1 x2=>x1++x2) #[] (NV m J6.toArray)=(NV m J6).flatten.toArray:=λm=>by
   have:=foldl_rep J6 m [];rw[RP] at this;exact this
  rw[f0];cases J6 with
  | nil=>simp
  | cons a r'=>rw[if_neg (by simp)]
 refine Rc (T := "list") (U := "int") (by decide) ⟨_,e,rfl⟩ (λs'=>RD s' k t) noFill_list_mul F.fills_int_mul F.slot_int_rmul repeat_list F.slot_int_index.lookup
  (Pe F.slot_int_rmul (RD s k t) F.entry_int_rmul (F.args_int_rmul_2 _ _) (int___rmul___int_list k t l J6.toArray n)
   ⟨e,rfl,⟨_,e,rfl⟩,Pe F.slot_list_mul ⟨_,e,rfl⟩ F.entry_list_mul (F.args_list_mul_2 _ _) (AutoListH.list___mul___list_int_3 l J6.toArray n k t hfit hcap Nl) ⟨e,?_⟩⟩)
 rw[Lk];exact⟨.ref _,_,I.Gn (t':=s.toks) (r.rep k.toNat) (by rw[len_rep,QZ];exact hz),rfl,q _ I.fresh⟩
variable{E:Value->Shared->Prop}{A:Around}{w:World}
section
variable{prog:Program}
end
section
variable{κ:Type}[DecidableEq κ]
end
variable{a:Addr}{P:Program}
section
variable{h:Heap}
end
variable{o:Option V}{u:Value}
section
variable{y v:V}{r:Value}
theorem Inv.big(I:Inv X J2 σ H s):sysModules<s.heap.objs.size:=by
 have h:mainGlobals<s.heap.objs.size:=(I.mod.glob.keeps I.bk).lt;exact RE (by decide) h
end
variable{Ky:List (Key×V)}
section
variable{k:Key}
end
section
variable{o i value:Expr}{pos' tpos:Pos}{td ty tv:TE}
end
theorem zb(h:Heap)(hb:sysModules<h.objs.size):bF P w H (h.push { cls:=.type "dict", data:=.dict #[] }) h.objs.size (.dK []) :=
 ⟨OQ _,beq_eq_false_iff_ne.mpr (O4 (NR hb)),[],.nil,Heap.DictOf.new h⟩
def D9:TE:=λ_ H Q=>∀ p,H p=none->Q (.ref p) (upd H p (.dK []))
theorem zV:PE X (.Dict [] [] pos) D9:=λJ2 s σ H Q I h =>
 wpAny_Dict_empty ⟨.ref s.heap.objs.size,_,I.laid (a:=s.heap.objs.size) (o:=.dK []) (t':=s.toks) (λ_ _ q=>NF _ q) (NK _) (zb s.heap I.big),rfl,h _ (I.bg.fresh (NK _))⟩
section
variable{y d:V}{r:Value}
end
section
variable{o f:Expr}{apos J_:Pos}{td ty tx:TE}
end
section
variable{y:V}
end
end L2
namespace Att
open PySem PySem.W PySem.Calls PyProof.Rows
variable{h:Heap}{P:Params}
theorem lX:∀ (ns:List Int) (vs:List Value),WellAll P h vs (ns.map WData.int)->IntsAre vs ns:=by
 intro ns
 induction ns with
 | nil =>
  intro vs w;rw[Q0] at w;cases w;exact .nil
 | cons n ns ih =>
  intro vs w;rw[N5] at w;cases w with
  | cons a b =>
   cases a;exact .cons _ _ (ih _ b)
theorem wA{l:OpenLaw}{n:Nat}(hn:l.most=some n){args:List WData}{vals:List Value}
  (wR:l.row.toRowW.claim.pre args=true) (hwl:WellAll P h vals args) :
  ∃ a vs ns,vals=[NQ a]/\args=[WData.list (ns.map WData.int)]/\h.get? a=some { cls:=.type "list", data:=.seq vs.toArray }/\IntsAre vs ns/\ns.length<=n:=by
 have hsh:WShape.hasAll [] args [.list .int]=true:=(pre_splitW wR).1;have hc:l.pre.holds [] { args:=args }=true:=(pre_splitW wR).2;obtain⟨d,r,rfl,h1,h2⟩:=hasAllW_cons hsh;obtain rfl:=hasAllW_nil h2;obtain⟨xs,rfl,h3⟩:=hasW_list h1;obtain⟨ns,rfl⟩:=items_int h3;have hlen:ns.length<=n:=by
  unfold OpenLaw.pre at hc;have h4:(WTm.not (.lt (.lit (.int (n:Int))) (.len (.arg 0)))).holds [] { args:=[.list (ns.map .int)] }=true:=by
   have h4:=(holds_andW hc).1;rw[hn] at h4;exact h4
  have h5:=condW_of h4 (w_not (w_lt w_lit (w_len_list (w_arg rfl))));rw[ND] at h5;refine Nat.le_of_not_lt λq=>?_;have q':(n:Int)<((ns.length:Nat):Int):=by lia
  first
   | (rw[decide_eq_true q'] at h5;exact absurd h5 (by decide))
   | (simp at h5;lia)
 cases hwl with
 | cons w1 w2 =>
  cases w2;cases w1 with
  | list ho hall=>exact⟨_,_,ns,rfl,rfl,ho,lX ns _ hall,hlen⟩
theorem xj(l:OpenLaw)(args:List WData):l.row.toRowW.claim.post args (.bool true) args=true :=
 postW_of (r:=l.row.toRowW) (X:=(true==true))
  (show WShape.has [] (.bool true) .bool=true by first | rfl | decide | simp[WShape.has,WShape.arms,WShape.armsAll])
  (show (WTm.eq .res (.lit (.bool true))).value [] { args:=args,res:=some (.bool true),after:=args }=some (.bool (true==true)) from w_eq_bool (w_res rfl) w_lit) rfl
section
variable{prog:Program}{w:World}{A:Around}{E:Value->Shared->Prop}{s:Shared}{K:Frag}
end
end Att
namespace L2
open PySem PySem.Spec PyProof.Rows
theorem oW:∀ {vs:List Value} {ns:List Int},IntsAre vs ns->Vals (ns.map V.int) vs
 | _,_,.nil=>.nil
 | _,_,.cons n t h=>.cons ⟨t,rfl⟩ (oW h)
def F2(H:Hp):Prop:=∀ b,H b=none\/∃ o xs,H b=some (.oO o (.lst xs))
variable{mg:Str->Option Value}{w:World}{P:Program}
theorem zq{K:PySem.W.Frag}{mb:Str->Option Value}{CX:Fv}{k:Nat}{fa a:Addr}{fd:FuncData}{x:Str}{sp:Sp}{s₁:Shared}{vs:List Value}{ns:List Int}
  (KX:K.In s₁.heap) (hns:s₁.heap.Ns mainGlobals mg) (hb:s₁.heap.Ns builtinsNs mb) (hbb:∀ x:Str,x ≠ "__name__" -> mb x=bootBuiltins x) (hlim:s₁.heap.NoLimit) (hg:s₁.gens=#[])
  (ha:s₁.heap.get? a=some { cls:=.type "list", data:=.seq vs.toArray }) (hi:IntsAre vs ns) (hl:ns.length<=sizeLine) (hr:bU k callerA)
  (F:∀ base:Heap,K.In base->base.Ns mainGlobals mg->aP P w K mg base CX k fa fd [x] sp) (Na:∀ (s:Shared) (u:Value),BindsTo s fd ⟨[u],[]⟩ [(x,u)])
  (hsp:∀ H:Hp,F2 H->gK K H a (ns.map V.int)->sp [.ref a] H (λv _=>v=.bl true) λ_ _ _=>False)
  (hCX:∀ H e s',CX [] H s₁ (λ_ _ _=>False) e s'->False) :
  codeAny (model P w) callerA (.call (.ref fa) ⟨[.ref a],[]⟩) (λr s'=>r=.ok (.ret (.bool true))/\OldK s₁.heap s'.heap/\s'.os=s₁.os/\AllBare s'.gens) s₁:=by
 have rv:=oW hi;have lenV:=hi.length;have core:∀ H:Hp,F2 H->gK K H a (ns.map V.int)->kI P w H s₁.heap->(∀ b,H b≠none->b=a)->(H a≠none->K.lookup a=none) ->
   codeAny (model P w) callerA (.call (.ref fa) ⟨[.ref a],[]⟩) (λr s'=>r=.ok (.ret (.bool true))/\OldK s₁.heap s'.heap/\s'.os=s₁.os/\AllBare s'.gens) s₁:=by
  intro H hO hS bg hA hK;have LX:∀ {b:Addr} {o:Obj},s₁.heap.get? b=some o->H b=none->(qC s₁.heap H).get? b=some o:=λe n=>yk e n;have jq:∀ {b:Addr} {o:Obj} {es:Array DictEntry} {ep:Nat},s₁.heap.get? b=some o->o.data=.dict es ep->H b=none:=λ{b o es ep} e d=>by
   cases q:H b with
   | none=>rfl
   | some u =>
    have e':b=a:=hA b (by rw[q];simp);subst e';rw[ha] at e;cases e;have d':Data.seq vs.toArray _=Data.dict es ep:=d;cases d'
  have nsK:∀ {b:Addr} {m:Str->Option Value},s₁.heap.Ns b m->(qC s₁.heap H).Ns b m:=λ{b m} ⟨o,es,ep,e,d,r⟩=>⟨o,es,ep,LX e (jq e d),d,r⟩
  have hKb:K.In (qC s₁.heap H):=λb o e=>LX (KX b o e) (by
   cases q:H b with
   | none=>rfl
   | some u =>
    have e':b=a:=hA b (by rw[q];simp);subst e';rw[hK (by rw[q];simp)] at e;cases e)
  have hM:Mod K mg (qC s₁.heap H):=⟨hKb,nsK hns,⟨mb,nsK hb,hbb⟩,let ⟨mc,h1,h2⟩:=hlim;⟨mc,nsK h1,h2⟩⟩
  have e0:uL P w K mg (qC s₁.heap H) callerA [] s₁ H:=⟨rfl,hM,λb o e=>A4 e,Sx (xw _ _),trivial,λb hb=>absurd (show b∈([]:List Addr) from hb) (by simp),bg,.of_eq hg⟩
  refine Qx ((F _ hKb (nsK hns)).run callerA [] s₁ H ⟨[.ref a],[]⟩ [.ref a] [.ref a] _ _ hr e0 (Na s₁ (.ref a)) (.cons rfl .nil) (hsp H hO hS)) λr s' h=>?_;cases r with
  | error e=>exact(hCX H e s' h).elim
  | ok fl =>
   cases fl with
   | next=>exact OX h
   | brk=>exact OX h
   | cont=>exact OX h
   | ret u =>
    obtain⟨v,H',os,bare,un,hok',r',q⟩:=h;have q':v=.bl true:=q;subst q';obtain rfl:u=OV true:=r';refine⟨rfl,OldK.of_keep λb o e=>?_,os,bare⟩;cases q:H b with
    | none=>exact un.keep b o e q (by intro z;exact absurd (show b∈([]:List Addr) from z) (by simp)) (by simp)
    | some u =>
     rcases hO b with z | ⟨ob,xs,z⟩
     .rw[q] at z;cases z
     .have z2:=un.iX b ob _ z;obtain⟨e1,_⟩:=bg b _ z;obtain⟨e2,_⟩:=hok' b _ z2;rw[e] at e1;cases e1;exact e2
 cases hk:K.lookup a with
 | some o =>
  have e:=KX a o hk;rw[ha] at e;cases e;refine core (λ_=>none) (λ_=>.inl rfl) (.inr ⟨_,vs.toArray,_,hk,rfl,rfl,rfl,by rw[NT,lenV];exact hl,by simpa using rv⟩) (λb u z=>by have z':(none:Option HO)=some u:=z;cases z') (λb z=>absurd rfl z) λz=>absurd rfl z
 | none =>
  refine core (λb=>if b=a then some (.oO { cls:=.type "list", data:=.seq vs.toArray } (.lst (ns.map V.int))) else none) (λb=>?_) (.inl (.inr ⟨{ cls:=.type "list", data:=.seq vs.toArray },if_pos rfl⟩)) (λb u z=>?_) (λb z=>?_) λ_=>hk
  .by_cases hb:b=a
   .exact .inr ⟨_,_,if_pos hb⟩
   .exact .inl (if_neg hb)
  .by_cases hb:b=a
   .have z':=(if_pos hb).symm.trans z;cases z';subst hb;exact⟨ha,by rw[ND];exact hl,vs,_,rv,ha⟩
   .have z':=(if_neg hb).symm.trans z;cases z'
  .by_cases hb:b=a
   .exact hb
   .exact absurd (if_neg hb) z
def inClass(s:Stmt)(j:Nat):Stmt:=match s with
 | .ClassDef _ _ _ body _ _ _ _ _ _ _=>body.getD j (.Pass ⟨0,0,0,0⟩)
 | _=>.Pass ⟨0,0,0,0⟩
def gA(s:Stmt):Arguments:=match s with
 | .FunctionDef _ a _ _ _ _ _ _ _ _=>a
 | _=>{ posonlyargs:=[],args:=[],vararg:=none,kwonlyargs:=[],kw_defaults:=[],kwarg:=none,defaults:=[] }
def dP(s:Stmt):List Stmt:=match s with
 | .FunctionDef _ _ b _ _ _ _ _ _ _=>b
 | _=>[]
def aQ(s:Stmt):Scope:=match s with
 | .FunctionDef _ _ _ _ _ _ sc _ _ _=>sc
 | _=>{ kind:=.function,names:=[],isGenerator:=false,isCoroutine:=false }
abbrev E0:XK:=λ_ _ _=>False
section
variable{K:PySem.W.Frag}{base:Heap}
end
theorem w_{n:Nat}(h:n<=1000):n<sizeLine:=Pf h (by decide)
section
variable{X:Cx}
end
def aY(H H':Hp):Prop:=∀ b o,H b=some o->H' b=some o
end L2
section
namespace HD
open PySem PySem.W L2
abbrev pw:Program:=PySem.Challenge.pw_dialvault_k16_vaults_as_texts
noncomputable section
noncomputable def st(s:String)(t:Nat):Value:=.str (NC s) t
def en(P:Params)(s:String)(t:Nat)(v:Value):DictEntry:=⟨PyData.keyHash P (NC s),st s t,v⟩
def tu(xs:List Value):Obj:=⟨.type "tuple", none,.seq ⟨xs⟩ 0,⟨[]⟩⟩
def di(n:Nat)(es:List DictEntry):Obj:=⟨.type "dict", none,.dict ⟨es⟩ n,⟨[]⟩⟩
def tp(i:Nat):Stmt:=pw.main.body.getD i (.Pass ⟨0,0,0,0⟩)
def mp(i j:Nat):Stmt:=inClass (tp i) j
def co(a b:String)(t:Nat)(l n:Int)(x1 x2 x3 x4 x5:Nat)(u:Nat):Obj:=⟨.type "code", none,.fields ⟨[st a t,st b (t+1),st "/claim/cut.py" (t+2),.int l 0,.int n 0,.int 0 0,.int 0 0,.int 3 0,.ref x1,.bool true,.int 181 0,.ref x2,.none,.ref x3,.ref x4,.ref x5,.int u 0,.int l 0,st "/claim/cut.py" (u+1)]⟩,⟨[]⟩⟩
def ft(a b:String)(s:Stmt):Obj:=⟨.none,none,.func ⟨NC a,NC b,gA s,.stmts (dP s),aQ s,0,[],.none,.none,.none,.none,none,.none,.none,0⟩,⟨[]⟩⟩
def fo(a b:String)(s:Stmt)(df pm:Value)(cd:Nat):Obj:=⟨.type "function", none,.func ⟨NC a,NC b,gA s,.stmts (dP s),aQ s,3,[],df,.none,.none,pm,none,.ref cd,.none,0⟩,⟨[]⟩⟩
def DY:List Obj->List Obj
 | []=>[]
 | [a]=>[a]
 | a::_::r=>a::DY r
def bt:Nat->List Obj->BT
 | 0,_=>.nil
 | _+1,[]=>.nil
 | n+1,a::r=>.node a (bt n (DY r)) (bt n (DY (r.drop 1)))
def S(L:Params->List Obj)(n k:Nat)(w:World)(os:OsState):SharedT:=⟨bt 14 (L w.params),n,{},⟨[]⟩,⟨0,0,0,0⟩,k,os⟩
def F(L:Params->List Obj)(k:Nat)(w:World)(os:OsState):Shared:=⟨⟨⟨L w.params⟩,{}⟩,⟨[]⟩,⟨0,0,0,0⟩,k,os⟩
def cc(a:String)(t:Nat)(l:Int)(x y u:Nat):Obj:=⟨.type "code", none,.fields ⟨[st a t,st a (t+1),st "/claim/cut.py" (t+2),.int l 0,.int 0 0,.int 0 0,.int 0 0,.int 0 0,.ref x,.bool false,.int 181 0,.ref y,.none,.none,.none,.none,.int u 0,.int l 0,st "/claim/cut.py" (u+1)]⟩,⟨[]⟩⟩
def fr(a b:Nat)(s:String)(t:Nat):Obj:=⟨.type "frame", none,.plain,⟨[some (.ref a),some (.ref 3),some (.ref b),none,some (st s t),none,some (.ref 0)]⟩⟩
def su(a:Nat):Obj:=⟨.type "super", none,.fields ⟨[.ref a,.ref a,.ref a]⟩,⟨[]⟩⟩
def ii(a:Nat):Obj:=⟨.type "builtin_function_or_method", none,.fields ⟨[.builtin "object.__init_subclass__", .ref a]⟩,⟨[]⟩⟩
def G7:List Nat->List Value
 | a::b::c::r=>.int a 0::.int b 0::.ref c::G7 r
 | _=>[]
def fi(xs:List Nat):Obj:=⟨.none,none,.fields ⟨G7 xs⟩,⟨[]⟩⟩
def cl(n:Str)(bs ms:List Value)(k:Nat)(ss:List Value)(sl:List (Option Value)):Obj:=⟨.type "type", none,.cls ⟨n,bs,ms,k,n,true,[],ss,false,none,false⟩,⟨sl⟩⟩
def pt(L:List Obj)(us:List (Nat×Obj))(ns:List Obj):List Obj:=us.foldl (λl u=>l.set u.1 u.2) L++ns
abbrev b0:=boot_o_0
abbrev b1:=boot_o_1
abbrev b2:=boot_o_2
abbrev b3:=boot_o_3
abbrev b4:=boot_o_4
abbrev b5:=boot_o_5
abbrev b6:=boot_o_6
abbrev b7:=boot_o_7
abbrev b8:=boot_o_8
abbrev b9:=boot_o_9
abbrev JO:=boot_o_10
def m0:Value:=st "__main__" 164
def m1:Value:=st "dialvault.errors" 194
def m2:Value:=st "dialvault.wholes" 363
def m3:Value:=st "dialvault.vault" 399
def m4:Value:=st "dialvault.texts" 514
def m5:Value:=st "law_dialvault_k16_vaults_as_texts" 589
def nl:List String->Nat->List Value
 | [],_=>[]
 | x::r,t=>st x t::nl r (t+1)
def fA(P:Params)(a t:Nat)(x q:String)(s:Stmt)(l n:Int)(vs:List String)(df pm:Value):List Obj:=[b7 P,b8 P,tu (nl vs (t+3)),b7 P,ft x q s,co x q t l n a (a+1) (a+2) (a+3) (a+4) (t+3+vs.length),fo x q s df pm (a+5)]
def fT(P:Params)(a t:Nat)(x:String)(s:Stmt)(l n:Int)(vs:List String)(pm:Value):List Obj:=fA P a t x x s l n vs .none pm
def fB(P:Params)(a t:Nat)(x q:String)(s:Stmt)(l n:Int)(df pm:Value):List Obj:=[b7 P,b8 P,ft x q s,⟨.type "code", none,.fields ⟨[st x t,st q (t+1),st "/claim/cut.py" (t+2),.int l 0,.int n 0,.int 0 0,.int 0 0,.int 3 0,.ref a,.bool true,.int 181 0,.ref (a+1),.none,.none,.none,.ref (a+2),.int (t+3) 0,.int l 0,st "/claim/cut.py" (t+4)]⟩,⟨[]⟩⟩,fo x q s df pm (a+3)]
def dB(P:Params)(n t:Nat)(m:Value)(l:Int)(r:List DictEntry):Obj:=di n (en P "__module__" t m::en P "__firstlineno__" (t+4) (.int l (t+3))::r)
def dA(P:Params)(n t:Nat)(m:Value)(x:String)(l:Int)(r:List DictEntry):Obj:=di n (en P "__module__" t m::en P "__qualname__" (t+2) (st x (t+1))::en P "__firstlineno__" (t+4) (.int l (t+3))::r)
def gw(t a:Nat):Obj:=⟨.type "getset_descriptor", none,.fields ⟨[st "__weakref__" t,.ref a,.builtin "ExceptionGroup.__weakref__", .none]⟩,⟨[]⟩⟩
def gd(t a:Nat):Obj:=⟨.type "getset_descriptor", none,.fields ⟨[st "__dict__" t,.ref a,.builtin "function.__dict__", .builtin "function.__dict__#set"]⟩,⟨[]⟩⟩
def ce(x:String)(b a k:Nat)(ss:List Value)(d t u:Nat):Obj:=cl x [.ref b] [.ref a,.ref b,.type "ValueError", .type "Exception", .type "BaseException", .type "object"] k ss [some (.ref d),none,some (st x t),some (st x u),some (.builtin "ValueError.__new__"),some (.bool true)]
def gl P:=[en P "__doc__" 166 .none,en P "__package__" 167 .none,en P "__loader__" 168 (.builtin "__main__.__loader__#opaque"),en P "__spec__" 169 .none,en P "__annotations__" 170 (.ref 6),en P "__builtins__" 171 (.ref 4),en P "__file__" 173 (st "/claim/cut.py" 172),en P "__cached__" 174 .none,en P "_wall" 193 (.ref 21),en P "VaultError" 220 (.ref 38),en P "NoDial" 252 (.ref 65),en P "NoLever" 284 (.ref 91),en P "NoPrice" 316 (.ref 117),en P "TooMany" 339 (.ref 136),en P "NoText" 362 (.ref 155),en P "is_whole" 371 (.ref 164),en P "is_row" 377 (.ref 169),en P "common" 389 (.ref 176),en P "multiple_of" 398 (.ref 183),en P "MOST_DIALS" 402 (.int 6 401),en P "LEAST_SIZE" 404 (.int 2 403),en P "MOST_SIZE" 406 (.int 360 405),en P "MOST_LEVERS" 408 (.int 8 407),en P "LEAST_PRICE" 410 (.int 1 409),en P "MOST_PRICE" 412 (.int 1000 411),en P "Vault" 470 (.ref 227),en P "is_within" 479 (.ref 238),en P "need_sizes" 488 (.ref 245),en P "need_levers" 498 (.ref 252),en P "prices_for" 507 (.ref 259),en P "rests" 513 (.ref 264),en P "FIGURES" 517 (st "0123456789" 516),en P "MOST_FIGURES" 519 (.int 30 518),en P "BETWEEN_PARTS" 521 (st "; " 520),en P "AHEAD_OF_PRICE" 523 (st " : " 522),en P "PLAIN_PRICE" 525 (.int 1 524),en P "show_numbers" 531 (.ref 269),en P "is_figures" 537 (.ref 274),en P "read_number" 545 (.ref 281),en P "read_numbers" 551 (.ref 286),en P "need_text" 558 (.ref 293),en P "show_lever" 566 (.ref 300),en P "show_vault" 572 (.ref 305),en P "read_lever" 582 (.ref 312),en P "read_vault" 588 (.ref 317),en P "_law_cell" 599 (.ref 324),en P "_law_mix" 608 (.ref 331),en P "_law_same" 618 (.ref 338),en P "_law_number" 628 (.ref 345),en P "_law_sizes" 638 (.ref 352),en P "_law_levers" 644 (.ref 357),en P "_law_sign" 652 (.ref 364),en P "_law_spoiled" 664 (.ref 371),en P "_law_number_in" 670 (.ref 376),en P "_law_numbers" 676 (.ref 381),en P "_law_parsed" 682 (.ref 386),en P "_law_wrong" 692 (.ref 393),en P "_law_rests" 698 (.ref 398),en P "_law_due" 707 (.ref 405),en P "_law_read" 718 (.ref 412),en P "_law_text" 724 (.ref 417),en P "law" 730 (.ref 422)]
def LA(P:Params):List Obj:=[b0 P,b1 P,b2 P,b3 P,b4 P,b5 P,b6 P,b7 P,b8 P,b9 P,JO P,b7 P,b8 P,cc "<module>" 182 1 11 12 185,fr 13 3 "__main__" 164]
def o9:Obj:=⟨.type "builtin_function_or_method", none,(.fields ⟨[.builtin "type.__prepare__", .type "type"]⟩),⟨[]⟩⟩
def JV:Obj:=gw 216 38
def GQ:=tu [.ref 38]
def L0 P:=pt (LA P) [(3,di 15 (en P "__name__" 165 m1::(gl P).take 14)),(12,fi [1,0,20,5,0,27,9,0,47,16,0,73,23,0,99,30,0,125])] (fT P 15 187 "_wall" (tp 0) 1 1 ["k"] m0++([tu [.type "ValueError"],o9,dA P 5 203 m1 "VaultError" 5 [en P "word" 214 (.ref 35),en P "__static_attributes__" 215 (.ref 36)],b7 P,fi [7,4,34],cc "VaultError" 198 5 25 26 201,fr 27 24 "dialvault.errors" 194]++(fA P 29 208 "word" "VaultError.word" (mp 2 0) 7 1 ["self"] .none m1++([b7 P,dB P 3 203 m1 5 [en P "word" 214 (.ref 35),en P "__static_attributes__" 215 (.ref 36),en P "__weakref__" 217 (.ref 39),en P "__doc__" 218 .none],cl "VaultError" [.type "ValueError"] [.ref 38,.type "ValueError", .type "Exception", .type "BaseException", .type "object"] 37 [.ref 65,.ref 91,.ref 117,.ref 136] [some (.ref 22),none,some (st "VaultError" 196),some (st "VaultError" 204),some (.builtin "ValueError.__new__"),some (.bool true)],JV,su 38,ii 38,GQ,o9,dA P 6 228 m1 "NoDial" 9 [en P "__init__" 240 (.ref 55),en P "word" 247 (.ref 62),en P "__static_attributes__" 249 (.ref 63)],b7 P,fi [11,4,54,14,4,61],cc "NoDial" 223 9 45 46 226,fr 47 44 "dialvault.errors" 194]++(fA P 49 233 "__init__" "NoDial.__init__" (mp 3 0) 11 2 ["self", "dial"] .none m1++(fA P 56 241 "word" "NoDial.word" (mp 3 1) 14 1 ["self"] .none m1++([tu [st "dial" 248],dB P 2 228 m1 9 [en P "__init__" 240 (.ref 55),en P "word" 247 (.ref 62),en P "__static_attributes__" 249 (.ref 63),en P "__doc__" 250 .none],ce "NoDial" 38 65 64 [] 42 221 229,su 65,ii 65,GQ,o9,dA P 6 260 m1 "NoLever" 16 [en P "__init__" 272 (.ref 81),en P "word" 279 (.ref 88),en P "__static_attributes__" 281 (.ref 89)],b7 P,fi [18,4,80,21,4,87],cc "NoLever" 255 16 71 72 258,fr 73 70 "dialvault.errors" 194]++(fA P 75 265 "__init__" "NoLever.__init__" (mp 4 0) 18 2 ["self", "lever"] .none m1++(fA P 82 273 "word" "NoLever.word" (mp 4 1) 21 1 ["self"] .none m1++([tu [st "lever" 280],dB P 2 260 m1 16 [en P "__init__" 272 (.ref 81),en P "word" 279 (.ref 88),en P "__static_attributes__" 281 (.ref 89),en P "__doc__" 282 .none],ce "NoLever" 38 91 90 [] 68 253 261,su 91,ii 91,GQ,o9,dA P 6 292 m1 "NoPrice" 23 [en P "__init__" 304 (.ref 107),en P "word" 311 (.ref 114),en P "__static_attributes__" 313 (.ref 115)],b7 P,fi [25,4,106,28,4,113],cc "NoPrice" 287 23 97 98 290,fr 99 96 "dialvault.errors" 194]++(fA P 101 297 "__init__" "NoPrice.__init__" (mp 5 0) 25 2 ["self", "lever"] .none m1++(fA P 108 305 "word" "NoPrice.word" (mp 5 1) 28 1 ["self"] .none m1++([tu [st "lever" 312],dB P 2 292 m1 23 [en P "__init__" 304 (.ref 107),en P "word" 311 (.ref 114),en P "__static_attributes__" 313 (.ref 115),en P "__doc__" 314 .none],ce "NoPrice" 38 117 116 [] 94 285 293,su 117,ii 117,GQ,o9,dA P 5 324 m1 "TooMany" 30 [en P "word" 335 (.ref 133),en P "__static_attributes__" 336 (.ref 134)],b7 P,fi [32,4,132],cc "TooMany" 319 30 123 124 322,fr 125 122 "dialvault.errors" 194]++(fA P 127 329 "word" "TooMany.word" (mp 6 0) 32 1 ["self"] .none m1++([b7 P,dB P 2 324 m1 30 [en P "word" 335 (.ref 133),en P "__static_attributes__" 336 (.ref 134),en P "__doc__" 337 .none],ce "TooMany" 38 136 135 [] 120 317 325,su 136,ii 136])))))))))))))))
def HS:Obj:=gd 464 227
def HF:Obj:=gw 466 227
def L1 P:=pt (L0 P) [(3,di 54 (en P "__name__" 165 m5::(gl P).take 53)),(12,fi [1,0,20,5,0,27,9,0,47,16,0,73,23,0,99,30,0,125,34,0,144,39,0,163,41,0,168,45,0,175,56,0,182,68,0,189,89,0,237,91,0,244,99,0,251,105,0,258,114,0,263,122,0,268,124,0,273,128,0,280,133,0,285,138,0,292,141,0,299,145,0,304,148,0,311,157,0,316,164,0,323,171,0,330,175,0,337,190,0,344,198,0,351,204,0,356,209,0,363,213,0,370]),(38,cl "VaultError" [.type "ValueError"] [.ref 38,.type "ValueError", .type "Exception", .type "BaseException", .type "object"] 37 [.ref 65,.ref 91,.ref 117,.ref 136,.ref 155] [some (.ref 22),none,some (st "VaultError" 196),some (st "VaultError" 204),some (.builtin "ValueError.__new__"),some (.bool true)])] ([GQ,o9,dA P 5 347 m1 "NoText" 34 [en P "word" 358 (.ref 152),en P "__static_attributes__" 359 (.ref 153)],b7 P,fi [36,4,151],cc "NoText" 342 34 142 143 345,fr 144 141 "dialvault.errors" 194]++(fA P 146 352 "word" "NoText.word" (mp 7 0) 36 1 ["self"] .none m1++([b7 P,dB P 2 347 m1 34 [en P "word" 358 (.ref 152),en P "__static_attributes__" 359 (.ref 153),en P "__doc__" 360 .none],ce "NoText" 38 155 154 [] 139 340 348,su 155,ii 155]++(fT P 158 365 "is_whole" (tp 9) 39 1 ["thing"] m2++(fB P 165 372 "is_row" "is_row" (tp 10) 41 2 .none m2++(fT P 170 378 "common" (tp 11) 45 2 ["one", "other", "row", "behind", "times", "rest"] m2++(fT P 177 390 "multiple_of" (tp 12) 56 1 ["numbers", "multiple", "number"] m2++([b7 P,o9,dA P 9 420 m3 "Vault" 68 [en P "__init__" 430 (.ref 196),en P "sizes" 437 (.ref 203),en P "levers" 444 (.ref 210),en P "prices" 451 (.ref 217),en P "around" 458 (.ref 224),en P "__static_attributes__" 463 (.ref 225)],b7 P,fi [70,4,195,78,4,202,81,4,209,84,4,216,87,4,223],cc "Vault" 415 68 187 188 418,fr 189 186 "dialvault.vault" 399,tu [.none]]++(fB P 192 425 "__init__" "Vault.__init__" (mp 20 0) 70 4 (.ref 191) m3++(fA P 197 431 "sizes" "Vault.sizes" (mp 20 1) 78 1 ["self"] .none m3++(fA P 204 438 "levers" "Vault.levers" (mp 20 2) 81 1 ["self"] .none m3++(fA P 211 445 "prices" "Vault.prices" (mp 20 3) 84 1 ["self"] .none m3++(fA P 218 452 "around" "Vault.around" (mp 20 4) 87 1 ["self"] .none m3++([tu [st "dial_sizes" 459,st "least_round" 460,st "lever_prices" 461,st "lever_settings" 462],dB P 4 420 m3 68 [en P "__init__" 430 (.ref 196),en P "sizes" 437 (.ref 203),en P "levers" 444 (.ref 210),en P "prices" 451 (.ref 217),en P "around" 458 (.ref 224),en P "__static_attributes__" 463 (.ref 225),en P "__dict__" 465 (.ref 228),en P "__weakref__" 467 (.ref 229),en P "__doc__" 468 .none],cl "Vault" [.type "object"] [.ref 227,.type "object"] 226 [] [none,none,some (st "Vault" 413),some (st "Vault" 421),some (.builtin "object.__new__"),some (.bool true)],HS,HF,su 227,ii 227]++(fT P 232 471 "is_within" (tp 21) 89 3 ["thing", "least", "most"] m3++(fT P 239 480 "need_sizes" (tp 22) 91 1 ["sizes", "dial", "size"] m3++(fT P 246 489 "need_levers" (tp 23) 99 2 ["levers", "dials", "place", "lever"] m3++(fT P 253 499 "prices_for" (tp 24) 105 2 ["levers", "prices", "place"] m3++(fB P 260 508 "rests" "rests" (tp 25) 114 2 .none m3++(fB P 265 526 "show_numbers" "show_numbers" (tp 32) 122 1 .none m4++(fB P 270 532 "is_figures" "is_figures" (tp 33) 124 1 .none m4++(fT P 275 538 "read_number" (tp 34) 128 1 ["text", "figures"] m4++(fB P 282 546 "read_numbers" "read_numbers" (tp 35) 133 1 .none m4++(fT P 287 552 "need_text" (tp 36) 138 1 ["thing"] m4++(fT P 294 559 "show_lever" (tp 37) 141 2 ["lever", "price"] m4++(fB P 301 567 "show_vault" "show_vault" (tp 38) 145 1 .none m4++(fT P 306 573 "read_lever" (tp 39) 148 1 ["part", "cut", "notches", "prices"] m4++(fB P 313 583 "read_vault" "read_vault" (tp 40) 157 1 .none m4++(fT P 318 591 "_law_cell" (tp 42) 164 2 ["_law_script", "_law_k", "_law_number_here"] m5++(fT P 325 600 "_law_mix" (tp 43) 171 2 ["_law_cell_here", "_law_k", "_law_number_here"] m5++(fT P 332 609 "_law_same" (tp 44) 175 2 ["_law_found", "_law_due_here", "_law_one", "_law_other"] m5++(fT P 339 619 "_law_number" (tp 45) 190 2 ["_law_cell_here", "_law_k", "_law_number_here", "_law_far"] m5++(fT P 346 629 "_law_sizes" (tp 46) 198 1 ["_law_cell_here", "_law_sizes_here", "_law_k", "_law_number_here"] m5++(fB P 353 639 "_law_levers" "_law_levers" (tp 47) 204 4 .none m5++(fT P 358 645 "_law_sign" (tp 48) 209 1 ["_law_number_here", "_law_some"] m5++(fT P 365 653 "_law_spoiled" (tp 49) 213 2 ["_law_text_here", "_law_cell_here", "_law_at", "_law_way", "_law_parts", "_law_near"] m5))))))))))))))))))))))))))))))))))))
def L2 P:=pt (L1 P) [(3,di 63 (en P "__name__" 165 m5::gl P)),(12,fi [1,0,20,5,0,27,9,0,47,16,0,73,23,0,99,30,0,125,34,0,144,39,0,163,41,0,168,45,0,175,56,0,182,68,0,189,89,0,237,91,0,244,99,0,251,105,0,258,114,0,263,122,0,268,124,0,273,128,0,280,133,0,285,138,0,292,141,0,299,145,0,304,148,0,311,157,0,316,164,0,323,171,0,330,175,0,337,190,0,344,198,0,351,204,0,356,209,0,363,213,0,370,233,0,375,242,0,380,246,0,385,260,0,392,275,0,397,277,0,404,287,0,411,307,0,416,315,0,421])] (fB P 372 665 "_law_number_in" "_law_number_in" (tp 50) 233 1 .none m5++(fB P 377 671 "_law_numbers" "_law_numbers" (tp 51) 242 1 .none m5++(fB P 382 677 "_law_parsed" "_law_parsed" (tp 52) 246 1 .none m5++(fT P 387 683 "_law_wrong" (tp 53) 260 3 ["_law_sizes_here", "_law_levers_here", "_law_prices", "_law_k"] m5++(fB P 394 693 "_law_rests" "_law_rests" (tp 54) 275 2 .none m5++(fT P 399 699 "_law_due" (tp 55) 277 1 ["_law_thing", "_law_parsed_here", "_law_wrong_here"] m5++(fT P 406 708 "_law_read" (tp 56) 287 1 ["_law_thing", "_law_found", "_law_caught", "e", "_law_flags"] m5++(fB P 413 719 "_law_text" "_law_text" (tp 57) 307 3 .none m5++(fB P 418 725 "law" "law" (tp 58) 315 1 .none m5)))))))))
def LF(P:Params):=L2 P
def bE:List Stmt:=behindTheImports pw
def env:Env:={ scope:=pw.main.scope,locals:=mainNs,globals:=mainNs,cells:=[],code:=.ref 13,frame:=some 14 }
def cE:Code:=.body bE env
abbrev B:List Frame:=[topFrame ⟨0,0,0,0⟩]
abbrev ann:Option Value:=(some (.ref 6))
def D2:List Stmt:=(bE.drop 0).take 7
def DV:List Stmt:=(bE.drop 7).take 43
def DP:List Stmt:=(bE.drop 50).take 9
end
theorem wR:∀ w:World,(λos=>topGo treeTable pw w 11 ann 12 ⟨boot_heap w.params,⟨[]⟩,boot_drawn,boot_toks,os⟩ (topStub pw))=λos=>some (F LA 187 w os,⟨denote treeTable cE,cE,⟨0,0,0,0⟩,B⟩):=λw=>by
 rw[PySem.W.Fast.te15667345088766844465,PySem.W.Fast.te14364793385576792824,PySem.W.Fast.te11892475500146522536]
 kernel_rfl
theorem IU:∀ w:World,(λos=>segRun treeTable pw w 11 ann 1 1 (F LA 187 w os) (blockOf bE env cE ⟨0,0,0,0⟩ B))=λos=>some (SX,(S LA 15 187 w os).abs,cE,⟨0,0,0,0⟩):=λw=>by
 rw[PySem.W.Fast.te14374325043358763698,PySem.W.Fast.te14364793385576792824]
 kernel_rfl
theorem JY:∀ w:World,(λos=>segRunT treeTable pw w 11 ann 1 1326 (S LA 15 187 w os) (piecesOf D2 env cE ⟨0,0,0,0⟩ B))=λos=>some (SX,S L0 139 340 w os,cE,⟨30,0,33,25⟩):=λw=>by
 rw[PySem.W.Fast.te10110043849684766642,PySem.W.Fast.te14364793385576792824]
 kernel_rfl
theorem JP:∀ w:World,(λos=>segRunT treeTable pw w 11 ann 1 1495 (S L0 139 340 w os) (piecesOf DV env cE ⟨30,0,33,25⟩ B))=λos=>some (SX,S L1 372 665 w os,cE,⟨213,0,232,32⟩):=λw=>by
 rw[PySem.W.Fast.te10110043849684766642,PySem.W.Fast.te14364793385576792824]
 kernel_rfl
theorem G3:∀ w:World,(λos=>segRunT treeTable pw w 11 ann 1 253 (S L1 372 665 w os) (piecesOf DP env cE ⟨213,0,232,32⟩ B))=λos=>some (SX,S L2 423 731 w os,cE,⟨315,0,330,76⟩):=λw=>by
 rw[PySem.W.Fast.te10110043849684766642,PySem.W.Fast.te14364793385576792824]
 kernel_rfl
theorem x9:∀ w:World,(λos=>topRun treeTable pw w 11 ann 2 (S L2 423 731 w os).abs ⟨doneF .next,cE,⟨315,0,330,76⟩,B⟩)=λos=>some (F LF 731 w os):=λw=>by
 rw[PySem.W.Fast.te14082659384304107361,PySem.W.Fast.te14364793385576792824]
 kernel_rfl
theorem JX:bE=(D2++(DV++(DP++[]))):=by kernel_rfl
theorem yE(w:World)(os:OsState):topRun treeTable pw w 11 ann (1326+(1495+(253+2))) (S LA 15 187 w os).abs (restOf bE env cE ⟨0,0,0,0⟩ B)=some (F LF 731 w os):=by
 rw[show restOf bE env cE ⟨0,0,0,0⟩ B=restOf (D2++(DV++(DP++[]))) env cE ⟨0,0,0,0⟩ B from congrArg (λb=>restOf b env cE ⟨0,0,0,0⟩ B) JX];exact piece_app (segRun_of (congrFun (JY w) os)) (piece_app (segRun_of (congrFun (JP w) os)) (piece_app (segRun_of (congrFun (G3 w) os)) (piece_nil (congrFun (x9 w) os))))
theorem Jf(w:World)(os:OsState):topRun treeTable pw w 11 ann (12+(1+(1326+(1495+(253+2))))) ⟨boot_heap w.params,⟨[]⟩,boot_drawn,boot_toks,os⟩ (topStub pw)=some (F LF 731 w os) :=
 go_top (congrFun (wR w) os) (piece_block (congrFun (IU w) os) (yE w os))
end HD
end
section
namespace HD
open PySem PySem.W L2
noncomputable section
def vw:Program:=PySem.W.view pw [0,2,3,4,5,6,7,9,10,11,12,14,15,16,17,18,19,20,21,22,23,24,25,27,28,29,30,31,32,33,34,35,36,37,38,39,40,42,43,44,45,46,47,48,49,50,51,52,53,54,55,56,57,58]
def loose:List Str:=[]
noncomputable def as:List Addr:=[2,3,15,17,18,20,21,22,29,31,32,34,35,36,37,38,39,42,49,51,52,54,55,56,58,59,61,62,63,64,65,68,75,77,78,80,81,82,84,85,87,88,89,90,91,94,101,103,104,106,107,108,110,111,113,114,115,116,117,120,127,129,130,132,133,134,135,136,139,146,148,149,151,152,153,154,155,158,160,161,163,164,165,168,169,170,172,173,175,176,177,179,180,182,183,191,192,195,196,197,199,200,202,203,204,206,207,209,210,211,213,214,216,217,218,220,221,223,224,225,226,227,228,229,232,234,235,237,238,239,241,242,244,245,246,248,249,251,252,253,255,256,258,259,260,263,264,265,268,269,270,273,274,275,277,278,280,281,282,285,286,287,289,290,292,293,294,296,297,299,300,301,304,305,306,308,309,311,312,313,316,317,318,320,321,323,324,325,327,328,330,331,332,334,335,337,338,339,341,342,344,345,346,348,349,351,352,353,356,357,358,360,361,363,364,365,367,368,370,371,372,375,376,377,380,381,382,385,386,387,389,390,392,393,394,397,398,399,401,402,404,405,406,408,409,411,412,413,416,417,418,421,422]
def K(P:Params):Frag:=as.map λa=>(a,(LF P).getD a (su 0))
def hook:Hook:=kHook K as (λ_=>by kernel_rfl)
abbrev rr:RowW:=(PySem.Challenge.rw_dialvault_k16_vaults_as_texts.row).toRowW
def Xt:Shared->Bool:=λs=>xlAt vw [] s&&recOk (RowW.records rr) s
def H1(P:Params):Heap:=⟨⟨LF P⟩,{}⟩
end
theorem FR:∀ w:World,((boot_heap w.params).isNs mainGlobals&&(Array.mk []:Array GenState).size==0,(boot_heap w.params).objs.size,(boot_heap w.params).nsMap mainGlobals "__annotations__")=(true,11,ann):=λw=>by
 rw[PySem.W.Fast.te8920871248978507458]
 kernel_rfl
theorem JT(w:World):staticsOk (importedModules pw.main.body) (boot_heap w.params) (H1 w.params)=true:=by
 first | (rw[PySem.W.Fast.te4187177175401517315,PySem.W.Fast.te5923862056798008813];kernel_rfl) | (rw[PySem.W.Fast.te4187177175401517315];kernel_rfl) | (rw[PySem.W.Fast.te5923862056798008813];kernel_rfl) | (kernel_rfl)
theorem JU(w:World):namesBound pw (H1 w.params)=true:=by
 first | (rw[PySem.W.Fast.te4187177175401517315,PySem.W.Fast.te5923862056798008813];kernel_rfl) | (rw[PySem.W.Fast.te4187177175401517315];kernel_rfl) | (rw[PySem.W.Fast.te5923862056798008813];kernel_rfl) | (kernel_rfl)
theorem JJ(w:World)(os:_):gensDone ⟨H1 w.params,⟨[]⟩,⟨0,0,0,0⟩,731,os⟩=true:=by
 first | (rw[PySem.W.Fast.te4187177175401517315,PySem.W.Fast.te5923862056798008813];kernel_rfl) | (rw[PySem.W.Fast.te4187177175401517315];kernel_rfl) | (rw[PySem.W.Fast.te5923862056798008813];kernel_rfl) | (kernel_rfl)
theorem JD(w:World):laidKept (boot_heap w.params) (H1 w.params)=true:=by
 first | (rw[PySem.W.Fast.te4187177175401517315,PySem.W.Fast.te5923862056798008813];kernel_rfl) | (rw[PySem.W.Fast.te4187177175401517315];kernel_rfl) | (rw[PySem.W.Fast.te5923862056798008813];kernel_rfl) | (kernel_rfl)
theorem JI(w:World)(os:_):openSeen vw loose (importedModules pw.main.body) Xt true ⟨H1 w.params,⟨[]⟩,⟨0,0,0,0⟩,731,os⟩=openGood vw loose:=by
 first | (rw[PySem.W.Fast.te4187177175401517315,PySem.W.Fast.te5923862056798008813];kernel_rfl) | (rw[PySem.W.Fast.te4187177175401517315];kernel_rfl) | (rw[PySem.W.Fast.te5923862056798008813];kernel_rfl) | (kernel_rfl)
theorem J1(w:World)(os:_):Hook.obs hook ⟨H1 w.params,⟨[]⟩,⟨0,0,0,0⟩,731,os⟩=Hook.val hook w:=by
 first | (rw[PySem.W.Fast.te4187177175401517315,PySem.W.Fast.te5923862056798008813];kernel_rfl) | (rw[PySem.W.Fast.te4187177175401517315];kernel_rfl) | (rw[PySem.W.Fast.te5923862056798008813];kernel_rfl) | (kernel_rfl)
theorem Eh:∀ w:World,(λos=>((staticsOk (importedModules pw.main.body) (boot_heap w.params) (H1 w.params)&&namesBound pw (H1 w.params)&&gensDone ⟨H1 w.params,⟨[]⟩,⟨0,0,0,0⟩,731,os⟩&&laidKept (boot_heap w.params) (H1 w.params)),
  openSeen vw loose (importedModules pw.main.body) Xt true ⟨H1 w.params,⟨[]⟩,⟨0,0,0,0⟩,731,os⟩,Hook.obs hook ⟨H1 w.params,⟨[]⟩,⟨0,0,0,0⟩,731,os⟩))=λ_=>(true,openGood vw loose,Hook.val hook w):=λw=>funext λos=>by
 rw[JT,JU,JJ,JD,JI,J1];rfl
theorem Gg:LeftO pw vw loose Xt (Hook.obs hook) (Hook.val hook) 6268 :=
 LeftO.of_pieces (H₀:=boot_heap) (H₁:=H1) (gs₀:=⟨[]⟩) (gs₁:=⟨[]⟩) (d₀:=boot_drawn) (d₁:=⟨0,0,0,0⟩) (k₀:=boot_toks) (k₁:=731) (m₀:=11) (ann:=ann) (M:=(12+(1+(1326+(1495+(253+2))))))
  (boot_open (by kernel_rfl) (by kernel_rfl) (λs=>by kernel_rfl)) FR Jf (by kernel_rfl) Eh
end HD
end
section
open PySem PySem.W
theorem HD.said:PySem.Challenge.rw_dialvault_k16_vaults_as_texts.wellSaid=true:=by
 decide +kernel
end
namespace L2
open PySem PySem.Spec PyProof.Rows
variable{X:Cx}
variable{n:Nat}
def zI(_ j:Int):Prop:=j≠0/\j.natAbs.log2<9000
theorem zc:fF X (binaryOp .FloorDiv) (rI zI λi j=>.int (i.fdiv j)):=G_ λ_ _ _ _ _ _ _ hc q=>floordiv_int hc.1 q (.inl (PyProof.noPylong_of_log2 hc.2))
theorem Bv:fF X (binaryOp .Mult) (rI (λi j=>IntMulOk i j) λi j=>.int (i*j)):=G_ λ_ _ _ _ _ _ _ hc q=>mul_int q hc
theorem yd{a b:Int}{m:Nat}(ha:a.natAbs<2^m)(hb:b.natAbs<2^n)(h:m+n<=134217728):IntMulOk a b:=IntMulOk.of_le (intBits_le_iff.mpr ha) (intBits_le_iff.mpr hb) h
theorem uq:bootBuiltins "isinstance" = some (.builtin "isinstance"):=by decide +kernel
theorem mG:bootBuiltins "int" = some (.type "int"):=by decide +kernel
theorem v9:bootBuiltins "bool" = some (.type "bool"):=by decide +kernel
theorem kx:bootBuiltins "tuple" = some (.type "tuple"):=by decide +kernel
theorem ke:bootBuiltins "list" = some (.type "list"):=by decide +kernel
theorem iT:bootBuiltins "str" = some (.type "str"):=by decide +kernel
def IE(K:PySem.W.Frag):List V->Hp->VK->Prop:=λxs H Q=>∃ x T t b,xs=[x,.ty T]/\iF K H x t/\PySem.W.kitOne K t (.type T)=some b/\Q (.bl b) H
def Jb(K:PySem.W.Frag):List V->Hp->VK->Prop:=λxs H Q=>∃ x C t b,xs=[x,.ref C]/\iF K H x t/\PySem.W.kitOne K t (.ref C)=some b/\Q (.bl b) H
theorem yy:cO X (.builtin "isinstance") (IE X.K):=by
 intro J2 s σ H xs us Q I r h;obtain⟨x,T,t,b,rfl,ty,e,q⟩:=h;cases r with
 | cons r1 r2 =>
  cases r2 with
  | cons r3 r4 =>
   cases r4;cases (show _=OW T from r3);exact pv I r1 ty e λtk=>⟨.bl b,H,I.tok tk,rfl,q⟩
theorem z6:cO X (.builtin "isinstance") (Jb X.K):=by
 intro J2 s σ H xs us Q I r h;obtain⟨x,C,t,b,rfl,ty,e,q⟩:=h;cases r with
 | cons r1 r2 =>
  cases r2 with
  | cons r3 r4 =>
   cases r4;cases (show _=NQ C from r3);exact pv I r1 ty e λtk=>⟨.bl b,H,I.tok tk,rfl,q⟩
section
variable(K:PySem.W.Frag)
end
variable{a:Addr}{ch:List Addr}{t':Nat}{h':Heap}{s:Shared}{H:Hp}{σ:St}{J2:List (Addr×Obj)}
variable{x1:Nat}{elts:List Expr}{w:World}{P:Program}
theorem Inv.kZ{o:HO}(I:Inv X J2 σ H s)(k:∀ b u,b ∉ ch->s.heap.get? b=some u->h'.get? b=some u)
  (Lx:∀ b∈ch,jk X J2 H b) (hp:s.heap.objs.size<=a) (hl:∀ b∈ch,∃ u,s.heap.get? b=some u) (new:bF X.prog X.w (upd H a o) h' a o):Inv X J2 σ (upd H a o) { s with heap:=h',toks:=t' }:=by
 have ne:∀ b u,s.heap.get? b=some u->b≠a:=λb u e=>NR (NP (NN e) hp);have LZ:H a=none:=I.bg.fresh hp;have Mt:∀ b u,H b=some u->b ∉ ch:=λb u e z=>by rw[(Lx b z).1] at e;cases e
 have Mr:∀ b u,H b=some u->b≠a:=λb u e z=>by rw[z,LZ] at e;cases e
 refine I.step (g':=s.gens) (d':=s.drawn) (ch:=ch) (λb hb=>?_) (λb u _ _ hc e _=>k b u hc e) (λb u _ _ hc e _=>⟨u.slots,k b u hc e⟩)
  (λb u _ e n=>by rw[ar (ne b u e)];exact n) (λb u hc e=>⟨u,k b u hc e⟩)
  (λb xs e=>by rw[ar (Mr b _ e)];exact e) (λb ob u e=>by rw[ar (Mr b _ e)];exact e) (λb ps e=>⟨#[],by rw[ar (Mr b _ e),e];simp⟩) (λm hm=>?_) (λb u e=>?_) I.bare
 .obtain⟨_,f1,_,f3,f4,f5⟩:=Lx b hb;exact⟨f3,f1,f4,f5⟩
 .obtain⟨ob,es,ep,ho,r⟩:=hm;exact⟨ob,es,ep,k _ ob (λz=>(Lx _ z).2.1 rfl) ho,r⟩
 .by_cases z:b=a
  .subst z;rw[av] at e;cases e;exact new
  .rw[ar z] at e;refine(I.bg b u e).jU (λc v hc q=>k c v ?_ q) (λc q=>?_) λc ys q=>?_
   .rcases hc with z' | z'
    .rw[z'];exact Mt b u e
    .exact Mt c _ z'
   .rw[ar (Mr c _ q)];exact q
   .rw[ar (Mr c _ q)];exact q
def Ff (K : PySem.W.Frag) (a : Addr) : It :=
  ⟨λi H => ∃ xs x, gK K H a xs /\ xs[i]? = some x,
   λi H y H' => ∃ p x, H p = none /\ y = .ref p /\ H' = upd H p (.tup [.int i, x]) /\ ∀ xs, gK K H a xs -> xs[i]? = some x,
   λi H => ∃ xs, gK K H a xs /\ xs.length <= i⟩
theorem wG{K:PySem.W.Frag}{tp:Pos}(a e it:Addr)(Me:e≠it):Turn P w K (.Tuple elts x1 tp) (Ff K a) [e,it] e (λi h=>(∃ old,IsEnum h e it i old)/\h.IsListIter it a i) where
 mem:=by simp
 obj:=λi h st b hb=>by
  obtain⟨⟨old,he⟩,⟨o,e1,c,d⟩⟩:=st;rcases NU.mp hb with z | z
  .subst z;exact⟨_,he,λv z=>by cases z⟩
  .have z':b=it:=by simpa using z
   subst z';exact⟨o,e1,λv z=>by rw[d] at z;cases z⟩
 keep:=λi h h' st k=>by
  obtain⟨⟨old,he⟩,hit⟩:=st;exact⟨⟨old,k e (by simp) _ he⟩,hit.at λo x=>k it (by simp) o x⟩
 item:=by
  intro X hP hw hK hc i J2 s σ H E I hf st hg;subst hP hw hK;obtain⟨xs,x,hq,hx⟩:=hg;obtain⟨J6,rv,p,hz⟩:=I.list hq;obtain⟨u,hu,ru⟩:=rv.get hx;obtain⟨⟨old,he⟩,hit⟩:=st;have Mm:e<s.heap.objs.size:=NN he;have MJ:it<s.heap.objs.size:=by obtain⟨_,z,_⟩:=hit;exact NN z
  refine wpAny_pyNext_enum_item he hit p.isList (x:=u) (by simpa using hu) Me λh' ho MK hT Lh hk=>⟨_,rfl,?_⟩
  refine Q8 (s:={ s with heap:=h',toks:=s.toks+1 }) ho λh2 he2 LQ=>?_;have Mq:∀ b o,b ∉ [e,it]->s.heap.get? b=some o->h2.get? b=some o:=λb o hb q=>by
   have n1:b≠e:=λz=>hb (by simp[z]);have n2:b≠it:=λz=>hb (by simp[z]);exact(LQ.2 b n1).trans (hk b o n1 n2 q)
  have Mz:h2.get? s.heap.objs.size=some { cls:=.type "tuple", data:=.seq #[.int i s.toks,u] }:=(LQ.2 _ (Py Mm)).trans hT;have I2:Inv X J2 σ (upd H s.heap.objs.size (.tup [.int i,x])) { s with heap:=h2,toks:=s.toks+1 } :=
   I.kZ (ch:=[e,it]) Mq hf (NK _) (λb hb=>by
    rcases NU.mp hb with z | z
    .subst z;exact⟨_,he⟩
    .have z':b=it:=by simpa using z
     subst z';obtain⟨o,z,_⟩:=hit;exact⟨o,z⟩)
    ⟨by show 2<=sizeLine;decide,[.int i s.toks,u],.cons ⟨_,rfl⟩ (.cons ru .nil),⟨_,Mz,rfl,_,rfl⟩⟩
  have Lk:H s.heap.objs.size=none:=I.bg.fresh (NK _);refine⟨.ref s.heap.objs.size,_,I2,rfl,⟨_,x,Lk,rfl,rfl,λys hy=>by rw[I.nM hy hq];exact hx⟩,⟨⟨u,by simpa using he2⟩,MK.at λo z=>(LQ.2 it (O4 Me)).trans z⟩,λb hb=>?_⟩;have nb:b≠s.heap.objs.size:=by
   rcases NU.mp hb with z | z
   .rw[z];exact NR Mm
   .have z':b=it:=by simpa using z
    rw[z'];exact NR MJ
  rw[ar nb];exact(hf b hb).1
 done:=by
  intro X hP hw hK hc i J2 s σ H E I hf st hg;subst hP hw hK;obtain⟨xs,hq,hx⟩:=hg;obtain⟨J6,rv,p,hz⟩:=I.list hq;have hl:=rv.length;obtain⟨⟨old,he⟩,hit⟩:=st;obtain⟨f0,f1,f2,f3,f4,f5⟩:=hf it (by simp);exact wpAny_pyNext_enum_end (I.ok.hd hc) he hit p.isList (by simp;lia) λh' eb=>⟨rfl,I.turned (t':=s.toks) (λb o hb e=>eb b o hb e) f0 f1 f3 f4 f5⟩
 self:=λ_ _ _ _ _ st h=>by
  obtain⟨⟨old,he⟩,_⟩:=st;exact Qy he h
variable{A:Around}{prog:Program}
variable{pos:Pos}{scope:Scope}{ifs:List Expr}{elt iter:Expr}
section
variable{R:Result->Shared->Prop}
theorem wI{target:Expr}{it acc:Value}{env:Env}(I:Nat->Shared->Prop)
  (turn:∀ n s,I n s->wpAny (model prog w) A (pyNext it) (λr s₁=>match r with
   | none=>R (.ok .next) s₁
   | some v=>wpAny (model prog w) A (letOwnedTupleGo target it v) (λ_ s₂=>wpAny (model prog w) A (assign target env v) (λ_ s₃ =>
     wpAny (model prog w) A (forIn ifs true λc r=>if r=true then do let ok <- isTrue c env (eval c env);pure (QN ok) else pure (QN r)) (λok s₄ =>
      if ok=true then wpAny (model prog w) A (eval elt env) (λx s₅ =>
       wpAny (model prog w) A (call (.builtin "list.append") [acc,x]) (λ_ s₆=>∃ m,m<n/\I m s₆) (λ_ _=>False) s₅) (λ_ _=>False) s₄
      else ∃ m,m<n/\I m s₄) (λ_ _=>False) s₃) (λ_ _=>False) s₂) (λ_ _=>False) s₁) (λ_ _=>False) s)
  (n:Nat) (h:I n s) :
  codeAny (model prog w) A (.compLoop (.ListComp elt [⟨target,iter,ifs,0⟩] scope pos) 0 it acc env) R s:=by
 refine codeAny_loop rfl I (λn s hI=>?_) n h;show wpAny _ A ((compTurn (.ListComp elt [⟨target,iter,ifs,0⟩] scope pos) 0 it acc env).onRaise (λx=>do noteFrame x env;theTreesLotGoes x)) _ _ s;refine wpAny_noted ?_;rw[compTurn_list];refine NB (PB (NB (N8 (turn n s hI) (λr s₁ h₁=>?_) λ_ _ h'=>h'.elim)));cases r with
 | none=>exact NH h₁
 | some v =>
  refine NB (N8 h₁ (λ_ s₂ h₂=>NB (N8 h₂ (λ_ s₃ h₃=>NB (N8 h₃ (λok s₄ h₄=>?_) λ_ _ h'=>h'.elim)) λ_ _ h'=>h'.elim)) λ_ _ h'=>h'.elim);cases ok with
  | false=>exact NH ⟨rfl,h₄⟩
  | true =>
   exact NB (NB (N8 h₄ (λx s₅ h₅=>NB (N8 h₅ (λ_ s₆ h₆=>NH (NH ⟨rfl,h₆⟩)) λ_ _ h'=>h'.elim)) λ_ _ h'=>h'.elim))
end
def kO(X:Cx)(scope:Scope)(cl:List (Str×Addr))(N:List Str)(C:Addr)(s₀:Shared)(H₀:Hp)(ex:List Addr)(J2:List (Addr×Obj)):Cx :=
 { X with N:=N,s₀:=s₀,H₀:=H₀,env:=compEnvC scope cl C X.env,outer:=X.stack,stack:=X.stack,ex:=ex,fn:=λ_=>false,pn:=X.pn++J2,xe:=λ_ _=>False }
inductive eB (X:Cx) (sc:Scope) (cl:List (Str×Addr)):List Str->List Nat->Prop where
 | nil:eB X sc cl [] []
 | cons {x:Str} {j:Nat} {c:Addr} {fs:List Str} {js:List Nat} (hN:X.N[j]?=some x) (hf:sc.names.lookup x=some .free) (hv:X.env.kindOf x=some .cell\/X.env.kindOf x=some .free) (hc:X.env.cells.lookup x=some c) (hl:cl.lookup x=some c) (r:eB X sc cl fs js):eB X sc cl (x::fs) (j::js)
inductive c6 (X:Cx):List (Str×Addr)->Prop where
 | nil:c6 X []
 | cons {x:Str} {c:Addr} {r:List (Str×Addr)} (h:X.env.cells.lookup x=some c) (t:c6 X r):c6 X ((x,c)::r)
theorem c6.at{X:Cx}:∀ {cl:List (Str×Addr)},c6 X cl->∀ x c,cl.lookup x=some c->X.env.cells.lookup x=some c
 | _,.nil,_,_,e=>by simp at e
 | _,.cons (x:=y) (c:=d) h t,x,c,e=>by
  rw[Oq] at e;cases q:x==y with
  | true =>
   rw[q] at e;have e':d=c:=NX e;have q':x=y:=by simpa using q
   rw[q',<- e'];exact h
  | false =>
   rw[q] at e;exact c6.at t x c e
def dY(cl:List (Str×Addr))(names:List (Str×NameKind)):Bool:=names.all λy=>y.2 != .free||(cl.lookup y.1).isSome
def dw(names:List (Str×NameKind)):Bool:=names.all λy=>y.2 != .cell
def d_(names:List (Str×NameKind)):Bool:=names.all λy=>y.2 != .local||(names.lookup y.1==some .local)
def cN(ts:List Str)(js:List Nat)(σ:St):St:=ts.map (λ_=>none)++js.map λj=>(σ[j]?).join
def vy(wi:TI)(g:TG)(tt:Option TT)(te:TE)(ts:List Str)(js:List Nat):TE:=fun σ H Q=>wi σ H λJ H1=>∀ D,H1 D=none ->
 ∃ W:Nat->Nat->St->Hp->Prop,(∃ m,W 0 m (cN ts js σ) (upd H1 D (.lst [])))/\∀ i m σ' H',W i m σ' H' ->
  (J.stop i H'/\Q (.ref D) H')\/(J.go i H'/\∃ N:St->Hp->Prop,(∀ σ'' H'',N σ'' H''->∃ m',m'<m/\W (i+1) m' σ'' H'') ∧
   ∀ x H2,J.rD i H' x H2->g x σ' H2 fun σ2 H3=>match tt with
    | none=>te σ2 H3 λy H4=>∃ ys,H4 D=some (.lst ys)/\ys.length<sizeLine/\N σ2 (upd H4 D (.lst (ys++[y])))
    | some t=>t σ2 H3 λb M0=>if b=true then te σ2 M0 λy H4=>∃ ys,H4 D=some (.lst ys)/\ys.length<sizeLine/\N σ2 (upd H4 D (.lst (ys++[y]))) else N σ2 M0)
variable{x:Str}{C:Addr}
theorem iO {cl : List (Str × Addr)} {env : Env} (h : (compEnvC scope cl C env).kindOf x = some .cell \/ (compEnvC scope cl C env).kindOf x = some .free) (nc : dw scope.names = true) : scope.names.lookup x = some .free := by
  have key : ∀ (names : List (Str × NameKind)), dw names = true ->
      ((names.map λ(n, k) => if (k == PY && env.scope.kind == .function && env.kindOf n == some .cell) then (n, Rn) else (n, k)).lookup x = some .cell ∨
       (names.map λ(n, k) => if (k == PY && env.scope.kind == .function && env.kindOf n == some .cell) then (n, Rn) else (n, k)).lookup x = some .free) -> names.lookup x = some .free := by
    intro names
    induction names with
    | nil => intro _ h; simp at h
    | cons p r ih =>
      obtain ⟨n, k⟩ := p;intro nc h;have nc' : (k != .cell) = true /\ dw r = true := by
        unfold dw at nc;rw [PF, Oz] at nc;exact nc
      rw [N5] at h;dsimp only at h
      by_cases hc : (k == PY && env.scope.kind == .function && env.kindOf n == some .cell) = true
      . rw [if_pos hc] at h;rw [Oq] at h ⊢;cases q : x == n with
        | true =>
          have : k = .free := by
            rw [Oz, Oz] at hc;simpa using hc.1.1
          rw [this]
        | false =>
          rw [q] at h;exact ih nc'.2 h
      . rw [if_neg hc] at h;rw [Oq] at h ⊢;cases q : x == n with
        | true =>
          rw [q] at h;have nk : k ≠ .cell := by simpa using nc'.1
          rcases h with h | h
          . exact absurd (NX h) nk
          . exact h
        | false =>
          rw [q] at h;exact ih nc'.2 h
  exact key scope.names nc h
variable{js:List Nat}{ts:List Str}{te:TE}{tt:Option TT}{J_:Pos}{tg:Expr}
theorem r8{cl:List (Str×Addr)}{wi:TI}{g:TG}{fs:List Str}(J8:X.calm=true)
  (Kb:closureFor scope X.env=pure cl) (hk:scope.kind=.function) (nc:dw scope.names=true) (lo:d_ scope.names=true) (fh:dY cl scope.names=true) (ag:c6 X cl) (fr:eB X scope cl fs js)
  (hi:PI X tg iter wi) (hg:∀ C s₀ H₀ ex J2,PG (kO X scope cl (ts++fs) C s₀ H₀ ex J2) tg g)
  (ht:∀ C s₀ H₀ ex J2,match ifs,tt with | [],none=>True | [c],some t=>PT (kO X scope cl (ts++fs) C s₀ H₀ ex J2) c t | _,_=>False)
  (he:∀ C s₀ H₀ ex J2,PE (kO X scope cl (ts++fs) C s₀ H₀ ex J2) elt te)
  (hs:∀ x,foldedSetIterable iter X.env x=pure x) {Q:VK} (I:Inv X J2 σ H s) (h:vy wi g tt te ts js σ H Q)
  (use:Option (Value->Sem Unit)) (Qv:Value->Shared->Prop)
  (x9:∀ (D:Addr) (H':Hp) (s':Shared) (C:Addr),Inv X J2 σ H' s'->Q (.ref D) H'->(∃ m,s'.heap.Ns C m)->jk X J2 H' C->compPost (model X.prog X.w) X.A X.xe use Qv (.ref D) C (.ok .next) s') :
  wpAny (model X.prog X.w) X.A (comprehension (.ListComp elt [⟨tg,iter,ifs,0⟩] scope pos) scope X.env J_ (newList []) false (eval iter X.env) use) Qv X.xe s:=by
 have Lw:∀ y∈scope.names,y.2≠.cell:=λy hy=>by
  have:=NY.mp nc y hy;simpa using this
 have LS:∀ y∈scope.names,y.2=.local->scope.names.lookup y.1=some .local:=λy hy hl=>by
  have:=NY.mp lo y hy;rw[hl] at this;simpa using this
 refine wpAny_comprehension_free (use:=use) rfl hs Kb hk LS (b_ (hi J2 s σ H _ I h) λv s1 h1=>b_ h1 λitv s2 h2=>?_);obtain⟨it,fp,tn,J,H1,e,I2,T,Mb,f2,hJ⟩:=h2;subst e;refine OR (R0 Lw (by intro y hy;simp at hy) (λh₁ hns1 hsb1=>?_) hk);dsimp only at hns1 hsb1 ⊢;generalize hH2:s2.heap.push { cls:=.type "list", dict:=none,data:=.seq ([]:List Value).toArray }=G at hns1 hsb1 ⊢;have hC:G.objs.size=s2.heap.objs.size+1:=by rw[<- hH2,Ow]
 have old:∀ b o,s2.heap.get? b=some o->h₁.get? b=some o:=λb o e=>by
  have hb:=NN e;refine hsb1.extBut b o (NR (NP hb (Qs (by rw[hC];exact Ox _)))) (NF _ ?_);rw[<- hH2];exact NF _ e
 have MH:h₁.get? s2.heap.objs.size=some { cls:=.type "list", dict:=none,data:=.seq #[] }:=by
  refine hsb1.extBut _ _ (NR (by rw[hC];exact Ox _)) (NF _ ?_);rw[<- hH2];exact NO _ rfl
 have nD:H1 s2.heap.objs.size=none:=I2.bg.fresh (NK _);have nC:H1 G.objs.size=none:=I2.bg.fresh (by lia);obtain⟨W,⟨m0,w0⟩,turn⟩:=hJ _ nD;have Mo:∀ b∈fp,b<s2.heap.objs.size:=λb hb=>by
  obtain⟨o,e,_⟩:=T.obj _ _ Mb b hb;exact NN e
 have Nx:∀ (x:Str) (c:Addr),cl.lookup x=some c->c<s2.heap.objs.size/\H1 c=none/\(∃ v,s2.heap.IsCell c v):=λx c e=>by
  have e':=ag.at x c e;obtain⟨v,q⟩:=I2.cell x c e';exact⟨q.lt,I2.fm x c e',v,q⟩
 let X':=kO X scope cl (ts++fs) G.objs.size s2 H1 fp J2
 have MS:X'.Ok:=by
  refine⟨I2.ok.mod,hk,I2.ok.glob,I2.ok.blt,by show s2.heap.objs.size<=G.objs.size;lia,λx y c e1 e2=>I2.ok.inj x y c (ag.at x c e1) (ag.at y c e2),λx hx=>?_,λx c hf _=>(nomatch (show (false:Bool)=true from hf)),I2.ok.hd,I2.ok.frames,.inl rfl,λb hb=>⟨?_,λx c e z=>?_⟩,λb o e=>I2.bs b o e,N3 I2.ok.xD I2.sz,λb o e hb=>?_,λb hb hz=>?_,I2.stack,λb hb=>I2.j3 b hb⟩
  .have Ly:=iO (env:=X.env) hx nc;have hm:∃ y∈scope.names,y.1=x/\y.2=.free:=by
    have:∀ (l:List (Str×NameKind)),l.lookup x=some .free->∃ y∈l,y.1=x/\y.2=.free:=by
     intro l
     induction l with
     | nil=>intro h;simp at h
     | cons p r ih =>
      intro h;rw[Oq] at h;cases q:x==p.1 with
      | true =>
       rw[q] at h;exact⟨p,NJ,(by simpa using q:x=p.1).symm,NX h⟩
      | false =>
       rw[q] at h;obtain⟨y,hy,r1,r2⟩:=ih h;exact⟨y,NI _ hy,r1,r2⟩
    exact this _ Ly
   obtain⟨y,hy,r1,r2⟩:=hm;have:=NY.mp fh y hy;rw[r2] at this;have h':(cl.lookup y.1).isSome=true:=by simpa using this
   rw[r1] at h';exact PC.mp h'
  .exact NR (NP (Mo b hb) (by show s2.heap.objs.size<=G.objs.size;lia))
  .exact(f2 b hb).2.2.2.2.1 x c (ag.at x c e) z
  .obtain⟨_,_,_,f3,_,_⟩:=f2 b hb;rcases f3 with z | z
   .exact I2.ok.oM b o e z
   .exact absurd (NP (NN (I2.ok.bs b o e).1) z) (O_ _)
  .rcases NU.mp (I2.lC b hz) with z | z
   .exact(f2 b hb).2.1 z
   .exact(f2 b hb).2.2.1 z
 have Nw:∀ b o,s2.heap.get? b=some o->h₁.get? b=some o:=old;have I3:Inv X' [] (cN ts js σ) (upd H1 s2.heap.objs.size (.lst [])) { s2 with heap:=h₁,toks:=s2.toks+([]:List (Str×Value)).length }:=by
  have neD:∀ b o,s2.heap.get? b=some o->b≠s2.heap.objs.size:=λb o e=>NR (NN e);refine⟨MS,rfl,I2.bare,⟨λb o e n hb hx=>old b o e,λb o e n hb hx=>⟨o.slots,old b o e⟩,λb o e n hx=>by rw[ar (neD b o e)];exact n,λb o e hx=>⟨o,old b o e⟩,λb xs e=>?_,λb o u e=>?_,λb ps e=>?_⟩,⟨_,hns1,λi x v e1 e2 e3=>?_⟩,λx c e=>?_,?_,λx c e=>?_,λp hp=>?_,?_,?_⟩
  .rw[ar (bh e nD)];exact e
  .rw[ar (bh e nD)];exact e
  .exact⟨#[],by rw[ar (bh e nD)];exact Of e (by simp)⟩
  .
   have hlen:(ts.map (λ_=>(none:Option V))).length=ts.length:=ND _;unfold cN at e2
   by_cases Kv:i<ts.length
   .rw[Ob (by rw[hlen];exact Kv),NZ] at e2;cases q:ts[i]? <;> rw[q] at e2 <;> cases e2
   .rw[N6 (by rw[hlen];lia),hlen] at e2;have Mg:fs[i-ts.length]?=some x:=by
     have Mg:(ts++fs)[i]?=some x:=e1;rw[N6 (by lia)] at Mg;exact Mg
    have all:∀ {fs:List Str} {js:List Nat},eB X scope cl fs js->∀ k:Nat,fs[k]?=some x->(js.map λj=>(σ[j]?).join)[k]?=some (some v) ->
      ∃ (j:Nat) (c:Addr),X.N[j]?=some x/\σ[j]?=some (some v)/\(X.env.kindOf x=some .cell\/X.env.kindOf x=some .free)/\X.env.cells.lookup x=some c/\cl.lookup x=some c/\scope.names.lookup x=some .free:=by
     intro fs js r
     induction r with
     | nil=>intro k e;simp at e
     | @cons y j c fs js hN hf hv hc hl r ih =>
      intro k e e';cases k with
      | zero =>
       have e0:y=x:=by simpa using e
       subst e0;have Mf:(σ[j]?).join=some v:=by simpa using e'
       refine⟨j,c,hN,?_,hv,hc,hl,hf⟩;cases q:σ[j]? with
       | none=>rw[q] at Mf;cases Mf
       | some z=>rw[q] at Mf;cases z with
        | none=>cases Mf
        | some z =>
         have:z=v:=by simpa using Mf
         rw[this]
      | succ k=>exact ih k (by simpa using e) (by simpa using e')
    obtain⟨j,c,q1,q2,q3,q4,q5,q6⟩:=all fr (i-ts.length) Mg e2;obtain⟨m,hn,hl⟩:=I2.loc;have vis:yW X.env.scope x:=by
     rcases q3 with z | z
     .exact .inr (.inl z)
     .exact .inr (.inr z)
    obtain⟨u,ru,lk⟩:=hl j x v q1 q2 vis;refine⟨u,ru,.inr ⟨?_,c,q5,?_⟩⟩
    .rcases e3 with z | z | z
     .exfalso;have key:∀ (l:List (Str×NameKind)),(l.map λ(n,k)=>if (k==PY&&X.env.scope.kind==.function&&X.env.kindOf n==some .cell) then (n,Rn) else (n,k)).lookup x=some .local->l.lookup x=some .local:=by
       intro l
       induction l with
       | nil=>intro h;simp at h
       | cons p r ih =>
        obtain⟨n,k⟩:=p;intro h;rw[N5] at h;dsimp only at h
        by_cases hc:(k==PY&&X.env.scope.kind==.function&&X.env.kindOf n==some .cell)=true
        .rw[if_pos hc] at h;rw[Oq] at h ⊢;cases q:x==n with
         | true=>rw[q] at h;cases h
         | false=>rw[q] at h;exact ih h
        .rw[if_neg hc] at h;rw[Oq] at h ⊢;cases q:x==n with
         | true=>rw[q] at h;exact h
         | false=>rw[q] at h;exact ih h
      have:=key _ z;rw[q6] at this;cases this
     .exact .inl z
     .exact .inr z
    .rcases lk with ⟨k,_⟩ | ⟨_,c',e4,z⟩
     .rcases q3 with z | z <;> rw[z] at k <;> cases k
     .rw[q4] at e4;cases e4;obtain⟨o,ho,hd⟩:=z;exact⟨o,old c o ho,hd⟩
  .obtain⟨_,_,v,o,ho,hd⟩:=Nx x c e;exact⟨v,o,old c o ho,hd⟩
  .show upd H1 s2.heap.objs.size (.lst []) G.objs.size=none;rw[ar (Py (by rw[hC];exact Ox _))];exact nC
  .obtain⟨q1,q2,_⟩:=Nx x c e;rw[ar (NR q1)];exact q2
  .have My:p∈X.pn++J2:=by
    have:p∈(X.pn++J2)++[]:=hp
    rwa [Oh] at this
   obtain⟨e,n,ne,nf,d⟩:=I2.pin p My;have Kv:=NN e;refine⟨old _ _ e,by rw[ar (NR Kv)];exact n,?_,λhz=>?_,d⟩
   .show p.1≠G.objs.size;exact NR (RE Kv (by rw[hC];exact Ox _))
   .rcases NU.mp (I2.lC _ hz) with z | z
    .exact ne z
    .exact nf z
  .exact I2.bg.laid old (NK _) ⟨OQ _,[],0,.nil,MH⟩
  .show (cN ts js σ).length=(ts++fs).length;have frl:∀ {fs:List Str} {js:List Nat},eB X scope cl fs js->fs.length=js.length:=by
    intro fs js r
    induction r with
    | nil=>rfl
    | cons _ _ _ _ _ _ ih=>rw[NS,NS,ih]
   unfold cN;rw[NW,NW,ND,ND,frl fr]
 have Le:∀ {H':Hp},(∀ b∈fp,H' b=none)->∀ b∈fp,jk X' [] H' b:=λ{H'} hn b hb=>by
  obtain⟨_,f1,f3,_,f4,f5⟩:=f2 b hb;refine⟨hn b hb,MS.E3 b hb |>.1,MS.qI b hb,.inl hb,λx c e=>f4 x c (ag.at x c e),λp hp=>f5 p ?_⟩;have:p∈(X.pn++J2)++[]:=hp
  rwa [Oh] at this
 have fin:∀ {σ':St} {H':Hp} {s':Shared},Inv X' [] σ' H' s'->Q (.ref s2.heap.objs.size) H' ->
   compPost (model X.prog X.w) X.A X.xe use Qv (.ref s2.heap.objs.size) G.objs.size (.ok .next) s':=by
  intro σ' H' s' I4 q;obtain⟨m,hn,_⟩:=I4.loc;have fC:H' G.objs.size=none:=I4.free;have Io:Inv X J2 σ H' s':=by
   refine I2.o8 (s':=s') (ch:=fp) I4.os ⟨λb o e n hb hx=>?_,λb o e n hb hx=>?_,λb o e n hx=>I4.base.free b o e n hx,λb o e hx=>?_,I4.base.lB,I4.base.iX,I4.base.kY⟩ I4.bg I4.bare λb hb=>?_
   .exact I4.base.keep b o e n hb hx
   .exact I4.base.slot b o e n hb hx
   .exact I4.base.there b o e hx
   .obtain⟨_,f1,_,f3,f4,f5⟩:=f2 b hb;exact⟨f3,f1,f4,f5⟩
  have M9:s2.heap.objs.size<=G.objs.size:=by rw[hC];exact P4 _
  exact x9 _ H' s' _ Io q ⟨m,hn⟩ (I2.om M9 fC)
 have loop:∀ s3:Shared,s3={ s2 with heap:=h₁,toks:=s2.toks+([]:List (Str×Value)).length } ->
   codeAny (model X.prog X.w) X.A (.compLoop (.ListComp elt [⟨tg,iter,ifs,0⟩] scope pos) 0 (.ref it) (.ref s2.heap.objs.size) (compEnvC scope cl G.objs.size X.env))
    (compPost (model X.prog X.w) X.A X.xe use Qv (.ref s2.heap.objs.size) G.objs.size) s3:=by
  rintro s3 rfl;refine wI (λn s'=>∃ i σ' H',Inv X' [] σ' H' s'/\tn i s'.heap/\(∀ b∈fp,H' b=none)/\W i n σ' H') ?_ m0 ⟨0,_,_,I3,T.keep _ _ _ Mb λb _ o e=>old b o e,λb hb=>?_,w0⟩
  .rintro n s3 ⟨i,σ3,H3,I3,st3,fr3,w3⟩;rcases turn i n σ3 H3 w3 with ⟨stop,qn⟩ | ⟨go,N,hN,step⟩
   .refine b_ (T.done X' rfl rfl rfl J8 i [] s3 σ3 H3 _ I3 (Le fr3) st3 stop) λr s4 ⟨hr,I4⟩=>?_;subst hr;exact fin I4 qn
   .refine b_ (T.item X' rfl rfl rfl J8 i [] s3 σ3 H3 _ I3 (Le fr3) st3 go) λr s4 ⟨u,hr,h4⟩=>?_;subst hr;refine b_ h4 λ_ s5 ⟨x,H5,I5,r5,y5,st5,fr5⟩=>?_;have M3:=I5.pinned (Le fr5) (T.obj _ _ st5);refine b_ (hg _ _ _ _ _ _ s5 σ3 H5 x u _ M3 r5 (step x H5 y5)) λ_ s6 ⟨σ6,H6,I6,q6⟩=>?_;have again:∀ {σ7:St} {H7:Hp} {s7:Shared},Inv X' ([]++iU fp s5.heap) σ7 H7 s7->N σ7 H7->∃ m,m<n/\∃ i σ' H',Inv X' [] σ' H' s7/\tn i s7.heap/\(∀ b∈fp,H' b=none)/\W i m σ' H':=λ{σ7 H7 s7} I7 n7=>by
     obtain⟨m',hm,w7⟩:=hN σ7 H7 n7;refine⟨m',hm,i+1,σ7,H7,I7.iR,T.keep _ _ _ st5 λb hb o e=>(I7.pin (b,o) (N1 _ (N1 _ (eT hb e)))).1,λb hb=>?_,w7⟩;obtain⟨o,e,d⟩:=T.obj _ _ st5 b hb;exact(I7.pin (b,o) (N1 _ (N1 _ (eT hb e)))).2.1
    have tail:∀ {H7:Hp} {s7:Shared},Inv X' ([]++iU fp s5.heap) σ6 H7 s7->(te σ6 H7 λy H4=>∃ ys,H4 s2.heap.objs.size=some (.lst ys)/\ys.length<sizeLine/\N σ6 (upd H4 s2.heap.objs.size (.lst (ys++[y])))) ->
      wpAny (model X.prog X.w) X.A (eval elt (compEnvC scope cl G.objs.size X.env)) (λx s₅=>wpAny (model X.prog X.w) X.A (call (.builtin "list.append") [.ref s2.heap.objs.size,x])
       (λ_ s₆=>∃ m,m<n/\∃ i σ' H',Inv X' [] σ' H' s₆/\tn i s₆.heap/\(∀ b∈fp,H' b=none)/\W i m σ' H') (λ_ _=>False) s₅) (λ_ _=>False) s7:=by
     intro H7 s7 I7 q7;refine b_ (he _ _ _ _ _ _ s7 σ6 H7 _ I7 q7) λuy s8 ⟨y,H8,I8,ry,ys,hy,hl,q8⟩=>?_;refine b_ (lq (X:=X') _ s8 σ6 H8 (.ref s2.heap.objs.size) [y] (.ref s2.heap.objs.size) [uy] (λ_ H9=>N σ6 H9) I8 rfl (.cons ry .nil) ⟨_,ys,y,rfl,rfl,hy,hl,q8⟩) λ_ s9 ⟨_,H9,I9,_,q9⟩=>?_;exact again I9 q9
    cases ifs with
    | nil =>
     cases tt with
     | none=>exact wpAny_tests_nil (tail I6 q6)
     | some t=>exact(ht 0 s2 H1 [] []).elim
    | cons c r =>
     cases r with
     | nil =>
      cases tt with
      | none=>exact(ht 0 s2 H1 [] []).elim
      | some t =>
       refine wpAny_tests_one (b_ (ht G.objs.size s2 H1 fp J2 _ s6 σ6 H6 _ I6 q6) λb s7 ⟨H7,I7,q7⟩=>?_);cases b with
       | true =>
        rw[if_pos rfl] at q7 ⊢;exact tail I7 q7
       | false =>
        rw[if_neg OC] at q7 ⊢;exact again I7 q7
     | cons _ _=>cases tt <;> exact(ht 0 s2 H1 [] []).elim
  .rw[ar (NR (Mo b hb))];exact(f2 b hb).1
 exact RG (loop _ rfl) (T.self _ 0 _ _ _ (T.keep _ _ _ Mb λb _ o e=>old b o e) (loop _ rfl))
theorem Inv.other(I:Inv X J2 σ H s)(f:jk X J2 H C)(hs:Px C s.heap h'):Inv X J2 σ H { s with heap:=h' }:=by
 obtain⟨f0,f1,_,f3,f4,f5⟩:=f;refine I.o8 (s':={ s with heap:=h' }) (ch:=[C]) rfl ⟨λb o e n hb hx=>?_,λb o e n hb hx=>?_,λb o e n hx=>n,λb o e hx=>?_,λ_ _ q=>q,λ_ _ _ q=>q,λb ps q=>⟨#[],by rw[q];simp⟩⟩ (λb u e=>?_) I.bare λb hb=>?_
 .exact(hs.2 b (λz=>hx (by rw[z];exact N9.mpr rfl))).trans e
 .exact⟨o.slots,(hs.2 b (λz=>hx (by rw[z];exact N9.mpr rfl))).trans e⟩
 .exact⟨o,(hs.2 b (λz=>hx (by rw[z];exact N9.mpr rfl))).trans e⟩
 .refine(I.bg b u e).jU (λc v hc q=>(hs.2 c ?_).trans q) (λ_ q=>q) λ_ _ q=>q;rcases hc with z | z
  .rw[z];exact bh e f0
  .exact bh z f0
 .rw[N9.mp hb];exact⟨f3,f1,f4,f5⟩
theorem u5{cl:List (Str×Addr)}{wi:TI}{g:TG}{fs:List Str}(J8:X.calm=true)
  (Kb:closureFor scope X.env=pure cl) (hk:scope.kind=.function) (nc:dw scope.names=true) (lo:d_ scope.names=true) (fh:dY cl scope.names=true) (ag:c6 X cl) (fr:eB X scope cl fs js)
  (hi:PI X tg iter wi) (hg:∀ C s₀ H₀ ex J2,PG (kO X scope cl (ts++fs) C s₀ H₀ ex J2) tg g)
  (ht:∀ C s₀ H₀ ex J2,match ifs,tt with | [],none=>True | [c],some t=>PT (kO X scope cl (ts++fs) C s₀ H₀ ex J2) c t | _,_=>False)
  (he:∀ C s₀ H₀ ex J2,PE (kO X scope cl (ts++fs) C s₀ H₀ ex J2) elt te)
  (hs:autoParam (∀ x,foldedSetIterable iter X.env x=pure x) aI._auto_1) :
  PE X (.ListComp elt [⟨tg,iter,ifs,0⟩] scope pos) (vy wi g tt te ts js):=by
 intro J2 s σ H Q I h;rw[eval_ListComp];refine r8 J8 Kb hk nc lo fh ag fr hi hg ht he hs I h none _ λD H' s' C Io q hm f=>?_;obtain⟨m,hn⟩:=hm;exact⟨m,hn,λh' LK=>⟨.ref D,H',Io.other f LK,rfl,q⟩⟩
def qc(wi:TI)(g:TG)(te:TE)(ts:List Str)(js:List Nat):TE:=fun σ H Q=>wi σ H λJ H1=>∀ D,H1 D=none ->
 ∃ W:Nat->Nat->St->Hp->Prop,(∃ m,W 0 m (cN ts js σ) (upd H1 D (.lst [])))/\∀ i m σ' H',W i m σ' H' ->
  (J.stop i H'/\Q (.ref D) H')\/(J.go i H'/\∃ N:St->Hp->Prop,(∀ σ'' H'',N σ'' H''->∃ m',m'<m/\W (i+1) m' σ'' H'') ∧
   ∀ x H2,J.rD i H' x H2->g x σ' H2 fun σ2 H3=>te σ2 H3 λy H4=>∃ ys,H4 D=some (.lst ys)/\ys.length<sizeLine/\N σ2 (upd H4 D (.lst (ys++[y]))))
def xW(wi:TI)(g:TG)(t:TT)(te:TE)(ts:List Str)(js:List Nat):TE:=fun σ H Q=>wi σ H λJ H1=>∀ D,H1 D=none ->
 ∃ W:Nat->Nat->St->Hp->Prop,(∃ m,W 0 m (cN ts js σ) (upd H1 D (.lst [])))/\∀ i m σ' H',W i m σ' H' ->
  (J.stop i H'/\Q (.ref D) H')\/(J.go i H'/\∃ N:St->Hp->Prop,(∀ σ'' H'',N σ'' H''->∃ m',m'<m/\W (i+1) m' σ'' H'') ∧
   ∀ x H2,J.rD i H' x H2->g x σ' H2 fun σ2 H3=>t σ2 H3 λb M0=>if b=true then te σ2 M0 λy H4=>∃ ys,H4 D=some (.lst ys)/\ys.length<sizeLine/\N σ2 (upd H4 D (.lst (ys++[y]))) else N σ2 M0)
theorem xM{cl:List (Str×Addr)}{wi:TI}{g:TG}{fs:List Str}(J8:X.calm=true)
  (Kb:closureFor scope X.env=pure cl) (hk:scope.kind=.function) (nc:dw scope.names=true) (lo:d_ scope.names=true) (fh:dY cl scope.names=true) (ag:c6 X cl) (fr:eB X scope cl fs js)
  (hi:PI X tg iter wi) (hg:∀ C s₀ H₀ ex J2,PG (kO X scope cl (ts++fs) C s₀ H₀ ex J2) tg g) (he:∀ C s₀ H₀ ex J2,PE (kO X scope cl (ts++fs) C s₀ H₀ ex J2) elt te)
  (hs:autoParam (∀ x,foldedSetIterable iter X.env x=pure x) aI._auto_1):PE X (.ListComp elt [⟨tg,iter,[],0⟩] scope pos) (qc wi g te ts js) :=
 u5 (tt:=none) J8 Kb hk nc lo fh ag fr hi hg (λ_ _ _ _ _=>trivial) he hs
variable{c:Expr}
theorem zU{cl:List (Str×Addr)}{wi:TI}{g:TG}{t:TT}{fs:List Str}(J8:X.calm=true)
  (Kb:closureFor scope X.env=pure cl) (hk:scope.kind=.function) (nc:dw scope.names=true) (lo:d_ scope.names=true) (fh:dY cl scope.names=true) (ag:c6 X cl) (fr:eB X scope cl fs js)
  (hi:PI X tg iter wi) (hg:∀ C s₀ H₀ ex J2,PG (kO X scope cl (ts++fs) C s₀ H₀ ex J2) tg g) (ht:∀ C s₀ H₀ ex J2,PT (kO X scope cl (ts++fs) C s₀ H₀ ex J2) c t) (he:∀ C s₀ H₀ ex J2,PE (kO X scope cl (ts++fs) C s₀ H₀ ex J2) elt te)
  (hs:autoParam (∀ x,foldedSetIterable iter X.env x=pure x) aI._auto_1):PE X (.ListComp elt [⟨tg,iter,[c],0⟩] scope pos) (xW wi g t te ts js) :=
 u5 (tt:=some t) J8 Kb hk nc lo fh ag fr hi hg ht he hs
def kH(h:Heap)(b:Bool)(l:Addr)(xs:Array Value):Prop:=match b with
 | true=>h.IsList l xs
 | false=>h.IsTuple l xs
def jX(h:Heap)(b:Bool)(it l:Addr)(i:Nat):Prop:=match b with
 | true=>h.IsListIter it l i
 | false=>h.IsTupleIter it l i
variable{l:Addr}{b:Bool}{h:Heap}
theorem kH.at{xs:Array Value}(x:kH h b l xs)(k:∀ o,h.get? l=some o->h'.get? l=some o):kH h' b l xs:=by
 cases b with
 | true=>obtain⟨o,ho,r⟩:=(show h.IsList l xs from x);exact(show h'.IsList l xs from ⟨o,k o ho,r⟩)
 | false=>obtain⟨o,ho,r⟩:=(show h.IsTuple l xs from x);exact(show h'.IsTuple l xs from ⟨o,k o ho,r⟩)
variable{i:Nat}{it:Addr}
theorem jX.at(x:jX h b it l i)(k:∀ o,h.get? it=some o->h'.get? it=some o):jX h' b it l i:=by
 cases b with
 | true=>obtain⟨o,ho,r⟩:=(show h.IsListIter it l i from x);exact(show h'.IsListIter it l i from ⟨o,k o ho,r⟩)
 | false=>obtain⟨o,ho,r⟩:=(show h.IsTupleIter it l i from x);exact(show h'.IsTupleIter it l i from ⟨o,k o ho,r⟩)
theorem jX.obj(x:jX h b it l i):∃ o vs,h.get? it=some o/\o.data=.fields vs:=by
 cases b with
 | true=>obtain⟨o,ho,_,hd⟩:=(show h.IsListIter it l i from x);exact⟨o,_,ho,hd⟩
 | false=>obtain⟨o,ho,_,hd⟩:=(show h.IsTupleIter it l i from x);exact⟨o,_,ho,hd⟩
theorem kH.obj{xs:Array Value}(x:kH h b l xs):∃ o n,h.get? l=some o/\o.data=.seq xs n:=by
 cases b with
 | true=>obtain⟨o,ho,_,n,hd⟩:=(show h.IsList l xs from x);exact⟨o,n,ho,hd⟩
 | false=>obtain⟨o,ho,_,n,hd⟩:=(show h.IsTuple l xs from x);exact⟨o,n,ho,hd⟩
variable{Q:Value->Shared->Prop}{J3:Array Value}
variable{ys:Array Value}{k1 k2:Nat}
section
variable{E:Value->Shared->Prop}
theorem gM{t:Addr}{x:Value}(hit:s.heap.IsTupleIter it t i)
  (ht:s.heap.IsTuple t J3) (hx:J3[i]?=some x)
  (hQ:∀ h',h'.IsTupleIter it t (i+1)->Px it s.heap h'->Q x { s with heap:=h' }) :
  wpAny (model prog w) A (Od (.ref it)) Q E s:=by
 obtain⟨o,ho,hc,hd⟩:=id hit;obtain⟨ol,hol,_,nl,hdl⟩:=ht;unfold Od;refine NB (OH (name:=NC "__next__") hit.typeIs F.slot_tuple_iterator_next
  (Pb F.slot_tuple_iterator_next hit.typeIs F.entry_tuple_iterator_next ?_ (F.args_tuple_iterator_next_1 _)))
 show wpAny _ _ (field (.ref it) 0 >>= _) _ _ s;refine NB (N_ ho hd (x:=.ref t) rfl ?_);show wpAny _ _ (if (NQ t==Oe)=true then _ else _) _ _ s;rw[if_neg (show ¬ ((NQ t==Oe)=true) from OC)];show wpAny _ _ (field (.ref it) 1 >>= _) _ _ s;refine NB (N_ ho hd (x:=.int i 0) rfl ?_);show wpAny _ _ (seqItems? (.ref t) >>= _) _ _ s;refine NB (Pg hol hdl ?_);simp only[Og,hx];refine NB (Qz ho hd (by simp) (NH ⟨x,rfl,NH (hQ _ ?_ (Sb ..))⟩));exact⟨_,O0 _ ho (PZ (Ph hd _)),(Obj.cls_mapFields ..).trans hc,by
  rw[Ph hd];simp[rawInt]⟩
theorem eG{t:Addr}(hh:A.handled=none)
  (hit:s.heap.IsTupleIter it t i) (ht:s.heap.IsTuple t J3) (hx:J3[i]?=none)
  (hE:∀ h' e,Heap.ExtBut it s.heap h'->(∃ o,h'.get? e=some o/\o.cls=.type "StopIteration")->E (.ref e) { s with heap:=h' }) :
  wpAny (model prog w) A (Od (.ref it)) Q E s:=by
 obtain⟨o,ho,hc,hd⟩:=id hit;obtain⟨ol,hol,_,nl,hdl⟩:=ht;unfold Od;refine NB (OH (name:=NC "__next__") hit.typeIs F.slot_tuple_iterator_next
  (Pb F.slot_tuple_iterator_next hit.typeIs F.entry_tuple_iterator_next ?_ (F.args_tuple_iterator_next_1 _)))
 show wpAny _ _ (field (.ref it) 0 >>= _) _ _ s;refine NB (N_ ho hd (x:=.ref t) rfl ?_);show wpAny _ _ (if (NQ t==Oe)=true then _ else _) _ _ s;rw[if_neg (show ¬ ((NQ t==Oe)=true) from OC)];show wpAny _ _ (field (.ref it) 1 >>= _) _ _ s;refine NB (N_ ho hd (x:=.int i 0) rfl ?_);show wpAny _ _ (seqItems? (.ref t) >>= _) _ _ s;refine NB (Pg hol hdl ?_);simp only[Og,hx];refine NB (RH (NB (Qz ho hd (by simp) ?_)));show wpAny _ _ (newExc (.type "StopIteration") [] >>= _) _ _ _;refine NB ?_;simp only[newExc,newTuple];refine NB (OR ?_ (by size_fits));refine NB (m:=firstArgMember _ _) (S9 (a:=Oe) (by first | rfl | (simp only[firstArgMember];rfl)) ?_);refine OR ?_ (by size_fits);simp only[raiseNew];refine NB (wpAny_handled ?_)
 first | rw[show A.in1.handled=none from hh] | rw[hh]
 refine NB (NH (wpAny_throw ?_));exact hE _ _ (((Sb ..).extBut.push _).push _) ⟨_,NO _ rfl,rfl⟩
theorem iV{x:Value}(hit:jX s.heap b it l i)(hl:kH s.heap b l J3)(hx:J3[i]?=some x)
  (hQ:∀ h',jX h' b it l (i+1)->Px it s.heap h'->Q x { s with heap:=h' }):wpAny (model prog w) A (Od (.ref it)) Q E s:=by
 cases b with
 | true=>exact wpAny_nextOf_list_item hit hl hx hQ
 | false=>exact gM hit hl hx hQ
theorem mL(hh:A.handled=none)(hit:jX s.heap b it l i)(hl:kH s.heap b l J3)(hx:J3[i]?=none)
  (hE:∀ h' e,Heap.ExtBut it s.heap h'->(∃ o,h'.get? e=some o/\o.cls=.type "StopIteration")->E (.ref e) { s with heap:=h' }):wpAny (model prog w) A (Od (.ref it)) Q E s:=by
 cases b with
 | true=>exact wpAny_nextOf_list_end hh hit hl hx hE
 | false=>exact eG hh hit hl hx hE
theorem xn{b1 b2:Bool}{z TI TO i1 i2 l1 l2:Addr}{xs:Array Value}{x y a b:Value}(D:ZipApart z TI TO i1 i2 l1 l2)
  (hz:IsZip s.heap z TI TO .none) (LJ:IsPair s.heap TI (.ref i1) (.ref i2)) (LL:IsPair s.heap TO a b)
  (h1:jX s.heap b1 i1 l1 k1) (h2:jX s.heap b2 i2 l2 k2) (Mc:kH s.heap b1 l1 xs) (Md:kH s.heap b2 l2 ys) (hx:xs[k1]?=some x) (hy:ys[k2]?=some y)
  (hQ:∀ h',IsZip h' z TI TO (rawInt s.heap.objs.size)->IsPair h' TO x y->jX h' b1 i1 l1 (k1+1)->jX h' b2 i2 l2 (k2+1)->IsPair h' s.heap.objs.size x y->h'.objs.size=s.heap.objs.size+1 ->
   (∀ c o,c≠z->c≠TO->c≠i1->c≠i2->s.heap.get? c=some o->h'.get? c=some o)->Q (.ref s.heap.objs.size) { s with heap:=h' }) :
  wpAny (model prog w) A (Builtin.«zip.__next__» ⟨[.ref z],[]⟩) (λfin s'=>∃ v,fin=.done (.ret v)/\Q v s') E s:=by
 show wpAny _ _ (field (.ref z) 2 >>= _) _ _ _;refine NB (N_ hz rfl (x:=.bool false) rfl ?_);show wpAny _ _ (field (.ref z) 3 >>= _) _ _ _;refine NB (N_ hz rfl (x:=.ref TI) rfl ?_);refine NB (Pg LJ rfl ?_);show wpAny _ _ (OS (.ref z) >>= _) _ _ _;refine NB ?_;unfold OS;refine NB (N_ hz rfl (x:=.none) rfl (NH ?_));simp only[if_true];refine NB (RH ?_);refine NB (N_ hz rfl (x:=.ref TO) rfl ?_);refine NB (Pj hz (by simp) λh₁ hz1 hs1=>?_)
 replace hz1:IsZip h₁ z TI TO .ellipsis:=hz1
 refine NB ?_;simp only[SY,Td,Te,Ti];refine NB (NB (Ro ?_));show wpAny _ _ (Od (.ref i1) >>= _) _ _ _;refine NB (iV (h1.at λo e=>hs1.extBut _ _ D.i1z e) (Mc.at λo e=>hs1.extBut _ _ D.l1z e) hx λh₂ h1₂ hs2=>NH ?_);have hTO2:IsPair h₂ TO a b:=hs2.extBut _ _ D.TOi1 (hs1.extBut _ _ D.TOz LL);refine NB (Pg hTO2 rfl ?_);refine NB (QJ hTO2 λh₃ hTO3 hs3=>?_)
 replace hTO3:IsPair h₃ TO x b:=hTO3
 refine NB (S_ (NH ?_));refine NB (NB (Ro ?_));show wpAny _ _ (Od (.ref i2) >>= _) _ _ _;refine NB (iV (h2.at λo e=>hs3.extBut _ _ D.TOi2.symm (hs2.extBut _ _ D.i12.symm (hs1.extBut _ _ D.i2z e)))
  (Md.at λo e=>hs3.extBut _ _ D.l2TO (hs2.extBut _ _ D.l2i1 (hs1.extBut _ _ D.l2z e))) hy λh₄ h2₄ hs4=>NH ?_)
 have hTO4:IsPair h₄ TO x b:=hs4.extBut _ _ D.TOi2 hTO3;refine NB (Pg hTO4 rfl ?_);refine NB (QJ hTO4 λh₅ hTO5 hs5=>?_)
 replace hTO5:IsPair h₅ TO x y:=hTO5
 refine NB (S_ (NH (NH ?_)));refine NB (Pg hTO5 rfl ?_);refine NB (wpAny_newTuple ?_);have Lh:h₅.objs.size=s.heap.objs.size:=by rw[hs5.1,hs4.1,hs3.1,hs2.1,hs1.1]
 have hz5:IsZip h₅ z TI TO .ellipsis:=hs5.extBut _ _ D.TOz.symm (hs4.extBut _ _ D.i2z.symm (hs3.extBut _ _ D.TOz.symm (hs2.extBut _ _ D.i1z.symm hz1)));have hk5:∀ c o,c≠z->c≠TO->c≠i1->c≠i2->s.heap.get? c=some o->h₅.get? c=some o:=λc o c1 c2 c3 c4 e =>
  hs5.extBut _ _ c2 (hs4.extBut _ _ c4 (hs3.extBut _ _ c2 (hs2.extBut _ _ c3 (hs1.extBut _ _ c1 e))))
 have h1₅:jX h₅ b1 i1 l1 (k1+1):=h1₂.at λo e=>hs5.extBut _ _ D.TOi1.symm (hs4.extBut _ _ D.i12 (hs3.extBut _ _ D.TOi1.symm e));have h2₅:jX h₅ b2 i2 l2 (k2+1):=h2₄.at λo e=>hs5.extBut _ _ D.TOi2.symm e;have Nt:z<h₅.objs.size:=NN hz5;show wpAny _ _ (Qc (.ref z) (.ref h₅.objs.size) >>= _) _ _ _;refine NB ?_;unfold Qc;have hz6:IsZip (h₅.push { cls:=.type "tuple", data:=.seq #[x,y] }) z TI TO .ellipsis:=NF _ hz5;refine NB (Pj hz6 (by simp) λh₇ hz7 hs7=>?_)
 replace hz7:IsZip h₇ z TI TO (rawInt h₅.objs.size):=hz7
 refine Pj hz7 (by simp) λh₈ hz8 hs8=>?_
 replace hz8:IsZip h₈ z TI TO (rawInt h₅.objs.size):=hz8
 have up:∀ c o,c≠z->h₅.get? c=some o->h₈.get? c=some o:=λc o c1 e=>hs8.extBut _ _ c1 (hs7.extBut _ _ c1 (NF _ e));have hT8:IsPair h₈ h₅.objs.size x y:=hs8.extBut _ _ (Py Nt) (hs7.extBut _ _ (Py Nt) (NO _ rfl));have MZ:h₈.objs.size=h₅.objs.size+1:=by rw[hs8.1,hs7.1,Ow]
 rw[Lh] at hz8 hT8 MZ;refine NH ⟨_,rfl,?_⟩;show Q (.ref h₅.objs.size) _;rw[Lh];exact hQ h₈ hz8 (up _ _ D.TOz hTO5) (h1₅.at λo e=>up _ o D.i1z e) (h2₅.at λo e=>up _ o D.i2z e) hT8 MZ λc o c1 c2 c3 c4 e=>up c o c1 (hk5 c o c1 c2 c3 c4 e)
theorem y3{b1 b2:Bool}{z TI TO i1 i2 l1 l2:Addr}{xs:Array Value}{a b:Value}{Q:Fin->Shared->Prop}(hh:A.handled=none)(D:ZipApart z TI TO i1 i2 l1 l2)
  (hz:IsZip s.heap z TI TO .none) (LJ:IsPair s.heap TI (.ref i1) (.ref i2)) (LL:IsPair s.heap TO a b)
  (h1:jX s.heap b1 i1 l1 k1) (h2:jX s.heap b2 i2 l2 k2) (Mc:kH s.heap b1 l1 xs) (Md:kH s.heap b2 l2 ys) (Mn:xs[k1]?=none\/ys[k2]?=none)
  (hE:∀ h' e,(∀ c o,c≠z->c≠TO->c≠i1->c≠i2->s.heap.get? c=some o->h'.get? c=some o)->(∃ o,h'.get? e=some o/\o.cls=.type "StopIteration")->E (.ref e) { s with heap:=h' }) :
  wpAny (model prog w) A (Builtin.«zip.__next__» ⟨[.ref z],[]⟩) Q E s:=by
 show wpAny _ _ (field (.ref z) 2 >>= _) _ _ _;refine NB (N_ hz rfl (x:=.bool false) rfl ?_);show wpAny _ _ (field (.ref z) 3 >>= _) _ _ _;refine NB (N_ hz rfl (x:=.ref TI) rfl ?_);refine NB (Pg LJ rfl ?_);show wpAny _ _ (OS (.ref z) >>= _) _ _ _;refine NB ?_;unfold OS;refine NB (N_ hz rfl (x:=.none) rfl (NH ?_));simp only[if_true];refine NB (RH ?_);refine NB (N_ hz rfl (x:=.ref TO) rfl ?_);refine NB (Pj hz (by simp) λh₁ hz1 hs1=>?_)
 replace hz1:IsZip h₁ z TI TO .ellipsis:=hz1
 refine NB ?_;simp only[SY,Td,Te,Ti];refine NB (NB (Ro ?_));show wpAny _ _ (Od (.ref i1) >>= _) _ _ _;cases hx:xs[k1]? with
 | none =>
  refine NB (mL hh (h1.at λo e=>hs1.extBut _ _ D.i1z e) (Mc.at λo e=>hs1.extBut _ _ D.l1z e) hx λh₂ e hs2 he=>?_);obtain⟨oe,L_,Nd⟩:=he;have hz2:IsZip h₂ z TI TO .ellipsis:=hs2 _ _ D.i1z.symm hz1;have hez:e≠z:=λx=>by subst x;rw[hz2] at L_;cases L_;simp at Nd
  refine Pj hz2 (by simp) λh₃ _ hs3=>hE h₃ e (λc o c1 _ c3 _ x=>hs3.extBut _ _ c1 (hs2 _ _ c3 (hs1.extBut _ _ c1 x))) ⟨oe,hs3.extBut _ _ hez L_,Nd⟩
 | some x =>
  have hy:ys[k2]?=none:=by rcases Mn with h | h;rw[hx] at h;cases h;exact h
  refine NB (iV (h1.at λo e=>hs1.extBut _ _ D.i1z e) (Mc.at λo e=>hs1.extBut _ _ D.l1z e) hx λh₂ h1₂ hs2=>NH ?_);have hTO2:IsPair h₂ TO a b:=hs2.extBut _ _ D.TOi1 (hs1.extBut _ _ D.TOz LL);refine NB (Pg hTO2 rfl ?_);refine NB (QJ hTO2 λh₃ hTO3 hs3=>?_);refine NB (S_ (NH ?_));refine NB (NB (Ro ?_));show wpAny _ _ (Od (.ref i2) >>= _) _ _ _;refine NB (mL hh (h2.at λo e=>hs3.extBut _ _ D.TOi2.symm (hs2.extBut _ _ D.i12.symm (hs1.extBut _ _ D.i2z e)))
   (Md.at λo e=>hs3.extBut _ _ D.l2TO (hs2.extBut _ _ D.l2i1 (hs1.extBut _ _ D.l2z e))) hy λh₄ e hs4 he=>?_)
  obtain⟨oe,L_,Nd⟩:=he;have hz4:IsZip h₄ z TI TO .ellipsis:=hs4 _ _ D.i2z.symm (hs3.extBut _ _ D.TOz.symm (hs2.extBut _ _ D.i1z.symm hz1));have hez:e≠z:=λx=>by subst x;rw[hz4] at L_;cases L_;simp at Nd
  refine Pj hz4 (by simp) λh₅ _ hs5=>hE h₅ e (λc o c1 c2 c3 c4 x=>hs5.extBut _ _ c1 (hs4 _ _ c4 (hs3.extBut _ _ c2 (hs2.extBut _ _ c3 (hs1.extBut _ _ c1 x))))) ⟨oe,hs5.extBut _ _ hez L_,Nd⟩
theorem qY(hl:kH s.heap b l J3)
  (h:∀ o,o=({ cls:=.type (if b then "list_iterator" else "tuple_iterator"),data:=.fields #[.ref l,.int 0 0] }:Obj)->Q (.ref s.heap.objs.size) { s with heap:=s.heap.push o }):wpAny (model prog w) A (pyIter (.ref l)) Q E s:=by
 cases b with
 | true=>exact Rj hl (h _ rfl)
 | false=>exact PN hl (h _ rfl)
theorem k6{b1 b2:Bool}{z TI TO i1 i2 l1 l2:Addr}{xs:Array Value}{x y a b:Value}{Q:Option Value->Shared->Prop}(D:ZipApart z TI TO i1 i2 l1 l2)
  (hz:IsZip s.heap z TI TO .none) (LJ:IsPair s.heap TI (.ref i1) (.ref i2)) (LL:IsPair s.heap TO a b)
  (h1:jX s.heap b1 i1 l1 k1) (h2:jX s.heap b2 i2 l2 k2) (Mc:kH s.heap b1 l1 xs) (Md:kH s.heap b2 l2 ys) (hx:xs[k1]?=some x) (hy:ys[k2]?=some y)
  (hQ:∀ h',IsZip h' z TI TO (rawInt s.heap.objs.size)->IsPair h' TO x y->jX h' b1 i1 l1 (k1+1)->jX h' b2 i2 l2 (k2+1)->IsPair h' s.heap.objs.size x y->h'.objs.size=s.heap.objs.size+1 ->
   (∀ c o,c≠z->c≠TO->c≠i1->c≠i2->s.heap.get? c=some o->h'.get? c=some o)->Q (some (.ref s.heap.objs.size)) { s with heap:=h' }) :
  wpAny (model prog w) A (pyNext (.ref z)) Q E s:=by
 have hT:s.TypeIs (.ref z) "zip" := ⟨_,hz,rfl⟩
 unfold pyNext;exact NB (Qf (OH (name:=NC "__next__") hT F.slot_zip_next
  (Pb F.slot_zip_next hT F.entry_zip_next
   (xn D hz LJ LL h1 h2 Mc Md hx hy λh' a1 a2 a3 a4 a5 a6 a7=>NH (hQ h' a1 a2 a3 a4 a5 a6 a7)) (F.args_zip_next_1 _))))
theorem l_{b1 b2:Bool}{z TI TO i1 i2 l1 l2:Addr}{xs:Array Value}{a b:Value}{Q:Option Value->Shared->Prop}(hh:A.handled=none)(D:ZipApart z TI TO i1 i2 l1 l2)
  (hz:IsZip s.heap z TI TO .none) (LJ:IsPair s.heap TI (.ref i1) (.ref i2)) (LL:IsPair s.heap TO a b)
  (h1:jX s.heap b1 i1 l1 k1) (h2:jX s.heap b2 i2 l2 k2) (Mc:kH s.heap b1 l1 xs) (Md:kH s.heap b2 l2 ys) (Mn:xs[k1]?=none\/ys[k2]?=none)
  (hQ:∀ h',(∀ c o,c≠z->c≠TO->c≠i1->c≠i2->s.heap.get? c=some o->h'.get? c=some o)->Q none { s with heap:=h' }):wpAny (model prog w) A (pyNext (.ref z)) Q E s:=by
 have hT:s.TypeIs (.ref z) "zip" := ⟨_,hz,rfl⟩
 unfold pyNext;refine NB (Qf (OH (name:=NC "__next__") hT F.slot_zip_next
  (Pb F.slot_zip_next hT F.entry_zip_next (y3 hh D hz LJ LL h1 h2 Mc Md Mn λh' e hk he=>?_) (F.args_zip_next_1 _))))
 obtain⟨o,ho,hc⟩:=he;refine NB (wpAny_isInstance (T := "StopIteration") (b:=true) ⟨o,ho,hc⟩ isSubtype_stop ?_);exact NH (hQ _ hk)
abbrev Ga(b:Bool)(l:Addr):Obj:={ cls:=.type (if b then "list_iterator" else "tuple_iterator"),data:=.fields #[.ref l,.int 0 0] }
abbrev G6(h:Heap)(b1:Bool)(l1:Addr):Heap:=h.push (Ga b1 l1)
abbrev G0(h:Heap)(b1 b2:Bool)(l1 l2:Addr):Heap:=(G6 h b1 l1).push (Ga b2 l2)
abbrev G2(h:Heap)(b1 b2:Bool)(l1 l2:Addr):Heap:=(G0 h b1 b2 l1 l2).push { cls:=.type "tuple", data:=.seq #[.ref h.objs.size,.ref (G6 h b1 l1).objs.size] }
abbrev G9(h:Heap)(b1 b2:Bool)(l1 l2:Addr):Heap:=(G2 h b1 b2 l1 l2).push { cls:=.type "tuple", data:=.seq #[.none,.none] }
abbrev Fg(h:Heap)(b1 b2:Bool)(l1 l2:Addr):Heap:=(G9 h b1 b2 l1 l2).push { cls:=.type "zip", data:=.fields #[.none,.bool false,.bool false,.ref (G0 h b1 b2 l1 l2).objs.size,.ref (G2 h b1 b2 l1 l2).objs.size] }
end
theorem lQ{E:Value->Shared->Prop}(hl:kH s.heap b l J3)
  (h:Q (.ref s.heap.objs.size) { s with heap:=s.heap.push (Ga b l) }):wpAny (model prog w) A (pyIter (.ref l)) Q E s:=qY hl λo e=>by subst e;exact h
theorem kH.push{h:Heap}{b:Bool}{l:Addr}{xs:Array Value}(x:kH h b l xs)(o:Obj):kH (h.push o) b l xs:=x.at λ_ e=>NF _ e
theorem mK(b1 b2:Bool)(l1 l2:Addr)(xs ys:Array Value) :
  Meets (Builtin.«zip.__new__» ⟨[.type "zip", .ref l1,.ref l2],[]⟩) (λ_ R s=>kH s.heap b1 l1 xs/\kH s.heap b2 l2 ys ∧
   R (.ok (.ret (.ref (G9 s.heap b1 b2 l1 l2).objs.size))) { s with heap:=Fg s.heap b1 b2 l1 l2 }) :=
 .of_wp λprog w A R s h=>by
  obtain⟨hp,g,d,tk,os⟩:=s;obtain⟨Mc,Md,h⟩:=h;have hsub:=sub_zip;have hL1:kH (Tc ⟨hp,g,d,tk,os⟩) b1 l1 xs:=Mc;have hL2:kH (Tc ⟨hp.push (Ga b1 l1),g,d,tk,os⟩) b2 l2 ys:=kH.push Md _
  wp_walk using lQ hL1,lQ hL2
  exact⟨_,rfl,h⟩
section
variable{E:Value->Shared->Prop}
theorem jX.new(h:Heap)(b:Bool)(it l:Addr)(e:h.get? it=some (Ga b l)):jX h b it l 0:=by
 cases b with
 | true=>exact⟨_,e,rfl,rfl⟩
 | false=>exact⟨_,e,rfl,rfl⟩
theorem xo{b1 b2:Bool}{l1 l2:Addr}{xs:Array Value}(Mc:kH s.heap b1 l1 xs)(Md:kH s.heap b2 l2 ys)
  (h:∀ h',IsZip h' (s.heap.objs.size+4) (s.heap.objs.size+2) (s.heap.objs.size+3) .none->IsPair h' (s.heap.objs.size+2) (.ref s.heap.objs.size) (.ref (s.heap.objs.size+1)) ->
   IsPair h' (s.heap.objs.size+3) .none .none->jX h' b1 s.heap.objs.size l1 0->jX h' b2 (s.heap.objs.size+1) l2 0->h'.objs.size=s.heap.objs.size+5 ->
   (∀ c o,s.heap.get? c=some o->h'.get? c=some o)->Q (.ref (s.heap.objs.size+4)) { s with heap:=h' }) :
  wpAny (model prog w) A (call (.type "zip") [.ref l1,.ref l2]) Q E s:=by
 refine callType_new F.called_zip (by decide) (F.typeCall_zip_2 _ _) (F.newCall_zip_2 _ _) (λobj=>F.args_object_init_3 obj _ _) F.entry_zip_new
  (mK b1 b2 l1 l2 xs ys) ⟨Mc,Md,?_⟩
 have z1:(G6 s.heap b1 l1).objs.size=s.heap.objs.size+1:=Ow ..;have z2:(G0 s.heap b1 b2 l1 l2).objs.size=s.heap.objs.size+2:=by rw[Ow,z1]
 have z3:(G2 s.heap b1 b2 l1 l2).objs.size=s.heap.objs.size+3:=by rw[Ow,z2]
 have z4:(G9 s.heap b1 b2 l1 l2).objs.size=s.heap.objs.size+4:=by rw[Ow,z3]
 have z5:(Fg s.heap b1 b2 l1 l2).objs.size=s.heap.objs.size+5:=by rw[Ow,z4]
 have g5:(Fg s.heap b1 b2 l1 l2).get? (G9 s.heap b1 b2 l1 l2).objs.size=some _:=NO _ rfl;have g4:(Fg s.heap b1 b2 l1 l2).get? (G2 s.heap b1 b2 l1 l2).objs.size=some _:=NF _ (NO _ rfl);have g3:(Fg s.heap b1 b2 l1 l2).get? (G0 s.heap b1 b2 l1 l2).objs.size=some _:=NF _ (NF _ (NO _ rfl));have g2:(Fg s.heap b1 b2 l1 l2).get? (G6 s.heap b1 l1).objs.size=some _:=NF _ (NF _ (NF _ (NO _ rfl)));have g1:(Fg s.heap b1 b2 l1 l2).get? s.heap.objs.size=some _:=NF _ (NF _ (NF _ (NF _ (NO _ rfl))));show _/\_;rw[z2,z3,z4] at g5;rw[z1,z2] at g3;rw[z3] at g4;rw[z1] at g2;rw[z4];exact⟨⟨_,g5,rfl⟩,h _ g5 g3 g4 (jX.new _ b1 _ _ g1) (jX.new _ b2 _ _ g2) z5 λc o x =>
  NF _ (NF _ (NF _ (NF _ (NF _ x))))⟩
end
def tm(K:PySem.W.Frag)(H:Hp)(b:Bool)(a:Addr)(xs:List V):Prop:=match b with
 | true=>gK K H a xs
 | false=>gx K H a xs
variable{tl:TA}
theorem Inv.row{xs:List V}(I:Inv X J2 σ H s)(h:tm X.K H b a xs):∃ J6:List Value,Vals xs J6/\kH s.heap b a J6.toArray/\xs.length<=sizeLine:=by
 cases b with
 | true =>
  obtain⟨J6,r,p,z⟩:=I.list h;exact⟨J6,r,p.isList,z⟩
 | false =>
  obtain⟨J6,r,p,z⟩:=I.tuple h;exact⟨J6,r,p,z⟩
theorem Inv.u4{xs ys:List V}(I:Inv X J2 σ H s)(h:tm X.K H b a xs)(h':tm X.K H b a ys):xs=ys:=by
 cases b with
 | true=>exact I.nM h h'
 | false=>exact I.kL h h'
theorem Inv.AL(I:Inv X J2 σ H s)(k:∀ b u,b ∉ ch->s.heap.get? b=some u->h'.get? b=some u)
  (Lx:∀ b∈ch,jk X J2 H b):Inv X J2 σ H { s with heap:=h',toks:=t' }:=by
 have Mt:∀ b u,H b=some u->b ∉ ch:=λb u e z=>by rw[(Lx b z).1] at e;cases e
 refine I.step (g':=s.gens) (d':=s.drawn) (ch:=ch) (λb hb=>?_) (λb u _ _ hc e _=>k b u hc e) (λb u _ _ hc e _=>⟨u.slots,k b u hc e⟩)
  (λb u _ e n=>n) (λb u hc e=>⟨u,k b u hc e⟩) (λb xs e=>e) (λb ob u e=>e) (λb ps e=>⟨#[],by rw[e];simp⟩) (λm hm=>?_) (λb u e=>?_) I.bare
 .obtain⟨_,f1,_,f3,f4,f5⟩:=Lx b hb;exact⟨f3,f1,f4,f5⟩
 .obtain⟨ob,es,ep,ho,r⟩:=hm;exact⟨ob,es,ep,k _ ob (λz=>(Lx _ z).2.1 rfl) ho,r⟩
 .refine(I.bg b u e).jU (λc v hc q=>k c v ?_ q) (λc q=>q) λc ys q=>q;rcases hc with z' | z'
  .rw[z'];exact Mt b u e
  .exact Mt c _ z'
theorem dg{c:Addr}{xs:List V}(I:Inv X J2 σ H s)(h:tm X.K H b a xs)(f:jk X J2 H c):a≠c:=by
 have rd:∀ {u:HO},Rd H a u->a≠c:=λ{u} r=>by
  rcases r with r | ⟨o,r⟩
  .exact bh r f.1
  .exact bh r f.1
 have mk:∀ {o:Obj},X.K.lookup a=some o->a≠c:=λ{o} e z=>by
  subst z;have e':=I.ok.mod.DH _ _ e;rcases f.2.2.2.1 with q | q
  .exact I.ok.oM _ _ e' q
  .exact absurd (NP (NN (I.ok.bs _ _ e').1) q) (O_ _)
 cases b with
 | true =>
  rcases(show gK X.K H a xs from h) with r | ⟨o,J6,n,e,_⟩
  .exact rd r
  .exact mk e
 | false =>
  rcases(show gx X.K H a xs from h) with r | ⟨o,J6,n,e,_⟩
  .exact rd r
  .exact mk e
def Hz (K : PySem.W.Frag) (b1 b2 : Bool) (a1 a2 : Addr) : It :=
  ⟨λi H => ∃ xs ys x y, tm K H b1 a1 xs /\ tm K H b2 a2 ys /\ xs[i]? = some x /\ ys[i]? = some y,
   λi H v H' => ∃ p x y, H p = none /\ v = .ref p /\ H' = upd H p (.tup [x, y]) /\ (∀ xs, tm K H b1 a1 xs -> xs[i]? = some x) /\ (∀ ys, tm K H b2 a2 ys -> ys[i]? = some y),
   λi H => ∃ xs ys, tm K H b1 a1 xs /\ tm K H b2 a2 ys /\ (xs.length <= i \/ ys.length <= i)⟩
theorem yS{K:PySem.W.Frag}{tp:Pos}(b1 b2:Bool)(a1 a2 z TI TO i1 i2:Addr)(D:TI≠z/\TO≠z/\i1≠z/\i2≠z/\TI≠TO/\TI≠i1/\TI≠i2/\TO≠i1/\TO≠i2/\i1≠i2) :
  Turn P w K (.Tuple elts x1 tp) (Hz K b1 b2 a1 a2) [z,TO,i1,i2,TI] z (λi h=>IsZip h z TI TO .none/\IsPair h TI (.ref i1) (.ref i2)/\(∃ a b,IsPair h TO a b)/\jX h b1 i1 a1 i/\jX h b2 i2 a2 i) where
 mem:=by simp
 obj:=λi h st b hb=>by
  obtain⟨hz,LJ,⟨a,c,LL⟩,h1,h2⟩:=st;simp only[NU,PL,or_false] at hb;rcases hb with q | q | q | q | q <;> subst q
  .exact⟨_,hz,λv z=>by cases z⟩
  .exact⟨_,LL,λv z=>by cases z⟩
  .obtain⟨o,vs,e,d⟩:=h1.obj;exact⟨o,e,λv z=>by rw[d] at z;cases z⟩
  .obtain⟨o,vs,e,d⟩:=h2.obj;exact⟨o,e,λv z=>by rw[d] at z;cases z⟩
  .exact⟨_,LJ,λv z=>by cases z⟩
 keep:=λi h h' st k=>by
  obtain⟨hz,LJ,⟨a,c,LL⟩,h1,h2⟩:=st;exact⟨k z (by simp) _ hz,k TI (by simp) _ LJ,⟨a,c,k TO (by simp) _ LL⟩,h1.at λo e=>k i1 (by simp) o e,h2.at λo e=>k i2 (by simp) o e⟩
 item:=by
  intro X hP hw hK hc i J2 s σ H E I hf st hg;subst hP hw hK;obtain⟨xs,ys,x,y,Ll,Lm,hx,hy⟩:=hg;obtain⟨Nu,rv1,p1,MP⟩:=I.row Ll;obtain⟨LU,rv2,p2,MY⟩:=I.row Lm;obtain⟨u1,hu1,ru1⟩:=rv1.get hx;obtain⟨u2,hu2,ru2⟩:=rv2.get hy;obtain⟨hz,LJ,⟨a,c,LL⟩,h1,h2⟩:=st;obtain⟨d1,d2,d3,d4,d5,d6,d7,d8,d9,d10⟩:=D;obtain⟨o1,n1,e1,dd1⟩:=p1.obj;obtain⟨o2,n2,e2,M5⟩:=p2.obj;obtain⟨oi1,vs1,ei1,di1⟩:=h1.obj;obtain⟨oi2,vs2,ei2,di2⟩:=h2.obj;have D:ZipApart z TI TO i1 i2 a1 a2:=⟨d1,d2,d3,d4,d5,d6,d7,d8,d9,d10,dg I Ll (hf z (by simp)),dg I Ll (hf TO (by simp)),dg I Ll (hf i1 (by simp)),dg I Ll (hf i2 (by simp)),
   dg I Lm (hf z (by simp)),dg I Lm (hf TO (by simp)),dg I Lm (hf i1 (by simp)),dg I Lm (hf i2 (by simp))⟩
  refine k6 D hz LJ LL h1 h2 p1 p2 (x:=u1) (y:=u2) (by simpa using hu1) (by simpa using hu2) λh' g1 g2 g3 g4 g5 g6 g7=>⟨_,rfl,?_⟩
  refine wpAny_letOwnedTupleGo_zip (s:={ s with heap:=h' }) g1 λh3 hz3 MW=>?_;have Lk:H s.heap.objs.size=none:=I.bg.fresh (NK _);have lt:∀ {c:Addr} {o:Obj},s.heap.get? c=some o->c≠s.heap.objs.size:=λe=>NR (NN e);have Nv:∀ b o,b ∉ [z,TO,i1,i2,TI]->s.heap.get? b=some o->h3.get? b=some o:=λb o hb q=>by
   simp only[NU,PL,or_false,not_or] at hb;exact(MW.2 b hb.1).trans (g7 b o hb.1 hb.2.1 hb.2.2.1 hb.2.2.2.1 q)
  have hT3:h3.get? s.heap.objs.size=some { cls:=.type "tuple", data:=.seq #[u1,u2] }:=(MW.2 _ (lt hz).symm).trans g5;have I3:Inv X J2 σ (upd H s.heap.objs.size (.tup [x,y])) { s with heap:=h3,toks:=s.toks } :=
   I.kZ (ch:=[z,TO,i1,i2,TI]) Nv hf (NK _) (λb hb=>by
    simp only[NU,PL,or_false] at hb;rcases hb with q | q | q | q | q <;> subst q
    .exact⟨_,hz⟩
    .exact⟨_,LL⟩
    .exact⟨_,ei1⟩
    .exact⟨_,ei2⟩
    .exact⟨_,LJ⟩)
    ⟨by show 2<=sizeLine;decide,[u1,u2],.cons ru1 (.cons ru2 .nil),⟨_,hT3,rfl,_,rfl⟩⟩
  refine⟨.ref s.heap.objs.size,_,I3,rfl,⟨_,x,y,Lk,rfl,rfl,λzs hzs=>by rw[I.u4 hzs Ll];exact hx,λzs hzs=>by rw[I.u4 hzs Lm];exact hy⟩,
   ⟨hz3,(MW.2 TI d1).trans (g7 TI _ d1 d5 d6 d7 LJ),⟨_,_,(MW.2 TO d2).trans g2⟩,g3.at λo e=>(MW.2 i1 d3).trans e,g4.at λo e=>(MW.2 i2 d4).trans e⟩,λb hb=>?_⟩
  have nb:b≠s.heap.objs.size:=by
   simp only[NU,PL,or_false] at hb;rcases hb with q | q | q | q | q <;> subst q
   .exact lt hz
   .exact lt LL
   .exact lt ei1
   .exact lt ei2
   .exact lt LJ
  rw[ar nb];exact(hf b hb).1
 done:=by
  intro X hP hw hK hc i J2 s σ H E I hf st hg;subst hP hw hK;obtain⟨xs,ys,Ll,Lm,Mn⟩:=hg;obtain⟨Nu,rv1,p1,MP⟩:=I.row Ll;obtain⟨LU,rv2,p2,MY⟩:=I.row Lm;obtain⟨hz,LJ,⟨a,c,LL⟩,h1,h2⟩:=st;obtain⟨d1,d2,d3,d4,d5,d6,d7,d8,d9,d10⟩:=D;have D:ZipApart z TI TO i1 i2 a1 a2:=⟨d1,d2,d3,d4,d5,d6,d7,d8,d9,d10,dg I Ll (hf z (by simp)),dg I Ll (hf TO (by simp)),dg I Ll (hf i1 (by simp)),dg I Ll (hf i2 (by simp)),
   dg I Lm (hf z (by simp)),dg I Lm (hf TO (by simp)),dg I Lm (hf i1 (by simp)),dg I Lm (hf i2 (by simp))⟩
  have l1:=rv1.length;have l2:=rv2.length;refine l_ (I.ok.hd hc) D hz LJ LL h1 h2 p1 p2 ?_ λh' k=>⟨rfl,?_⟩
  .rcases Mn with q | q
   .exact .inl (by simp;lia)
   .exact .inr (by simp;lia)
  .exact I.AL (t':=s.toks) (ch:=[z,TO,i1,i2,TI]) (λb u hb e=>by
    simp only[NU,PL,or_false,not_or] at hb;exact k b u hb.1 hb.2.1 hb.2.2.1 hb.2.2.2.1 e) hf
 self:=λ_ _ _ _ _ st h=>by
  obtain⟨hz,_⟩:=st;exact wpAny_pyIter_zip hz h
theorem EW(n:Nat):n+2≠n+4/\n+3≠n+4/\n≠n+4/\n+1≠n+4/\n+2≠n+3/\n+2≠n/\n+2≠n+1/\n+3≠n/\n+3≠n+1/\n≠n+1:=by
 refine⟨?_,?_,?_,?_,?_,?_,?_,?_,?_,?_⟩ <;> lia
def Gi(K:PySem.W.Frag)(tl:TA):TI:=fun σ H R=>tl σ H λvs H1=>∃ b1 b2 a1 a2,vs=[.ref a1,.ref a2]/\(∃ xs,tm K H1 b1 a1 xs)/\(∃ ys,tm K H1 b2 a2 ys)/\R (Hz K b1 b2 a1 a2) H1
theorem ni{tp:Pos}{l1 l2:Expr}{p:Pos}(hg:Gl X "zip")(hm:X.mg "zip" = none)(hl:PA X [l1,l2] tl)(hs:autoParam (starEach [l1,l2] X.env=[(false,eval l1 X.env),(false,eval l2 X.env)]) aR._auto_1)(LQ:autoParam (starEach [l2] X.env=[(false,eval l2 X.env)]) aR._auto_1) :
  PI X (.Tuple elts x1 tp) (.Call (.Name "zip" p) [l1,l2] [] pos) (Gi X.K tl):=by
 intro J2 s σ H R I h;refine Call_ (kR I hg hm PyProof.Rows.boot_zip (O7 (b_ (hl pos J2 s σ H _ I h) λus s1 ⟨vs,H1,I1,r1,q1⟩=>?_) (by rw[hs,LQ]) (by rw[LQ];rfl)));obtain⟨b1,b2,a1,a2,e,⟨xs,Ll⟩,⟨ys,Lm⟩,q⟩:=q1;subst e;cases r1 with
 | cons r rr =>
  cases rr with
  | cons r' rr =>
   cases rr;cases (show _=NQ a1 from r);cases (show _=NQ a2 from r');obtain⟨Nu,rv1,p1,MP⟩:=I1.row Ll;obtain⟨LU,rv2,p2,MY⟩:=I1.row Lm;refine xo p1 p2 λh' g1 g2 g3 g4 g5 g6 g7=>?_;have I2:Inv X J2 σ H1 { s1 with heap:=h' }:=I1.kept (t':=s1.toks) g7;refine wpAny_pyIter_zip (s:={ s1 with heap:=h' }) g1 ?_;refine⟨s1.heap.objs.size+4,[s1.heap.objs.size+4,s1.heap.objs.size+3,s1.heap.objs.size,s1.heap.objs.size+1,s1.heap.objs.size+2],_,_,H1,rfl,I2,
    yS b1 b2 a1 a2 _ _ _ _ _ (EW s1.heap.objs.size),⟨g1,g2,⟨_,_,g3⟩,g4,g5⟩,λb hb=>?_,q⟩
   have hle:s1.heap.objs.size<=b:=by
    simp only[NU,PL,or_false] at hb;rcases hb with q | q | q | q | q
    .rw[q];exact QE _ 4
    .rw[q];exact QE _ 3
    .rw[q];exact NK _
    .rw[q];exact QE _ 1
    .rw[q];exact QE _ 2
   exact I1.om hle (I1.bg.fresh hle)
def I_(K:PySem.W.Frag)(b:Bool)(a:Addr):It:=match b with
 | true=>Js K a
 | false=>Jt K a
def Fy(K:PySem.W.Frag)(tl:TE):TI:=fun σ H R=>tl σ H λx H1=>∃ b a,x=.ref a/\(∃ xs,tm K H1 b a xs)/\R (I_ K b a) H1
theorem dq{l:Expr}{tl:TE}(hl:PE X l tl):PI X tg l (Fy X.K tl):=by
 intro J2 s σ H R I h;refine b_ (hl J2 s σ H _ I h) λv s1 ⟨x,H1,I1,r1,q1⟩=>?_;obtain⟨b,a,e,⟨xs,hq⟩,q⟩:=q1;subst e;cases r1;cases b with
 | true =>
  obtain⟨J6,rv,p,hz⟩:=I1.list hq;refine Rj p.isList ?_;refine⟨s1.heap.objs.size,[s1.heap.objs.size],_,_,H1,rfl,I1.kept (t':=s1.toks) λb o e=>NF _ e,xB a _,⟨_,NO _ rfl,rfl,rfl⟩,λb hb=>?_,q⟩;have e:b=s1.heap.objs.size:=by simpa using hb
  subst e;exact I1.om (NK _) (I1.bg.fresh (NK _))
 | false =>
  obtain⟨J6,rv,p,hz⟩:=I1.tuple hq;refine PN (show s1.heap.IsTuple a J6.toArray from p) ?_;refine⟨s1.heap.objs.size,[s1.heap.objs.size],_,_,H1,rfl,I1.kept (t':=s1.toks) λb o e=>NF _ e,uM a _,⟨_,NO _ rfl,rfl,rfl⟩,λb hb=>?_,q⟩;have e:b=s1.heap.objs.size:=by simpa using hb
  subst e;exact I1.om (NK _) (I1.bg.fresh (NK _))
structure ez (K:PySem.W.Frag) (C:Addr):Prop where
 ga:PySem.W.findIn K (.ref C) "__getattribute__" = some (some (.builtin "BaseException.__getattribute__"))
 gn:PySem.W.findIn K (.ref C) "__getattr__" = some none
 hd:PySem.W.hasDictIn K C=true
 sa:PySem.W.findIn K (.ref C) "__setattr__" = some (some (.builtin "object.__setattr__"))
 mb:PySem.W.mroIn K C (.type "BaseException")=some true
 mo:PySem.W.mroIn K C (.type "object")=some true
 ca:PySem.W.findIn K (.ref C) "__class__" = some (some (.builtin "object.__class__"))
 cg:PySem.W.specialIn K (.builtin "object.__class__") "__get__" = some (some (.builtin "getset_descriptor.__get__"))
 ct:PySem.W.takesIn K (.builtin "object.__class__")=some true
variable{name:Str}{ox:Obj}
variable{tk:Tok}
section
variable{E:Value->Shared->Prop}{K:PySem.W.Frag}{x:Addr}{od:Option Obj}
theorem zM:builtinKind "BaseException.__getattribute__" = some .slot:=by decide +kernel
theorem xx:splitId "BaseException.__getattribute__" = some ("BaseException", "__getattribute__"):=by decide +kernel
theorem yU{fill expr:Bool}(c:ez K C)(X:K.In s.heap)(I:PySem.W.InstAt s.heap x ox C od)
  (h:wpAny (model prog w) A.in1 (Builtin.«object.__getattribute__» ⟨[.ref x,.str name tk],[]⟩)
   (λfin s'=>match fin with | .done (.ret v)=>wpAny (model prog w) A (handedOut v) Q E s' | _=>False) (λ_ _=>False) s) :
  wpAny (model prog w) A (getAttrBy (.ref x) (.str name tk) fill expr) Q E s:=by
 have Lb:(QH "BaseException.__getattribute__" == QH "object.__getattribute__")=false:=by decide +kernel
 have MX:(onTheHeap (NQ C)&&QH "BaseException.__getattribute__" == QH "object.__getattribute__")=false:=by rw[Lb];rfl
 have hx0:(expr&&onTheHeap (QH "BaseException.__getattribute__"))=false:=by cases expr <;> rfl
 have sub:PySem.W.Looks (model prog w) s.heap (isInstance (.ref x) (.type "BaseException")) true:=I.type.andThen (PySem.W.looks_mroIn X c.mb);unfold getAttrBy;refine Ou (NB (I.type.here (NB ((PySem.W.looks_findIn X c.ga).here ?_))));dsimp only;rw[MX,if_neg OC];unfold getAttrByItsOwn hookBefore;refine NB ?_;show wpAny _ _ (typeLookup (.ref C) "__getattr__") _ _ _;refine(PySem.W.looks_findIn X c.gn).here ?_;refine NB (Qf (Ou ?_));unfold callGetattribute;rw[hx0,if_neg OC];unfold boundAndCalled;refine NB (S9 (PySem.F.attr_ValueError.ga.bind _) ?_);refine Q9 (R1 PySem.F.attr_ValueError.ga.plain PySem.F.entry_bexc_ga (@PySem.W.check_slot (model prog w) _ _ s "BaseException.__getattribute__" "BaseException" "__getattribute__" (.ref x) [.str name tk] [] _ zM xx sub (PySem.F.args_bexc_ga _ _) ?_));refine N8 h (λfin s' z=>?_) (λ_ _ z=>z.elim);rcases fin with (v | _ | _ | _) | _ <;> first | exact z | exact z.elim
theorem wO{v:Value}(c:ez K C)(X:K.In s.heap)(I:PySem.W.InstAt s.heap x ox C od)(hf:PySem.W.findObj K C od name=some (.value v))(hh:handedOut v=pure v)
  (h:Q v { s with toks:=s.toks+1 }):wpAny (model prog w) A (getAttr (.ref x) name b) Q E s:=by
 unfold getAttr;refine NB (wpAny_mkText (yU (s:={ s with toks:=s.toks+1 }) c X I ?_));unfold Builtin.«object.__getattribute__»;refine NB (NH ?_);dsimp only;refine NB (NH ?_);refine NB (I.type.here (s:={ s with toks:=s.toks+1 }) (NB ((PySem.W.looks_find X I hf).here (s:={ s with toks:=s.toks+1 }) ?_)));refine NH ?_;show wpAny _ _ (handedOut v) _ _ _;rw[hh];exact NH h
end
variable{newId:String}{dd:Option Addr}
variable{f:Addr}
section
open PySem.Builtin.ObjectAttr (storeInOwnDict storeTaker? setByDescriptor)
abbrev eO:List Value:=[.type "ValueError", .type "Exception", .type "BaseException", .type "object"]
def fV:List Value->Bool
 | .ref _::r=>fV r
 | l=>l==eO
theorem m6(self:Value):refuseLoop self "__setattr__" eO=pure ():=by kernel_rfl
theorem lM(self:Value):∀ {l:List Value},fV l=true->refuseLoop self "__setattr__" l=pure ()
 | .ref c::r,e=>by rw[PySem.refuseLoop_ref];exact lM self e
 | [],e=>by cases (show false=true from e)
 | .type n::r,e=>by rw[show OW n::r=eO from beq_iff_eq.mp e];exact m6 self
 | .none::r,e=>by rw[show Oe::r=eO from beq_iff_eq.mp e];exact m6 self
section
variable{E:Value->Shared->Prop}{K:PySem.W.Frag}{x:Addr}{od:Option Obj}
theorem oA{a g:Value}(hc:(PySem.W.clsIn K C).isSome=true)(ha:PySem.W.findIn K (.ref C) name=some (some a))(hg:PySem.W.specialIn K a "__get__" = some (some g))(ht:PySem.W.takesIn K a=some true):PySem.W.findObj K C od name=some (.bind g a):=by
 obtain⟨cd,hc⟩:=PC.mp hc;unfold PySem.W.findObj;rw[hc,QF,ha,QF];simp[hg,ht]
theorem xm{Q:Option Value->Shared->Prop}(c:ez K C)(X:K.In s.heap)(I:PySem.W.InstAt s.heap x ox C od)(h:Q (some (.ref C)) { s with toks:=s.toks+1 }):wpAny (model prog w) A (getAttr? (.ref x) "__class__") Q E s:=by
 have hc:(PySem.W.clsIn K C).isSome=true:=by obtain⟨cd,hc,_⟩:=PySem.W.any_some c.hd;rw[hc];rfl
 have hf:PySem.W.findObj K C od "__class__" = some (.bind (.builtin "getset_descriptor.__get__") (.builtin "object.__class__")):=oA hc c.ca c.cg c.ct;unfold getAttr? getAttrBy?;refine NB (wpAny_mkText (NB (Qf ?_)));refine yU (s:={ s with toks:=s.toks+1 }) c X I ?_;unfold Builtin.«object.__getattribute__»;refine NB (NH ?_);dsimp only;refine NB (NH ?_);refine NB (I.type.here (s:={ s with toks:=s.toks+1 }) (NB ((PySem.W.looks_find X I hf).here (s:={ s with toks:=s.toks+1 }) ?_)));show wpAny _ _ (holding [.builtin "object.__class__"] (call (.builtin "getset_descriptor.__get__") [.builtin "object.__class__", .ref x,.ref C]) >>= ret) _ _ _;refine NB (Ou (Q9 (PySem.W.class_get (s:={ s with toks:=s.toks+1 }) (ox:=ox) (od:=od) X I c.mo ?_)));refine NH ?_;exact PySem.W.handed_on rfl (NH h)
theorem rA(c:ez K C):PySem.W.KitX K (.ref x) (.ref C) (λh=>PySem.W.InstAt h x ox C od) where
 ty:=λ_ _ _ I=>I.type
 it:=λ_ _ X _=>by
  obtain⟨cdD,Mj,_⟩:=PySem.W.any_some c.hd;unfold PySem.W.clsIn at Mj
  split at Mj
  .rename_i c' d' cd' sl' ho;intro A' Q' E' s' k q;unfold isType loadHead;exact NB (Qu (k _ _ (X _ _ ho)) (NH q))
  .cases Mj
 ne:=λh tp dd J6 n sl X htp=>by
  obtain⟨cdD,Mj,_⟩:=PySem.W.any_some c.hd;refine Bool.eq_false_iff.mpr λq=>?_;have e:C=tp:=Value.ref.inj (beq_iff_eq.mp q);subst e;unfold PySem.W.clsIn at Mj
  split at Mj
  .rename_i c' d' cd' sl' ho;have z:=(X _ _ ho).symm.trans htp;cases z
  .cases Mj
 ca:=λX I k=>xm c X I k
theorem Bn{v:Value}{R:Result->Shared->Prop}(po:((PySem.W.clsIn K C).any λcd=>fV cd.mro)=true)(c:ez K C)(X:K.In s.heap)(I:PySem.W.InstAt s.heap x ox C od)(ht:PySem.W.takerIn K C name=some none)
  (h:∀ b,wpAny (model prog w) A.in1 (storeInOwnDict (.ref x) (.ref C) (.str name tk) name v b)
   (λfin s'=>match fin with | .done f=>R (.ok f) s' | .again c'=>c'.quiet=true/\codeAny (model prog w) A c' R s') (λe s'=>R (.error e) s') s) :
  codeAny (model prog w) A (.call (.builtin "object.__setattr__") ⟨[.ref x,.str name tk,v],[]⟩) R s:=by
 have SF:=PySem.F.store_object;obtain⟨cd,hc,ho⟩:=PySem.W.any_some po;have sub:PySem.W.Looks (model prog w) s.heap (isInstance (.ref x) (.type "object")) true:=I.type.andThen (PySem.W.looks_mroIn X c.mo);refine R1 SF.slot.plain SF.entry (@PySem.W.check_slot (model prog w) _ _ s "object.__setattr__" "object" "__setattr__" (.ref x) [.str name tk,v] [] _ SF.kind SF.split sub (SF.args (.ref x) (.str name tk) v) ?_);obtain⟨attr,ha,hr⟩:=PM.mp ht;have hm:PySem.W.Looks (model prog w) s.heap (mroOf (.ref C)) cd.mro:=(PySem.W.looks_clsIn X hc).andThen .now;have L3:PySem.W.Looks (model prog w) s.heap (storeTaker? attr) none:=by
  cases attr with
  | none=>cases hr;exact .now
  | some a =>
   obtain⟨b,hb,e⟩:=N4.mp hr;refine(PySem.W.looks_takesIn X hb).andThen ?_;cases b with
   | true=>cases e
   | false=>exact .now
 rw[PySem.W.osa_eq,PySem.refuse_eq];refine NB (NB (I.type.here (NB (hm.here ?_))));rw[lM _ ho];refine NH (NB (I.type.here (NB ((PySem.W.looks_findIn X ha).here (NB (L3.here ?_))))));exact h _
theorem yY{vs:Array Value}{v:Value}{Q:Unit->Shared->Prop}(po:((PySem.W.clsIn K C).any λcd=>fV cd.mro)=true)(c:ez K C)(X:K.In s.heap)(hx:s.heap.get? x=some ⟨.ref C,none,.fields vs,#[]⟩)(ht:PySem.W.takerIn K C name=some none)
  (h:∀ h' tk d,h'.get? x=some ⟨.ref C,some d,.fields vs,#[]⟩->s.heap.get? d=none->h'.Ns1 d (λy=>if y=name then some v else none)->(∀ b o,b≠x->s.heap.get? b=some o->h'.get? b=some o)->Q () { s with heap:=h',toks:=tk }) :
  wpAny (model prog w) A (setAttr (.ref x) name v) Q E s:=by
 have I:PySem.W.InstAt s.heap x ⟨.ref C,none,.fields vs,#[]⟩ C none:=⟨hx,rfl,rfl,trivial⟩
 refine PySem.W.set_plain X I c.sa (Bn (s:={ s with toks:=s.toks+1 }) po c X I ht λb=>?_);obtain⟨cd,hc,Nf⟩:=PySem.W.any_some c.hd;have Kv:=NN hx;refine NB (NH (NB (NB (Qu hx (NB (PySem.W.Looks.here (s:={ s with toks:=s.toks+1 }) (PySem.W.looks_clsIn X hc) ?_))))));rw[Nf];refine NB (wpAny_alloc ?_);have MX:(s.heap.push { cls:=.type "dict", data:=.dict #[] }).get? x=some ⟨.ref C,none,.fields vs,#[]⟩:=NF _ hx;refine NB (wpAny_update MX ?_);refine NH (a:=some s.heap.objs.size) (NB (NH (NB ?_)));have Lb:((s.heap.push { cls:=.type "dict", data:=.dict #[] }).update x λo=>{ o with dict:=some s.heap.objs.size }).get? x=some ⟨.ref C,some s.heap.objs.size,.fields vs,#[]⟩:=O0 _ MX rfl;have e1:(s.heap.push { cls:=.type "dict", data:=.dict #[] }).get? s.heap.objs.size=some { cls:=.type "dict", data:=.dict #[] }:=NO s.heap rfl;have nxd:s.heap.objs.size≠x:=Py Kv;have e2:((s.heap.push { cls:=.type "dict", data:=.dict #[] }).update x λo=>{ o with dict:=some s.heap.objs.size }).get? s.heap.objs.size=some { cls:=.type "dict", data:=.dict #[] }:=by
  rw[OD _ _ (O4 nxd)];exact e1
 have e3:((s.heap.push { cls:=.type "dict", data:=.dict #[] }).update x λo=>{ o with dict:=some s.heap.objs.size }).Ns s.heap.objs.size (λ_=>none):=⟨_,#[],_,e2,rfl,(λe he=>absurd he (by simp)),λ_=>rfl⟩
 refine wpAny_nsSet1 (s:={ s with heap:=(s.heap.push { cls:=.type "dict", data:=.dict #[] }).update x λo=>{ o with dict:=some s.heap.objs.size },toks:=s.toks+1 }) (Sy e3) λh' MC LQ=>?_;obtain⟨oD,esD,epD,hoD,hdD,Mj⟩:=MC.count (PySem.Within.cons (ns:=[]) name v (λy hy=>absurd rfl hy));refine NB (wpAny_lookBehind hoD (by rw[hdD];exact pastItsLine_dict (N3 Mj (by show 1<=sizeLine+1;exact Nat.le_add_left _ _))) ?_);refine NH (h h' _ s.heap.objs.size ((LQ.2 x (O4 nxd)).trans Lb) (P0 (NK _)) MC λb o hb e=>?_);refine(LQ.2 b (NR (NN e))).trans ?_;rw[OD _ _ (O4 hb)];exact NF _ e
end
def mP(K:PySem.W.Frag)(C:Addr)(newId:String)(f:Addr):Bool:=match K.lookup C with
 | some ⟨.type "type", _,.cls cd,sl⟩=>(match cd.mro,sl.toList with
  | .ref C'::bm,[_,_,_,_,some (.builtin n),_]=>C'==C&&n==newId&&!cd.hasDel&&PySem.W.tailIn K eO bm&&PySem.W.nsOkIn K cd.ns&&PySem.W.nsIn K cd.ns "__init__" == some (some (.ref f))
  | _,_=>false)
 | _=>false
section
variable{E:Value->Shared->Prop}{g:Array GenState}{d:Drawn}{t:Nat}{os:OsState}
variable{nm q:Str}{N:Addr}{bs bm:List Value}{LR:Bool}{sn:List Str}{sub:List Value}{ab:Bool}{col:Option Bool}{k0 k1 k2 k3 k5:Option Value}{MQ:String}
theorem mU(F:ExcBaseFacts "ValueError" newId MQ eO)(T:OwnTail h eO bm){mN:Str->Option Value}{rest:List Value}{Q:Fin->Shared->Prop}
  (hC:h.get? C=some (excClassObj nm q C N bs bm LR sn sub ab col dd k0 k1 k2 k3 k5 newId)) (hn:h.Ns N mN) (L8:mN "__init__" = some (.ref f))
  (hb:∀ h':Heap,(∀ b o,h.get? b=some o->h'.get? b=some o)->∀ self,PySem.W.Looks (model prog w) h' (bindSpecial (.ref f) self) (.ref f,[self]))
  (hq:∀ h':Heap,(∀ b o,h.get? b=some o->h'.get? b=some o)->h'.get? h.objs.size=some { cls:=.type "tuple", data:=.seq rest.toArray } ->
   h'.get? (h.objs.size+1)=some { cls:=.ref C,data:=.fields #[.ref h.objs.size,.none,.none,.none,.bool false,.none] }->h'.objs.size=h.objs.size+2 ->
   wpAny (model prog w) A (call (.ref f) (.ref (h.objs.size+1)::rest)) (λv s'=>v=.none/\Q (.done (.ret (.ref (h.objs.size+1)))) s') E ⟨h',g,d,t,os⟩) (yE:rest.length<=sizeLine:=by size_fits) :
  wpAny (model prog w) A (Builtin.«type.__call__» ⟨.ref C::rest,[]⟩) Q E ⟨h,g,d,t,os⟩:=by
 repeat (first | with_reducible refine Rk hC ?_ | with_reducible refine wpAny_madeBy_exc hC ?_ | wp_step)
 refine codeAny_call_builtin_code (Sq _ F.quiet) (wpAny_check_new_subT F T hC ?_);refine codeAny_exc_new_subT F T hC ?_ yE;show wpAny _ _ _ _ _ _;have kp:∀ b o,h.get? b=some o->((h.push { cls:=.type "tuple", data:=.seq rest.toArray }).push { cls:=.ref C,data:=.fields #[.ref h.objs.size,.none,.none,.none,.bool false,.none] }).get? b=some o:=λb o e=>NF _ (NF _ e);have hC1:=kp _ _ hC;have hn1:((h.push { cls:=.type "tuple", data:=.seq rest.toArray }).push { cls:=.ref C,data:=.fields #[.ref h.objs.size,.none,.none,.none,.bool false,.none] }).Ns N mN:=hn.keeps kp;have Nh:((h.push { cls:=.type "tuple", data:=.seq rest.toArray }).push
   { cls:=.ref C,data:=.fields #[.ref h.objs.size,.none,.none,.none,.bool false,.none] }).get? (h.objs.size+1)=some
   { cls:=.ref C,data:=.fields #[.ref h.objs.size,.none,.none,.none,.bool false,.none] }:=by heap_get
 have htup:((h.push { cls:=.type "tuple", data:=.seq rest.toArray }).push
   { cls:=.ref C,data:=.fields #[.ref h.objs.size,.none,.none,.none,.bool false,.none] }).get? h.objs.size=some { cls:=.type "tuple", data:=.seq rest.toArray }:=NF _ (NO _ rfl)
 have Lh:((h.push { cls:=.type "tuple", data:=.seq rest.toArray }).push { cls:=.ref C,data:=.fields #[.ref h.objs.size,.none,.none,.none,.bool false,.none] }).objs.size=h.objs.size+2:=by rw[Ow,Ow]
 have hcC:(NQ C::bm).contains (.ref C)=true:=by simp
 have T1:=T.keeps kp;have hb₁:=hb _ kp (.ref (h.objs.size+1));have fin:=hq _ kp htup Nh Lh;generalize ((h.push { cls:=.type "tuple", data:=.seq rest.toArray }).push { cls:=.ref C,data:=.fields #[.ref h.objs.size,.none,.none,.none,.bool false,.none] })=h1 at *;unfold isInstance
 repeat (first | with_reducible refine Rk Nh ?_ | (with_reducible refine wpAny_isSubtype_exc hC1 ?_;rw[hcC]) | wp_step)
 show wpAny _ _ (typeLookup (.ref C) _) _ _ _;refine wpAny_typeLookup_tail hC1 hn1 T1 F.mroIs F.init.lookup ?_;rw[L8];refine Ou (NB (hb₁.here ?_));refine NB (N8 fin (λv s' z=>?_) λ_ _ z=>z);obtain⟨rfl,z⟩:=z
 wp_walk
 exact z
end
end
def dU(C:Addr)(dd:Option Addr)(e:Addr):HO:=.ext λh=>∃ vs,h.get? e=some ⟨.ref C,dd,.fields vs,#[]⟩
theorem AY{e:Addr}{vs:Array Value}(he:h.get? e=some ⟨.ref C,dd,.fields vs,#[]⟩):bF P w H h e (dU C dd e) :=
 ⟨⟨vs,he⟩,⟨_,he⟩,λ_ _ ⟨vs,q⟩ k=>⟨vs,k _ q⟩⟩
def ExcAt(H:Hp)(e C:Addr)(fo:Option (List (Str×V))):Prop:=match fo with
 | none=>H e=some (dU C none e)
 | some fs=>∃ d,H e=some (dU C (some d) e)/\H d=some (.xd fs)
theorem Inv.m9(I:Inv X J2 σ H s){e:Addr}(he:H e=some (dU C dd e)):∃ vs,s.heap.get? e=some ⟨.ref C,dd,.fields vs,#[]⟩:=(I.bg e _ he).1
theorem Inv.vf(I:Inv X J2 σ H s){e:Addr}{fo:Option (List (Str×V))}(h:ExcAt H e C fo):∃ ox od,PySem.W.InstAt s.heap e ox C od/\(fo=none->od=none) ∧
  ∀ fs,fo=some fs->∃ (o:Obj) (mA:Str->Option Value),od=some o/\(∀ n,PySem.W.lookIn n o=some (mA n))/\∀ f,kF (fs.lookup f) (mA f):=by
 cases fo with
 | none =>
  obtain⟨vs,q⟩:=I.m9 h;exact⟨_,none,⟨q,rfl,rfl,trivial⟩,λ_=>rfl,λfs z=>(by cases z)⟩
 | some fs =>
  obtain⟨d,h1,h2⟩:=h;obtain⟨vs,q⟩:=I.m9 h1;obtain⟨mA,n,r⟩:=(show ∃ mA,s.heap.Ns1 d mA/\∀ f,kF (fs.lookup f) (mA f) from I.bg d _ h2)
  obtain⟨o,ho,hl⟩:=lh n;refine⟨_,some o,⟨q,rfl,rfl,ho⟩,λz=>(by cases z),λMF z=>?_⟩;cases z;exact⟨o,mA,rfl,hl,r⟩
theorem Inv.qm(I:Inv X J2 σ H s)(hn:s.heap.get? a=none):H a=none:=by
 cases q:H a with
 | none=>rfl
 | some u =>
  exfalso;have:∀ (u:HO),bF X.prog X.w H s.heap a u->∃ ob,s.heap.get? a=some ob:=by
   intro u
   induction u with
   | lst xs=>intro ⟨_,_,_,_,e⟩;exact⟨_,e⟩
   | tup xs=>intro ⟨_,_,_,p⟩;obtain⟨ob,e,_⟩:=p;exact⟨ob,e⟩
   | dK Ky=>intro ⟨_,_,_,_,p⟩;obtain⟨ob,_,_,e,_⟩:=p;exact⟨ob,e⟩
   | dT Ky=>intro ⟨_,_,_,_,ob,_,_,e,_⟩;exact⟨ob,e⟩
   | set S n=>intro p;obtain⟨es,ob,xs,ep,e,_⟩:=p;exact⟨_,e⟩
   | ins C dx fs=>intro ⟨_,_,_,e,_⟩;exact⟨_,e⟩
   | own x=>intro ⟨ob,e⟩;exact⟨ob,e⟩
   | xd fs=>intro ⟨mA,n,_⟩;obtain⟨ob,e,_⟩:=lh n;exact⟨ob,e⟩
   | met f x=>intro e;exact⟨_,e⟩
   | B7 lo hi=>intro ⟨_,_,_,e⟩;exact⟨_,e⟩
   | oO o u _=>intro ⟨e,_⟩;exact⟨_,e⟩
   | Cu ps=>intro e;exact⟨_,e⟩
   | ext φ=>intro ⟨_,⟨ob,e⟩,_⟩;exact⟨ob,e⟩
  obtain⟨ob,e⟩:=this u (I.bg a u q);rw[hn] at e;cases e
theorem Inv.CH{o:HO}(I:Inv X J2 σ H s)(k:∀ b u,s.heap.get? b=some u->h'.get? b=some u)(hn:s.heap.get? a=none)(new:bF X.prog X.w (upd H a o) h' a o) :
  Inv X J2 σ (upd H a o) { s with heap:=h',toks:=t' }:=by
 have ne:∀ b u,s.heap.get? b=some u->b≠a:=λb u e z=>by rw[z,hn] at e;cases e
 have LZ:H a=none:=I.qm hn;have Mr:∀ b u,H b=some u->b≠a:=λb u e z=>by rw[z,LZ] at e;cases e
 refine I.un ⟨λb u e _ _ _=>k b u e,λb u e _ _ _=>⟨u.slots,k b u e⟩,λb u e n _=>by rw[ar (ne b u e)];exact n,λb u e _=>⟨u,k b u e⟩,
  λb xs e=>by rw[ar (Mr b _ e)];exact e,λb ob u e=>by rw[ar (Mr b _ e)];exact e,λb ps e=>⟨#[],by rw[ar (Mr b _ e),e];simp⟩⟩ λb u e=>?_
 by_cases z:b=a
 .subst z;rw[av] at e;cases e;exact new
 .rw[ar z] at e;refine(I.bg b u e).jU (λc v _ q=>k c v q) (λc q=>?_) λc ys q=>?_
  .rw[ar (Mr c _ q)];exact q
  .rw[ar (Mr c _ q)];exact q
variable{apos:Pos}{m:Str}{ta:TE}{o:Expr}
section
variable{f:Str}
def Ie(K:PySem.W.Frag):List V->Hp->VK->Prop:=λxs H Q=>∃ e C fo b,ez K C/\ExcAt H e C fo ∧
 ((∃ T,xs=[.ref e,.ty T]/\PySem.W.kitOne K (.ref C) (.type T)=some b)\/(∃ D,xs=[.ref e,.ref D]/\PySem.W.kitOne K (.ref C) (.ref D)=some b))/\Q (.bl b) H
theorem sT:cO X (.builtin "isinstance") (Ie X.K):=by
 intro J2 s σ H xs us Q I r h;obtain⟨e,C,fo,b,c,ha,hc,q⟩:=h;obtain⟨ox,od,J,_⟩:=I.vf ha;rcases hc with ⟨T,rfl,hk⟩ | ⟨D,rfl,hk⟩
 .cases r with
  | cons r1 r2 =>
   cases r2 with
   | cons r3 r4 =>
    cases r4;cases (show _=NQ e from r1);cases (show _=OW T from r3);exact PySem.W.kia_one (rA c) I.iH J hk (λz=>nomatch z) λtk=>⟨.bl b,H,I.tok tk,rfl,q⟩
 .cases r with
  | cons r1 r2 =>
   cases r2 with
   | cons r3 r4 =>
    cases r4;cases (show _=NQ e from r1);cases (show _=NQ D from r3);exact PySem.W.kia_one (rA c) I.iH J hk (λz=>nomatch z) λtk=>⟨.bl b,H,I.tok tk,rfl,q⟩
def F5(K:PySem.W.Frag)(ta:TE)(f:Str):TE:=fun σ H Q=>ta σ H λx H1=>∃ e C fs v,x=.ref e/\ExcAt H1 e C (some fs)/\ez K C/\bP K C f/\fs.lookup f=some v/\Q v H1
theorem BS(he:PE X o ta)(hb:attributeBase o f X.env (eval o X.env)=eval o X.env):PE X (.Attribute o f pos) (F5 X.K ta f):=by
 intro J2 s σ H Q I h;refine vY hb (b_ (he J2 s σ H _ I h) λu s1 ⟨x,H1,I1,rx,e,C,fs,v,ex,ha,c,n,l,q⟩=>?_);subst ex;obtain rfl:u=NQ e:=rx;obtain⟨ox,od,J,_,hfo⟩:=I1.vf ha;obtain⟨o',mA,rfl,hl,hr⟩:=hfo fs rfl;obtain⟨u',hu,ru⟩:=kF.some_of (v:=v) (o:=mA f) (by rw[<- l];exact hr f);exact wO c I1.iH J (PySem.W.findObj_own c.hd n rfl (by rw[hl,hu])) (PySem.W.handedOut_of (o3 ru)) ⟨v,H1,I1.tok _,ru,q⟩
end
variable{mg:Str->Option Value}
theorem uJ{K:PySem.W.Frag}{N:Addr}{n:Str}{v:Value}(X:K.In h)(G:h.Ns N mg)(e:PySem.W.nsIn K N n=some (some v)):mg n=some v:=by
 obtain⟨o,es,ep,ho,hd,_,hf⟩:=G;unfold PySem.W.nsIn at e
 split at e
 .rename_i c d es' n' sl q;have:=X _ _ q;rw[ho] at this;cases this;cases hd
  split at e
  .rename_i en he;cases e;rw[<- hf];unfold nsFind findBy;rw[<- Sm,he];rfl
  .split at e <;> cases e
 .cases e
theorem AS{K:PySem.W.Frag}(X:K.In h)(q:PySem.W.excIn K C eO newId=true) :
  ∃ bm N nm qn bs LR sn sub ab col dd k0 k1 k2 k3 k5 mN,h.get? C=some (excClassObj nm qn C N bs bm LR sn sub ab col dd k0 k1 k2 k3 k5 newId)/\h.Ns N mN/\mN "__init__" = none/\OwnTail h eO bm:=by
 unfold PySem.W.excIn at q
 split at q
 .rename_i dd cd sl ho
  split at q
  .rename_i C' bm k0 k1 k2 k3 n k5 hm hs;simp only[Oz,beq_iff_eq,SM] at q;obtain⟨⟨⟨⟨⟨rfl,rfl⟩,Ml⟩,ht⟩,bg⟩,L8⟩:=q;obtain⟨nm,bs,mro,ns,qn,hd,sn,sub,ab,col,del⟩:=cd;dsimp only at hm Ml bg L8;subst hm Ml;have hsl:sl=#[k0,k1,k2,k3,some (.builtin n),k5]:=by
    obtain⟨l⟩:=sl;simp only at hs;rw[hs]
   subst hsl;exact⟨bm,ns,nm,qn,bs,hd,sn,sub,ab,col,dd,k0,k1,k2,k3,k5,_,X _ _ ho,.of_isNs (PySem.W.isNs_of_in X bg),PySem.W.nsMap_none_of_in X bg L8,PySem.W.tail_of_in X ht⟩
  .cases q
 .cases q
theorem zN{K:PySem.W.Frag}(X:K.In h)(q:mP K C newId f=true) :
  ∃ bm N nm qn bs LR sn sub ab col dd k0 k1 k2 k3 k5 mN,h.get? C=some (excClassObj nm qn C N bs bm LR sn sub ab col dd k0 k1 k2 k3 k5 newId)/\h.Ns N mN/\mN "__init__" = some (.ref f)/\OwnTail h eO bm:=by
 unfold mP at q
 split at q
 .rename_i dd cd sl ho
  split at q
  .rename_i C' bm k0 k1 k2 k3 n k5 hm hs;simp only[Oz,beq_iff_eq,SM] at q;obtain⟨⟨⟨⟨⟨rfl,rfl⟩,Ml⟩,ht⟩,bg⟩,L8⟩:=q;obtain⟨nm,bs,mro,ns,qn,hd,sn,sub,ab,col,del⟩:=cd;dsimp only at hm Ml bg L8;subst hm Ml;have hsl:sl=#[k0,k1,k2,k3,some (.builtin n),k5]:=by
    obtain⟨l⟩:=sl;simp only at hs;rw[hs]
   subst hsl;have hN:=Heap.Ns.of_isNs (PySem.W.isNs_of_in X bg);exact⟨bm,ns,nm,qn,bs,hd,sn,sub,ab,col,dd,k0,k1,k2,k3,k5,_,X _ _ ho,hN,uJ X hN L8,PySem.W.tail_of_in X ht⟩
  .cases q
 .cases q
variable{k:Nat}{t:TA}{es:List Expr}{e:Expr}{ps:List Str}{fd:FuncData}
section
variable{sp:Sp}{p:Pos}
end
section
open PySem.SeqAt (shaped noMix noMixAll)
end
section
open PySem.SeqAt (shaped noMix noMixAll)
theorem Bg{x:V}{u t:Value}(I:Inv X J2 σ H s)(rx:RelV x u)(ty:iF X.K H x t):∃ HH:Heap->Prop,PySem.W.KitX X.K u t HH/\HH s.heap/\u≠.builtin "__main__.__loader__#opaque" := by
 cases ty with
 | bH=>cases (show u=Oe from rx);exact⟨_,PySem.W.kitx_none,O6,λz=>nomatch z⟩
 | bl y=>cases (show u=OV y from rx);exact⟨_,PySem.W.kitx_bool,O6,λz=>nomatch z⟩
 | int i=>obtain⟨t,q⟩:=(show ∃ t,u=Rq i t from rx);cases q;exact⟨_,PySem.W.kitx_int,O6,λz=>nomatch z⟩
 | str y=>obtain⟨t,q⟩:=(show ∃ t,u=Rr y t from rx);cases q;exact⟨_,PySem.W.kitx_str,O6,λz=>nomatch z⟩
 | CI y=>obtain⟨t,q⟩:=(show ∃ t,u=RY y t from rx);cases q;exact⟨_,PySem.W.kitx_float,O6,λz=>nomatch z⟩
 | @lst a xs ea =>
  cases (show u=NQ a from rx);obtain⟨_,_,n,_,h1⟩:=(show bF X.prog X.w H s.heap a (.lst xs) from I.bg a _ ea)
  exact⟨_,PySem.W.kitx_list,⟨_,h1,rfl⟩,λz=>nomatch z⟩
 | @oO a ob xs ea =>
  cases (show u=NQ a from rx);obtain⟨_,_,_,n,_,h1⟩:=(show bF X.prog X.w H s.heap a (.oO ob (.lst xs)) from I.bg a _ ea)
  exact⟨_,PySem.W.kitx_list,⟨_,h1,rfl⟩,λz=>nomatch z⟩
 | @tup a xs ea =>
  cases (show u=NQ a from rx);obtain⟨_,_,_,o,h1,h2,_⟩:=(show bF X.prog X.w H s.heap a (.tup xs) from I.bg a _ ea)
  exact⟨_,PySem.W.kitx_tuple,⟨o,h1,h2⟩,λz=>nomatch z⟩
 | @dK a Ky ea =>
  cases (show u=NQ a from rx);obtain⟨_,_,vs,_,o,es,ep,h1,h2,_⟩:=(show bF X.prog X.w H s.heap a (.dK Ky) from I.bg a _ ea)
  exact⟨_,PySem.W.kitx_dict,⟨o,h1,h2.1⟩,λz=>nomatch z⟩
 | @dT a Ky ea =>
  cases (show u=NQ a from rx);obtain⟨_,_,xs,_,o,es,ep,h1,h2,_⟩:=(show bF X.prog X.w H s.heap a (.dT Ky) from I.bg a _ ea)
  exact⟨_,PySem.W.kitx_dict,⟨o,h1,h2.1⟩,λz=>nomatch z⟩
 | @ins a C dx fs ea cl ha hn Fu hm =>
  cases (show u=NQ a from rx);obtain⟨mA,O,_⟩:=j8 I.bg ea;obtain⟨od,J,_⟩:=O.look;exact⟨_,PySem.W.kitx_own (cl.get _) cl.hd ha hn Fu hm,J,λz=>nomatch z⟩
def Gq(K:PySem.W.Frag):List V->Hp->VK->Prop:=λxs H Q=>∃ (x:V) (tp:Addr) (Ts:List String) (t:Value) (b:Bool),xs=[x,.ref tp]/\H tp=some (.tup (Ts.map V.ty))/\iF K H x t/\PySem.W.kitAny K t (Ts.map OW)=some b/\Q (.bl b) H
theorem vL:∀ {Ts:List String} {us:List Value},Vals (Ts.map V.ty) us->us=Ts.map OW
 | [],us,r=>by rw[Q0] at r;cases r;rfl
 | T::Ts,us,r=>by
  rw[N5] at r;cases r with
  | cons r1 r2 =>
   cases (show _=OW T from r1);rw[vL r2];rfl
theorem wC:cO X (.builtin "isinstance") (Gq X.K):=by
 intro J2 s σ H xs us Q I r h;obtain⟨x,tp,Ts,t,b,rfl,htp,ty,e,q⟩:=h;cases r with
 | cons r1 r2 =>
  cases r2 with
  | cons r3 r4 =>
   cases r4;cases (show _=NQ tp from r3);obtain⟨HH,Z,p,ne⟩:=Bg I r1 ty;obtain⟨_,J6,rv,o,h1,h2,n,h3⟩:=(show bF X.prog X.w H s.heap tp (.tup (Ts.map V.ty)) from I.bg tp _ htp)
   have ei:=vL rv;subst ei;obtain⟨cls,dd,data,sl⟩:=o;dsimp only at h2 h3;subst h2 h3;exact PySem.W.kia_tup Z I.iH p h1 e ne λtk=>⟨.bl b,H,I.tok tk,rfl,q⟩
theorem vV:∀ {bs:List Bool} {us:List Value},Vals (bs.map V.bl) us->us=bs.map OV
 | [],us,r=>by rw[Q0] at r;cases r;rfl
 | b::bs,us,r=>by
  rw[N5] at r;cases r with
  | cons r1 r2 =>
   cases (show _=OV b from r1);rw[vV r2];rfl
theorem Di:bootBuiltins "all" = some (.builtin "all"):=by decide +kernel
theorem wj(hc:X.calm=true):cO X (.builtin "all") (λxs H Q=>∃ (a:Addr) (bs:List Bool),xs=[.ref a]/\gK X.K H a (bs.map V.bl)/\Q (.bl (bs.all id)) H):=by
 intro J2 s σ H xs us Q I r h;obtain⟨a,bs,rfl,hq,q⟩:=h;cases r with
 | cons r1 r2 =>
  cases r2;cases (show _=NQ a from r1);obtain⟨J6,rv,p,hz⟩:=I.list hq;have ei:=vV rv;subst ei;have hl:=p.isList;have Kv:a<s.heap.objs.size:=by obtain⟨_,e,_⟩:=hl;exact NN e
  refine call_all_walk (Rj hl ?_);refine⟨s.heap.objs.size,[s.heap.objs.size,a],[s.heap.objs.size],(bs.map OV).toArray.size,_,_,λi=>(bs[i]?).getD true,rfl,Walks.list (A:=X.A.in1) (I.ok.hd hc) _ a (NR Kv) (bs.map OV).toArray,
   ⟨⟨_,NO _ rfl,rfl,rfl⟩,hl.push _⟩,λi v s' Q' E' hP hQ=>?_,λh' tk hk=>?_⟩
  .have hP':(bs.map OV)[i]?=some v:=by simpa using hP
   rw[NZ] at hP';obtain⟨b,e1,e2⟩:=N4.mp hP';subst e2;simp only[e1,Ru] at hQ;exact OP hQ
  .have e:((N2 (bs.map OV).toArray.size).all λi=>(bs[i]?).getD true)=bs.all id:=by
    rw[NT,ND];rw[Ql,NY,NY];constructor
    .intro h b hb;obtain⟨i,hi,e⟩:=Sd hb;have:=h i (Oi.mpr hi);simp only[NG hi,Ru,e] at this;exact this
    .intro h i hi;have hi':=Oi.mp hi;simp only[NG hi',Ru];exact h _ (Pc hi')
   rw[e];refine⟨.bl _,H,I.kept (t':=tk) (λb x e=>?_),rfl,q⟩;exact hk b x (λhm=>by rw[N9.mp hm] at e;exact O_ _ (NN e)) (NF _ e)
end
section
open PySem.MeetsSeq PySem.MeetsSeq2 PySem.MeetsSeq3
theorem la:fillsNumberSlot (.type "tuple") "mul" = pure false :=
 PySem.fillsNumberSlot_seq (id := "tuple.__mul__") (r:=some (.builtin "tuple.__rmul__")) F.slot_tuple_mul.lookup (by decide +kernel) F.slot_tuple_rmul.lookup (by decide +kernel)
theorem qr:seqRepeat? (.type "tuple")=pure (some (.builtin "tuple.__mul__")):=by
 unfold seqRepeat?;rw[PySem.seqSlot_of (T := "tuple") (name := "__mul__") (id := "tuple.__mul__") F.slot_tuple_mul.lookup (by decide +kernel),PySem.seqSlot_of (T := "tuple") (name := "__rmul__") (id := "tuple.__rmul__") F.slot_tuple_rmul.lookup (by decide +kernel)];rfl
theorem pT(a:Int)(t:Tok)(l:Addr)(J3:Array Value)(n:Nat)(dd:Option Addr)(sl:Array (Option Value)) :
  Meets (Builtin.«int.__rmul__» ⟨[.int a t,.ref l],[]⟩) (λ_ R s=>s.heap.get? l=some ⟨.type "tuple", dd,.seq J3 n,sl⟩/\R (.ok (.ret Value.notImplemented)) s) :=
 .of_wp λprog w A R s h=>by obtain⟨hp,g,d,tk,os⟩:=s;obtain⟨hl,h⟩:=h;wp_walk;exact⟨_,rfl,h⟩
theorem wg(l:Addr)(J3:Array Value)(n:Nat)(dd:Option Addr)(sl:Array (Option Value))(u:Tok) :
  Meets (Builtin.«tuple.__mul__» ⟨[.ref l,.int 1 u],[]⟩) (λ_ R s=>s.heap.get? l=some ⟨.type "tuple", dd,.seq J3 n,sl⟩/\R (.ok (.ret (.ref l))) s) :=
 .of_wp λprog w A R s h=>by
  obtain⟨hp,g,d,tk,os⟩:=s;obtain⟨hl,h⟩:=h;have f1:=Rv;have f2:=Qg
  wp_walk using OT hl
  exact⟨_,rfl,h⟩
theorem wo(l:Addr)(J3:Array Value)(n:Nat)(dd:Option Addr)(sl:Array (Option Value))(x:Int)(u:Tok)(c0:¬ (decide (x < -2^63)||decide (x>=2^63))=true)(c1:¬ (J3.isEmpty||x==1)=true)(c2:¬ (decide (x<=0)||J3.isEmpty)=true)
  (c3:¬ (J3.size:Int)*x>(2^63-1)/8) (c4:¬ Q_ ((J3.size:Int)*x)=true) (Lh:(Q7 (λx1 x2=>x1++x2) #[] (NV x.toNat J3)).size<=sizeLine) :
  Meets (Builtin.«tuple.__mul__» ⟨[.ref l,.int x u],[]⟩) (λ_ R s=>s.heap.get? l=some ⟨.type "tuple", dd,.seq J3 n,sl⟩/\R (.ok (.ret (.ref s.heap.objs.size))) { s with heap:=s.heap.push { cls:=.type "tuple", data:=.seq (Q7 (λx1 x2=>x1++x2) #[] (NV x.toNat J3)) },toks:=s.toks }) :=
 .of_wp λprog w A R s h=>by
  obtain⟨hp,g,d,tk,os⟩:=s;obtain⟨hl,h⟩:=h;have f1:=Rv;have f2:=Qg
  wp_walk using OT hl
  refine RQ (decide_eq_false c0) ?_;wp_walk using OT hl;refine RQ (decide_eq_false c3) ?_;wp_walk using OT hl;exact⟨_,rfl,h⟩
theorem wL(l:Addr)(J3:Array Value)(n:Nat)(dd:Option Addr)(sl:Array (Option Value))(x:Int)(u:Tok)(c0:¬ (decide (x < -2^63)||decide (x>=2^63))=true)(c1:¬ (J3.isEmpty||x==1)=true)(c2:(decide (x<=0)||J3.isEmpty)=true) :
  Meets (Builtin.«tuple.__mul__» ⟨[.ref l,.int x u],[]⟩) (λ_ R s=>s.heap.get? l=some ⟨.type "tuple", dd,.seq J3 n,sl⟩/\R (.ok (.ret (.ref s.heap.objs.size))) { s with heap:=s.heap.push { cls:=.type "tuple", data:=.seq #[] },toks:=s.toks }) :=
 .of_wp λprog w A R s h=>by
  obtain⟨hp,g,d,tk,os⟩:=s;obtain⟨hl,h⟩:=h;have f1:=Rv;have f2:=Qg
  wp_walk using OT hl
  refine RQ (decide_eq_false c0) ?_;wp_walk using OT hl;exact⟨_,rfl,h⟩
def B_(K:PySem.W.Frag):R2:=λx y H Q=>∃ a k xs,x=.ref a/\y=.int k/\gx K H a xs/\xs≠[]/\-(2^63)<=k/\k<2^63/\xs.length*k.toNat<=sizeLine/\(k=1->Q (.ref a) H)/\(k≠1->∀ p,H p=none->Q (.ref p) (upd H p (.tup (NV k.toNat xs).flatten)))
theorem Bb:fF X (binaryOp .Mult) (B_ X.K):=by
 intro J2 s σ H x y v u Q I rx ry h;obtain⟨a,k,xs,rfl,rfl,hq,Me,h1,h2,hz,q1,q2⟩:=h;cases rx;obtain⟨t,rfl⟩:=ry;obtain⟨J6,r,⟨o,e,hc,n,hd⟩,_⟩:=I.tuple hq;obtain⟨cls,dd,data,sl⟩:=o;dsimp only at hc hd;subst hc hd;have hl:=r.length;refine Rc (T := "tuple") (U := "int") (by decide) ⟨_,e,rfl⟩ (λs'=>RD s' k t) la F.fills_int_mul F.slot_int_rmul qr F.slot_int_index.lookup
  (Pe F.slot_int_rmul (RD s k t) F.entry_int_rmul (F.args_int_rmul_2 _ _) (pT k t a J6.toArray n dd sl) ⟨e,rfl,⟨_,e,rfl⟩,?_⟩)
 by_cases hk1:k=1
 .subst hk1;exact Pe F.slot_tuple_mul ⟨_,e,rfl⟩ F.entry_tuple_mul (F.args_tuple_mul_2 _ _) (wg a J6.toArray n dd sl t) ⟨e,⟨.ref a,H,I,rfl,q1 rfl⟩⟩
 .have hb1:(k==1)=false:=by simpa using hk1
  have L8:J6≠[]:=λz=>Me (r.kC.mp z);have hie:J6.toArray.isEmpty=false:=by cases J6 with | nil=>exact absurd rfl L8 | cons _ _=>rfl
  have c0:¬ (decide (k < -2^63)||decide (k>=2^63))=true:=by simp;lia
  have c1:¬ (J6.toArray.isEmpty||k==1)=true:=by rw[hie,hb1];simp
  have fin:∀ ys,ys=(NV k.toNat J6).flatten.toArray->EP X J2 σ Q (.ref s.heap.objs.size) { s with heap:=s.heap.push { cls:=.type "tuple", data:=.seq ys },toks:=s.toks }:=λys ey=>by
   subst ey;refine⟨.ref s.heap.objs.size,_,I.laid (t':=s.toks) (o:=.tup (NV k.toNat xs).flatten) (λb ob q=>NF _ q) (NK _) ?_,rfl,q2 hk1 _ (I.bg.fresh (NK _))⟩;exact⟨by rw[len_rep,QZ];exact hz,_,r.rep k.toNat,SS _ _⟩
  have Lk:Q7 (λx1 x2=>x1++x2) #[] (NV k.toNat J6.toArray)=(NV k.toNat J6).flatten.toArray:=by
   have:=foldl_rep J6 k.toNat [];rw[RP] at this;exact this
  by_cases hk0:k<=0
  .have c2:(decide (k<=0)||J6.toArray.isEmpty)=true:=by rw[decide_eq_true hk0];rfl
   refine Pe F.slot_tuple_mul ⟨_,e,rfl⟩ F.entry_tuple_mul (F.args_tuple_mul_2 _ _) (wL a J6.toArray n dd sl k t c0 c1 c2) ⟨e,fin _ ?_⟩;rw[show k.toNat=0 by lia];rfl
  .have c2:¬ (decide (k<=0)||J6.toArray.isEmpty)=true:=by rw[decide_eq_false hk0,hie];simp
   have em:((J6.toArray.size:Nat):Int)*k=((xs.length*k.toNat:Nat):Int):=by
    rw[NT,<- hl,Int.natCast_mul,Int.toNat_of_nonneg (by lia)]
   have hs:(sizeLine:Int)<=(2^63-1)/8:=by decide
   refine Pe F.slot_tuple_mul ⟨_,e,rfl⟩ F.entry_tuple_mul (F.args_tuple_mul_2 _ _) (wo a J6.toArray n dd sl k t c0 c1 c2 ?_ ?_ ?_) ⟨e,fin _ Lk⟩
   .rw[em];lia
   .rw[em];unfold Q_;simp only[decide_eq_true_eq];lia
   .rw[Lk,NT,len_rep,QZ,<- hl];exact hz
end
structure bB (K:PySem.W.Frag) (x qual:Str) (st:Stmt) (dv:Value) (f:Addr) (fd:FuncData):Prop where
 ex:∃ (oc:Value) (od:Option Addr) (kV doc pm:Value) (an:Option Addr) (Kj ct:Value) (Mv:Array (Option Value)),
  fd=PySem.W.fnOf x qual (gA st) (dP st) (aQ st) dv kV doc pm an Kj ct/\K.lookup f=some ⟨oc,od,.func fd,Mv⟩/\PySem.W.codeIn K Kj qual=true
 kp:PySem.W.keepIn K (.ref f)=true
variable{base:Heap}
variable{ds:List Value}{T:Addr}{qual:Str}
section
variable{K:PySem.W.Frag}
theorem bB.binds{st:Stmt}{o:Obj}(F:bB K x qual st (.ref T) f fd)(ho:K.lookup T=some o)(hs:o.data=.seq J3 n)
  (h:∀ (kV doc pm:Value) (an:Option Addr) (Kj ct:Value) (us:List Value),(us++ds).length=ps.length->∃ k,bindArgs (PySem.W.fnOf x qual (gA st) (dP st) (aQ st) (.ref T) kV doc pm an Kj ct) ⟨us,[]⟩=seqItems? (.ref T) >>= k/\k (some J3)=pure (ps.zip (us++ds))):Binds K fd ps ds:=by
 obtain⟨oc,od,kV,doc,pm,an,Kj,ct,Mv,rfl,lk,K5⟩:=F.ex;intro s us X hl;obtain⟨k,h1,h2⟩:=h kV doc pm an Kj ct us hl;exact BindsTo.of_defaults rfl (X _ _ ho) hs h1 h2
end
variable{v:V}
theorem Cn(hg:Gl X x)(hm:∃ u,X.mg x=some u/\RelV v u)(hd:autoParam ((x==("__debug__" : Str))=false) aD._auto_1):PE X (.Name x pos) (tC v):=by
 obtain⟨u,h1,h2⟩:=hm;exact vE hg h1 h2 hd
theorem zJ:bootBuiltins "max" = some (.builtin "max"):=by decide +kernel
variable{y:Str}
theorem AH{cl:List (Str×Addr)}{Lv py:Pos}{wi:TI}{g:TG}{fs:List Str}(hN:X.N.Nodup)(Ni:X.N[i]?=some y)(hy:Loc X.env.scope y)(J8:X.calm=true)
  (Kb:closureFor scope X.env=pure cl) (hk:scope.kind=.function) (nc:dw scope.names=true) (lo:d_ scope.names=true) (fh:dY cl scope.names=true) (ag:c6 X cl) (fr:eB X scope cl fs js)
  (hi:PI X tg iter wi) (hg:∀ C s₀ H₀ ex J2,PG (kO X scope cl (ts++fs) C s₀ H₀ ex J2) tg g) (he:∀ C s₀ H₀ ex J2,PE (kO X scope cl (ts++fs) C s₀ H₀ ex J2) elt te)
  (hs:autoParam (∀ x,foldedSetIterable iter X.env x=pure x) aI._auto_1) (MO:autoParam (swapsWith (.ListComp elt [⟨tg,iter,[],0⟩] scope pos) (some (.Name y py)) Lv.line X.env=pure true) aR._auto_1)
  (hf:autoParam (X.fn y=true\/X.env.scope.names.lookup y=some .local) aF._auto_1) :
  PS X (.Assign [.Name y py] (.ListComp elt [⟨tg,iter,[],0⟩] scope pos) Lv) (Er (qc wi g te ts js) (aM i)):=by
 intro J2 s σ H D I h;rw[RT _ _ _ _ MO];refine NB (PB (NB ?_));show wpAny _ X.A (do let _ <- comprehension (.ListComp elt [⟨tg,iter,[],0⟩] scope pos) scope X.env _ (newList []) false (eval iter X.env) (some (assign (.Name y py) X.env))) _ _ s;refine NB (N8 (r8 (tt:=none) J8 Kb hk nc lo fh ag fr hi hg (λ_ _ _ _ _=>trivial) he hs I (show vy wi g none te ts js σ H (λx H1=>D.nx (σ.set i (some x)) H1) from h) (some (assign (.Name y py) X.env)) (λ_ s'=>SP X J2 D .next s') λDd H' s' C Io q hm f=>?_) (λ_ s' hq=>NH (NH hq)) λ_ _ e=>e);show wpAny _ X.A (assign (.Name y py) X.env (.ref Dd)) _ _ s';refine Ri (lD Io hN Ni hy (v:=.ref Dd) rfl (λMw I'' ⟨a,sb,ha⟩=>?_) hf);obtain⟨m,hn⟩:=hm;obtain⟨f0,f1,f2,f3,f4,f5⟩:=f;have naC:a≠C:=by
  rcases ha with z | z
  .rw[z];exact λw=>f1 w.symm
  .exact f4 y a z
 refine⟨m,hn.sameBut sb (O4 naC),λh' LK=>?_⟩;exact⟨_,H',I''.other ⟨f0,f1,f2,f3,f4,f5⟩ LK,q⟩
section
variable{E:Value->Shared->Prop}
variable{b1 b2 b3:Bool}{z TI TO i1 i2 i3 l1 l2 l3:Addr}{k3:Nat}{xs zs:Array Value}{x y v a b c:Value}
end
section
variable{E:Value->Shared->Prop}
variable{b1 b2 b3:Bool}{z TI TO i1 i2 i3 l1 l2 l3:Addr}{k3:Nat}{xs zs:Array Value}{x y v a b c:Value}
end
section
variable{E:Value->Shared->Prop}
end
variable{oe:Obj}{outer:List Env}
variable{to:Option Addr}
section
variable{M:Model}{E:Value->Shared->Prop}
theorem pK{env:Env}{L e:Addr}{vs:Array Value}{head:Value}{MA:Bool}{Q:Unit->Shared->Prop}
  (LZ:A.frames=some (env::outer)) (hl:s.heap.FunFrames base (env::outer)) (hf:env.frame=some L)
  (he:s.heap.get? e=some oe) (hd:oe.data=.fields vs) (Lh:1<vs.size)
  (h:∀ h' T oT ts,h'.get? e=some (Pa (·.setIfInBounds 1 (.ref T)) oe)->s.heap.objs.size<=T->T≠e->h'.get? T=some oT->oT.data=.fields ts->ts[3]?=some (rawInt L) ->
   (∀ b o,b≠e->b ∉ qW (env::outer)->s.heap.get? b=some o->h'.get? b=some o)->(∀ b o,b≠e->s.heap.get? b=some o->∃ sl,h'.get? b=some { o with slots:=sl })->Q () { s with heap:=h' }) :
  wpAny M A (do let a <- frameOf env;let pl <- entryPlaceOf L MA;let b <- Se head a .none (rawInt L) .none pl;setField (.ref e) 1 b) Q E s:=by
 have hene:e ∉ (env::outer).filterMap (·.frame):=λhm=>by
  obtain⟨_,o,ho,Nn⟩:=hl.mem hm;rw[he] at ho;injection ho with ho;subst ho;exact Nn vs hd
 refine NB (wpAny_frameOf_fun LZ hl hf λh₁ hs1=>?_);refine NB (wpAny_entryPlaceOf λpl Kp=>?_);unfold Se newFields;refine NB (OR ?_ (Kp.sizeOk5 _ _ _ _ _));have he1:h₁.get? e=some oe:=(hs1.2.1 e hene).trans he;have he₂:=NF (h:=h₁) { cls:=.type "traceback", dict:=none,data:=.fields ([head,.ref L,.none,rawInt L,.none]++(if pl.isEmpty then NV 6 Oe else pl)).toArray } he1;have hTe:h₁.objs.size≠e:=Py (NN he1);have hd3:=Ph hd (·.setIfInBounds 1 (NQ h₁.objs.size));have he3:=O0 (Pa (·.setIfInBounds 1 (NQ h₁.objs.size))) he₂ (PZ hd3);have hT₃:=(OD (h₁.push { cls:=.type "traceback", dict:=none,data:=.fields ([head,.ref L,.none,rawInt L,.none]++(if pl.isEmpty then NV 6 Oe else pl)).toArray })
  (Pa (·.setIfInBounds 1 (NQ h₁.objs.size))) (O4 hTe)).trans (NO h₁ rfl)
 have keep:∀ b o,b≠e->h₁.get? b=some o ->
   ((h₁.push { cls:=.type "traceback", dict:=none,data:=.fields ([head,.ref L,.none,rawInt L,.none]++(if pl.isEmpty then NV 6 Oe else pl)).toArray }).update e (Pa (·.setIfInBounds 1 (NQ h₁.objs.size)))).get? b=some o:=λb o L7 hb=>by
  rw[OD _ _ (O4 L7)];exact NF _ hb
 refine Qz he₂ hd Lh (h _ h₁.objs.size _ _ he3 ?_ hTe hT₃ rfl (by first | (simp;done) | (rcases Kp with rfl | ⟨_,_,_,_,_,_,_,rfl⟩ <;> simp)) ?_ ?_)
 .exact Sx hs1.1.symm
 .intro b o L7 hbf hb;exact keep b o L7 ((hs1.2.1 b hbf).trans hb)
 .intro b o L7 hb;obtain⟨sl,hs⟩:=hs1.2.2 b o hb;exact⟨sl,keep b _ L7 hs⟩
def Lies(h:Heap)(e:Addr)(vs:Array Value)(to:Option Addr):Prop:=match to with
 | none=>vs[1]?=some .none
 | some T=>vs[1]?=some (.ref T)/\T≠e/\∃ oT ts,h.get? T=some oT/\oT.data=.fields ts/\ts[3]?=some .none
theorem pB{env:Env}{L e:Addr}{vs:Array Value}{Q:Unit->Shared->Prop}
  (LZ:A.frames=some (env::outer)) (hl:s.heap.FunFrames base (env::outer)) (hf:env.frame=some L)
  (he:s.heap.get? e=some oe) (hd:oe.data=.fields vs) (hto:Lies s.heap e vs to)
  (h:∀ h' T oT ts,h'.get? e=some (Pa (·.setIfInBounds 1 (.ref T)) oe)->s.heap.objs.size<=T->T≠e->h'.get? T=some oT->oT.data=.fields ts->ts[3]?=some (rawInt L) ->
   (∀ b o,b≠e->(∀ T,to=some T->b≠T)->b ∉ qW (env::outer)->s.heap.get? b=some o->h'.get? b=some o) ->
   (∀ b o,b≠e->(∀ T,to=some T->b≠T)->s.heap.get? b=some o->∃ sl,h'.get? b=some { o with slots:=sl })->(∀ b o,s.heap.get? b=some o->∃ o',h'.get? b=some o')->Q () { s with heap:=h' }) :
  wpAny M A (noteFrame (.ref e) env) Q E s:=by
 unfold noteFrame;simp only[hf];cases to with
 | none =>
  have h1:vs[1]?=some .none:=hto;refine NB (N_ he hd h1 ?_);rw[if_neg (by decide)];refine pK LZ hl hf he hd (Oj.mp h1).1 λh' T oT ts a1 a2 a3 a4 a5 a6 a7 a8=>?_;refine h h' T oT ts a1 a2 a3 a4 a5 a6 (λb o n1 _ n2 q=>a7 b o n1 n2 q) (λb o n1 _ q=>a8 b o n1 q) λb o q=>?_
  by_cases z:b=e
  .subst z;exact⟨_,a1⟩
  .obtain⟨sl,r⟩:=a8 b o z q;exact⟨_,r⟩
 | some T0 =>
  obtain⟨h1,hTe,oT,ts,hT,hdT,h3⟩:=hto;refine NB (N_ he hd h1 ?_);rw[if_pos (show (NQ T0 != Oe)=true from by simp)];refine NB (N_ hT hdT h3 ?_);rw[if_neg (show ¬ ((Oe==rawInt L)=true) from by simp[rawInt])];refine NB (Qz hT hdT (Oj.mp h3).1 ?_);have other:∀ b,b≠T0->(s.heap.update T0 (Pa (·.setIfInBounds 3 Oe))).get? b=s.heap.get? b:=λb hb=>OD _ _ (O4 hb);have Mu:∀ b o,s.heap.get? b=some o->(∀ vs,o.data≠.fields vs)->b≠T0:=λb o hb Nn q=>by
   rw[q,hT] at hb;injection hb with hb;subst hb;exact Nn ts hdT
  have Mz:=O0 (Pa (·.setIfInBounds 3 Oe)) hT (PZ (Ph hdT _));refine pK LZ (hl.of_keeps λb o hb Nn=>⟨o,(other b (Mu b o hb Nn)).trans hb,rfl⟩) hf ((other e (O4 hTe)).trans he) hd (Oj.mp h1).1 λh' T oT' ts' a1 a2 a3 a4 a5 a6 a7 a8=>?_;refine h h' T oT' ts' a1 (by simpa [Heap.update] using a2) a3 a4 a5 a6 (λb o n1 n2 n3 q=>a7 b o n1 n3 ((other b (n2 T0 rfl)).trans q)) (λb o n1 n2 q=>a8 b o n1 ((other b (n2 T0 rfl)).trans q)) λb o q=>?_
  by_cases z:b=e
  .subst z;exact⟨_,a1⟩
  .by_cases z2:b=T0
   .subst z2;obtain⟨sl,r⟩:=a8 b _ z Mz;exact⟨_,r⟩
   .obtain⟨sl,r⟩:=a8 b o z ((other b z2).trans q);exact⟨_,r⟩
end
def iE(C:Addr)(dd:Option Addr)(e:Addr):HO:=.ext λh=>∃ t,h.get? e=some ⟨.ref C,dd,.fields #[.ref t,.none,.none,.none,.bool false,.none],#[]⟩
def Gm(C:Addr)(dd:Option Addr)(e T:Addr):HO:=.ext λh=>∃ vs,h.get? e=some ⟨.ref C,dd,.fields vs,#[]⟩/\vs[1]?=some (.ref T)
def Jz(fl:Value)(T:Addr):HO:=.ext λh=>∃ oT ts,h.get? T=some oT/\oT.data=.fields ts/\ts[3]?=some fl
def iw(Hc:Hp)(e T C:Addr)(dd:Option Addr)(fl:Value):Hp:=upd (upd Hc T (Jz fl T)) e (Gm C dd e T)
variable{fl:Value}{Hc:Hp}
theorem kn{e:Addr}:iw Hc e T C dd fl e=some (Gm C dd e T):=av
theorem j6{e:Addr}(n:T≠e):iw Hc e T C dd fl T=some (Jz fl T):=by unfold iw;rw[ar n,av]
theorem eP{e b:Addr}(n:b≠e)(n2:b≠T):iw Hc e T C dd fl b=Hc b:=by unfold iw;rw[ar n,ar n2]
theorem Inv.note{e:Addr}{vs:Array Value}{φ:Heap->Prop}{Q:Unit->Shared->Prop}{E:Value->Shared->Prop}(I:Inv X J2 σ H s)(Ke:X.stack=X.env::X.outer)(hf:X.env.frame=some X.env.locals)
  (he:H e=some (.ext φ)) (hx:s.heap.get? e=some ⟨.ref C,dd,.fields vs,#[]⟩) (lies:Lies s.heap e vs to) (hT:∀ T,to=some T->(∃ ψ,H T=some (.ext ψ))/\Hc T=none) (hc:∀ b,b≠e->(∀ T,to=some T->b≠T)->Hc b=H b)
  (h:∀ h' T,Hc T=none->T≠e->Inv X J2 σ (iw Hc e T C dd (rawInt X.env.locals)) { s with heap:=h' }->Q () { s with heap:=h' }) :
  wpAny (model X.prog X.w) X.A (noteFrame (.ref e) X.env) Q E s:=by
 have hl:=I.stack;have LZ:=I.ok.frames;have sf:=I.j3;rw[Ke] at hl LZ sf;refine pB (base:=X.base) LZ hl hf hx rfl lies λh' T oT ts a1 a2 a3 a4 a5 a6 a7 a8 a9=>?_;have M_:H T=none:=I.bg.fresh a2;have nT:∀ b u,H b=some u->b≠T:=λb u q z=>by rw[z,M_] at q;cases q
 have La:∀ b u,H b=some u->(∀ ψ,u≠.ext ψ)->b≠e/\∀ T0,to=some T0->b≠T0:=by
  intro b u q hu;refine⟨λz=>?_,λT0 z w=>?_⟩
  .rw[z,he] at q;exact hu _ (NX q).symm
  .obtain⟨⟨ψ,q2⟩,_⟩:=hT T0 z;rw[w,q2] at q;exact hu _ (NX q).symm
 have old:∀ b u,H b=some u->(∀ ψ,u≠.ext ψ)->iw Hc e T C dd (rawInt X.env.locals) b=some u:=λb u q hu=>by
  obtain⟨n1,n2⟩:=La b u q hu;rw[eP n1 (nT b u q),hc b n1 n2];exact q
 have MB:Hc T=none:=by
  by_cases z:∃ T0,to=some T0/\T=T0
  .obtain⟨T0,z1,z2⟩:=z;rw[z2];exact(hT T0 z1).2
  .rw[hc T a3 λT0 z1 z2=>z ⟨T0,z1,z2⟩];exact M_
 have un:∀ b o,s.heap.get? b=some o->H b=none->b≠e/\(∀ T0,to=some T0->b≠T0)/\b≠T:=by
  intro b o q n;refine⟨λz=>?_,λT0 z w=>?_,NR (NP (NN q) a2)⟩
  .rw[z,he] at n;cases n
  .obtain⟨⟨ψ,q2⟩,_⟩:=hT T0 z;rw[w,q2] at n;cases n
 refine h h' T MB a3 ?_;have U:Un (qW X.stack) [] H (iw Hc e T C dd (rawInt X.env.locals)) s.heap h':=by
  rw[Ke];refine⟨λb o q n nf _=>?_,λb o q n _ _=>?_,λb o q n _=>?_,λb o q _=>a9 b o q,λb xs q=>old b _ q (λ_ z=>nomatch z),λb ob u q=>old b _ q (λ_ z=>nomatch z),λb ps q=>⟨#[],?_⟩⟩
  .obtain⟨n1,n2,_⟩:=un b o q n;exact a7 b o n1 n2 nf q
  .obtain⟨n1,n2,_⟩:=un b o q n;exact a8 b o n1 n2 q
  .obtain⟨n1,n2,n3⟩:=un b o q n;rw[eP n1 n3,hc b n1 n2];exact n
  .rw[old b _ q (λ_ z=>nomatch z)];simp
 have ok:kI X.prog X.w (iw Hc e T C dd (rawInt X.env.locals)) h':=λb u q=>by
  by_cases z:b=e
  .subst z;rw[kn] at q;cases q;refine⟨⟨_,a1,?_⟩,⟨_,a1⟩,λh1 h2 ⟨ws,q1,q2⟩ k=>⟨ws,k _ q1,q2⟩⟩;have Lh:1<vs.size:=by
    cases to with
    | none=>exact(Oj.mp (show vs[1]?=some .none from lies)).1
    | some T0=>exact(Oj.mp lies.1).1
   simp[Lh]
  .by_cases z2:b=T
   .subst z2;rw[j6 a3] at q;cases q;exact⟨⟨oT,ts,a4,a5,a6⟩,⟨_,a4⟩,λh1 h2 ⟨o1,t1,q1,q2,q3⟩ k=>⟨o1,t1,k _ q1,q2,q3⟩⟩
   .rw[eP z z2] at q;have z3:∀ T0,to=some T0->b≠T0:=λT0 w w2=>by rw[w2,(hT T0 w).2] at q;cases q
    rw[hc b z z3] at q;have nf:∀ c u',H c=some u'->c ∉ qW (X.env::X.outer):=λc u' q' hm=>by have:=sf c hm;rw[q'] at this;cases this
    refine(I.bg b u q).jU (λc v LY q'=>?_) (λc q'=>old c _ q' (λ_ z=>nomatch z)) λc xs q'=>old c _ q' (λ_ z=>nomatch z);rcases LY with rfl | LY
    .exact a7 c v z z3 (nf c u q) q'
    .obtain⟨n1,n2⟩:=La c _ LY (λ_ z=>nomatch z);exact a7 c v n1 n2 (nf c _ LY) q'
 exact I.call (ch:=[]) U ok I.bare (λb z=>absurd z (by simp))
theorem Inv.qS{e:Addr}(I:Inv X J2 σ (iw Hc e T C dd fl) s)(n:T≠e):∃ vs oT ts,s.heap.get? e=some ⟨.ref C,dd,.fields vs,#[]⟩/\vs[1]?=some (.ref T)/\s.heap.get? T=some oT/\oT.data=.fields ts/\ts[3]?=some fl:=by
 obtain⟨vs,h1,h2⟩:=(I.bg e _ kn).1;obtain⟨oT,ts,q⟩:=(I.bg T _ (j6 n)).1;exact⟨vs,oT,ts,h1,h2,q⟩
theorem Inv.F4{e:Addr}{Q:Unit->Shared->Prop}{E:Value->Shared->Prop}(I:Inv X J2 σ (iw Hc e T C dd fl) s)(Ng:fl=.none\/fl=rawInt X.env.locals)(n:T≠e)(MB:Hc T=none)(Ke:X.stack=X.env::X.outer)(hf:X.env.frame=some X.env.locals)
  (h:∀ h' T,Hc T=none->T≠e->Inv X J2 σ (iw Hc e T C dd (rawInt X.env.locals)) { s with heap:=h' }->Q () { s with heap:=h' }) :
  wpAny (model X.prog X.w) X.A (noteFrame (.ref e) X.env) Q E s:=by
 obtain⟨vs,oT,ts,hx,h1,hT,hd,h3⟩:=I.qS n;rcases Ng with rfl | rfl
 .refine I.note (Hc:=Hc) (to:=some T) Ke hf kn hx ⟨h1,n,oT,ts,hT,hd,h3⟩ (λT0 z=>?_) (λb n1 n2=>(eP n1 (n2 T rfl)).symm) h;cases z;exact⟨⟨_,j6 n⟩,MB⟩
 .unfold noteFrame;simp only[hf];refine NB (N_ hx rfl h1 ?_);rw[if_pos (show (NQ T != Oe)=true from by simp)];refine NB (N_ hT hd h3 ?_);rw[if_pos (show (rawInt X.env.locals==rawInt X.env.locals)=true from by simp)];exact NH (h s.heap T MB n I)
theorem Inv.F6{e:Addr}{Q:Unit->Shared->Prop}{E:Value->Shared->Prop}(I:Inv X J2 σ H s)(he:H e=some (iE C dd e))(Ke:X.stack=X.env::X.outer)(hf:X.env.frame=some X.env.locals)
  (h:∀ h' T,upd H e (dU C dd e) T=none->T≠e->Inv X J2 σ (iw (upd H e (dU C dd e)) e T C dd (rawInt X.env.locals)) { s with heap:=h' }->Q () { s with heap:=h' }) :
  wpAny (model X.prog X.w) X.A (noteFrame (.ref e) X.env) Q E s:=by
 obtain⟨t,hx⟩:=(I.bg e _ he).1;exact I.note (Hc:=upd H e (dU C dd e)) (to:=none) Ke hf he hx rfl (λ_ z=>by cases z) (λb n1 _=>ar n1) h
theorem Inv.jT{e:Addr}{fr:Option Addr}{Q:Unit->Shared->Prop}{E:Value->Shared->Prop}(I:Inv X J2 σ (iw Hc e T C dd fl) s)(n:T≠e)
  (h:∀ h',Inv X J2 σ (iw Hc e T C dd (fr.elim .none λf=>rawInt f)) { s with heap:=h' }->Q () { s with heap:=h' }) :
  wpAny (model X.prog X.w) X.A (setFlight (.ref e) fr) Q E s:=by
 obtain⟨vs,oT,ts,hx,h1,hT,hd,h3⟩:=I.qS n;unfold setFlight;refine NB (N_ hx rfl h1 ?_);rw[if_pos (show (NQ T != Oe)=true from by simp)];have Lh:3<ts.size:=(Oj.mp h3).1;refine Qz hT hd Lh (h _ ?_);have other:∀ b,b≠T->(s.heap.update T (Pa (·.setIfInBounds 3 (fr.elim Oe λf=>rawInt f)))).get? b=s.heap.get? b:=λb hb=>OD _ _ (O4 hb);have Mz:=O0 (Pa (·.setIfInBounds 3 (fr.elim Oe λf=>rawInt f))) hT (PZ (Ph hd _));have nT:∀ b,iw Hc e T C dd fl b=none->b≠T:=λb q z=>by rw[z,j6 n] at q;cases q
 have same:∀ b,b≠T->iw Hc e T C dd (fr.elim .none λf=>rawInt f) b=iw Hc e T C dd fl b:=λb z=>by
  by_cases w:b=e
  .subst w;rw[kn,kn]
  .rw[eP w z,eP w z]
 have ne:∀ b u,iw Hc e T C dd fl b=some u->(∀ ψ,u≠.ext ψ)->b≠T:=λb u q hu z=>by rw[z,j6 n] at q;exact hu _ (NX q).symm
 refine I.un (t':=s.toks) ⟨λb o q z _ _=>(other b (nT b z)).trans q,λb o q z _ _=>⟨o.slots,(other b (nT b z)).trans q⟩,λb o q z _=>by rw[same b (nT b z)];exact z,λb o q _=>?_,λb xs q=>?_,λb ob u q=>?_,λb ps q=>⟨#[],?_⟩⟩ λb u q=>?_
 .by_cases z:b=T
  .subst z;exact⟨_,Mz⟩
  .exact⟨o,(other b z).trans q⟩
 .rw[same b (ne b _ q λ_ z=>nomatch z)];exact q
 .rw[same b (ne b _ q λ_ z=>nomatch z)];exact q
 .rw[same b (ne b _ q λ_ z=>nomatch z),q];simp
 .by_cases z:b=T
  .subst z;rw[j6 n] at q;cases q;refine⟨⟨_,_,Mz,Ph hd _,?_⟩,⟨_,Mz⟩,λh1 h2 ⟨o1,t1,q1,q2,q3⟩ k=>⟨o1,t1,k _ q1,q2,q3⟩⟩;simp[Lh]
  .rw[same b z] at q;refine(I.bg b u q).jU (λc v hc q'=>(other c ?_).trans q') (λc q'=>?_) λc xs q'=>?_
   .rcases hc with rfl | hc
    .exact z
    .exact ne c _ hc λ_ z=>nomatch z
   .rw[same c (ne c _ q' λ_ z=>nomatch z)];exact q'
   .rw[same c (ne c _ q' λ_ z=>nomatch z)];exact q'
def cu(P:Program)(w:World):Fv:=λouter H s E e s'=>∃ (ea T C:Addr) (dd:Option Addr) (Hc:Hp),e=.ref ea/\s'.os=s.os/\AllBare s'.gens/\Un (qW outer) [] H (iw Hc ea T C dd .none) s.heap s'.heap/\kI P w (iw Hc ea T C dd .none) s'.heap ∧
 Hc ea=some (dU C dd ea)/\Hc T=none/\T≠ea/\E (.ref ea) none Hc
def Zx (X : Cx) (E : St -> XK) (e : Value) (s : Shared) : Prop := ∃ (ea C : Addr) (dd : Option Addr) (J2 : List (Addr × Obj)) (σ : St), e = .ref ea ∧
  ((∃ H, Inv X J2 σ H s /\ H ea = some (iE C dd ea) /\ E σ (.ref ea) none (upd H ea (dU C dd ea))) ∨
   (∃ Hc T fl, Inv X J2 σ (iw Hc ea T C dd fl) s /\ (fl = .none \/ fl = rawInt X.env.locals) /\ Hc ea = some (dU C dd ea) /\ Hc T = none /\ T ≠ ea /\ E σ (.ref ea) none Hc))
variable{E:St->XK}
theorem Zx.note{e:Value}{Q:Unit->Shared->Prop}{F:Value->Shared->Prop}(z:Zx X E e s)(Ke:X.stack=X.env::X.outer)(hf:X.env.frame=some X.env.locals)
  (h:∀ s' ea C dd J2 σ Hc T,e=.ref ea->Inv X J2 σ (iw Hc ea T C dd (rawInt X.env.locals)) s'->Hc ea=some (dU C dd ea)->Hc T=none->T≠ea->E σ (.ref ea) none Hc->Q () s') :
  wpAny (model X.prog X.w) X.A (noteFrame e X.env) Q F s:=by
 obtain⟨ea,C,dd,J2,σ,rfl,⟨H,I,h1,h2⟩ | ⟨Hc,T,fl,I,h1,h2,h3,h4,h5⟩⟩:=z
 .exact I.F6 h1 Ke hf λh' T q1 q2 I2=>h _ ea C dd J2 σ _ T rfl I2 av q1 q2 h2
 .exact I.F4 h1 h4 h3 Ke hf λh' T q1 q2 I2=>h _ ea C dd J2 σ _ T rfl I2 h2 q1 q2 h5
theorem Zx.D3{E:XK}{e:Value}{F:Value->Shared->Prop}(z:Zx X (λ_=>E) e s)(Ke:X.stack=X.env::X.outer)(hf:X.env.frame=some X.env.locals)(hex:X.ex=[]) :
  wpAny (model X.prog X.w) X.A (leaving X.env e) (λ_ s'=>cu X.prog X.w X.outer X.H₀ X.s₀ E e s') F s:=by
 unfold leaving;refine NB (z.note Ke hf λs' ea C dd J2 σ Hc T he I h1 h2 h3 h4=>?_);subst he;refine I.jT h3 λh' I2=>⟨ea,T,C,dd,Hc,rfl,I2.os,I2.bare,?_,I2.bg,h1,h2,h3,h4⟩
 have:=I2.base;rw[hex] at this;exact this
theorem Zx.own(Ke:X.stack=X.env::X.outer)(hf:X.env.frame=some X.env.locals):PassesOwn (model X.prog X.w) X.A X.env (Zx X E):=by
 intro e s z;refine z.note Ke hf λs' ea C dd J2 σ Hc T he I h1 h2 h3 h4=>?_;subst he;obtain⟨vs,oT,ts,hx,q1,_⟩:=I.qS h3;show wpAny _ _ _ _ _ _;refine NB (N_ hx rfl q1 ?_);rw[if_neg (show ¬ ((NQ T==Oe)=true) from by simp)];rw[hf];refine I.jT h3 λh' I2=>⟨ea,C,dd,J2,σ,rfl,.inr ⟨Hc,T,_,I2,.inr rfl,h1,h2,h3,h4⟩⟩
structure eA (X:Cx) (E:St->XK):Prop where
 pass:∀ (J2:List (Addr×Obj)) (σ:St) (H:Hp) (s:Shared) (e:Value) (s':Shared),Inv X J2 σ H s->cu X.prog X.w X.stack H s (E σ) e s'->X.xe e s'
 new:∀ (J2:List (Addr×Obj)) (σ:St) (H:Hp) (s:Shared) (e C:Addr) (dd:Option Addr),Inv X J2 σ H s->H e=some (iE C dd e)->E σ (.ref e) none (upd H e (dU C dd e))->X.xe (.ref e) s
 own:PassesOwn (model X.prog X.w) X.A X.env X.xe
abbrev Cx.out(X:Cx)(E:St->XK):Cx:=X.kK (Zx X E)
theorem yJ(Ke:X.stack=X.env::X.outer)(hf:X.env.frame=some X.env.locals):eA (X.out E) E where
 pass:=by
  intro J2 σ H s e s' I h;obtain⟨ea,T,C,dd,Hc,rfl,os,bare,un,bg,h1,h2,h3,hE⟩:=h;have I':=I.cL.o8 (ch:=[]) os un bg bare (λb z=>absurd z (by simp));exact⟨ea,C,dd,J2,σ,rfl,.inr ⟨Hc,T,.none,I',.inl rfl,h1,h2,h3,hE⟩⟩
 new:=λJ2 σ H s e C dd I he hE=>⟨e,C,dd,J2,σ,rfl,.inl ⟨H,I.cL,he,hE⟩⟩
 own:=Zx.own Ke hf
variable{N:List Str}{Mv:Array (Option Value)}{an od:Option Addr}{body:List Stmt}{params:Arguments}
theorem uF{K:PySem.W.Frag}{dV kV doc pm Kj ct oc:Value}{sp:Sp}(lk:K.lookup f=some ⟨oc,od,.func (PySem.W.fnOf name qual params body scope dV kV doc pm an Kj ct),Mv⟩)(K5:PySem.W.codeIn K Kj qual=true)(S:cB N ps scope)
  (len:∀ vs H Q E,sp vs H Q E->vs.length=ps.length)
  (Mi:∀ (A:Around) (outer:List Env) (s:Shared) (H:Hp) (vs:List V) (Q:VK) (E:XK),bU k (A.deeper (envOfC qual scope s.heap.objs.size f Kj))->sp vs H Q E ->
   ∃ t,jy ((ko (cu P w) P w K mg base N qual scope f Kj A outer s H E).out λ_=>E) body t/\t { nx:=λ_ H'=>Q .bH H',rt:=Q } (start N vs) H) :
  aP P w K mg base (cu P w) (k+1) f (PySem.W.fnOf name qual params body scope dV kV doc pm an Kj ct) ps sp:=by
 refine FT lk K5 S len λA outer s H vs Q E hr hs=>?_;obtain⟨t,h1,h2⟩:=Mi A outer s H vs Q E hr hs;refine⟨t,λJ2 s1 σ H1 D I q=>?_,h2⟩;refine N8 (h1 J2 s1 σ H1 D (I.kK _) q) (λf s' z=>z.cL) λe s' z=>?_;exact z.D3 rfl rfl rfl
variable{pos':Pos}
section
open PySem.Builtin.ObjectAttr (storeInOwnDict storeTaker? setByDescriptor)
theorem qg{e t:Addr}(he:h.get? e=some ⟨.ref C,dd,.fields #[.ref t,.none,.none,.none,.bool false,.none],#[]⟩):bF P w H h e (iE C dd e) :=
 ⟨⟨t,he⟩,⟨_,he⟩,λ_ _ ⟨t,q⟩ k=>⟨t,k _ q⟩⟩
section
variable{sp:Sp}{p:Pos}
def GA(C:Addr)(t:TA):TE:=fun σ H Q=>t σ H λvs H1=>vs.length<=sizeLine/\∀ a,H1 a=none->Q (.ref a) (upd H1 a (iE C none a))
theorem Az(hc:PySem.W.excIn X.K C eO "ValueError.__new__" = true)(kp:PySem.W.keepIn X.K (.ref C)=true)(hg:Gl X x)(hm:X.mg x=some (.ref C))
  (ha:PA X (e::es) t) (KP:autoParam ((x==("__debug__" : Str))=false) aD._auto_1) (he:autoParam (starEach (e::es) X.env=(false,eval e X.env)::starEach es X.env) aR._auto_1) (Kp:autoParam ((backTo pos (starEach es X.env)).any (·.1)=false) aR._auto_1) :
  PE X (.Call (.Name x p) (e::es) [] pos) (GA C t):=by
 intro J2 s σ H Q I h;refine Pd (hW I hg hm ?_ KP);refine PySem.W.callWith_K (h₀:=X.base) I.ok.mod.DH kp (b_ (ha pos J2 s σ H _ I h) λus s1 ⟨vs,H1,I1,r,hl,q⟩=>⟨I1.iH,?_⟩) he Kp;obtain⟨bm,N,nm,qn,bs,LR,sn,sub,ab,col,dd,k0,k1,k2,k3,k5,mN,hC,hN,L8,T⟩:=AS I1.iH hc;obtain⟨hp,g,d,tk,os⟩:=s1;refine wpAny_call_exc_subT PySem.F.excBase_ValueError T hC hN L8 (λh' a M=>?_) (by show us.length<=sizeLine;rw[<- r.length];exact hl);obtain⟨t',e1,_,_⟩:=M.there;have I2:Inv X J2 σ (upd H1 a (iE C none a)) ⟨h',g,d,tk,os⟩:=I1.CH (t':=tk) M.keeps M.new (qg e1);have hn:H1 a=none:=I1.qm M.new;exact⟨.ref a,_,I2,rfl,q a hn⟩
def EI(C:Addr)(sp:Sp)(t:TA):TE:=fun σ H Q=>t σ H λvs H1=>vs.length<=sizeLine/\∀ a,H1 a=none->sp (.ref a::vs) (upd H1 a (iE C none a)) (λv H2=>v=.bH/\Q (.ref a) H2) E0
theorem yF(hc:mP X.K C "ValueError.__new__" f=true)(hf:PySem.W.isFn X.K (.ref f)=true)(kp:PySem.W.keepIn X.K (.ref C)=true)(F:aP X.prog X.w X.K X.mg X.base (cu X.prog X.w) k f fd ps sp)(hr:bU (k+1) X.A)(hb:Binds X.K fd ps [])(hg:Gl X x)(hm:X.mg x=some (.ref C))
  (ha:PA X (e::es) t) (KP:autoParam ((x==("__debug__" : Str))=false) aD._auto_1) (he:autoParam (starEach (e::es) X.env=(false,eval e X.env)::starEach es X.env) aR._auto_1) (Kp:autoParam ((backTo pos (starEach es X.env)).any (·.1)=false) aR._auto_1) :
  PE X (.Call (.Name x p) (e::es) [] pos) (EI C sp t):=by
 intro J2 s σ H Q I h;refine Pd (hW I hg hm ?_ KP);refine PySem.W.callWith_K (h₀:=X.base) I.ok.mod.DH kp (b_ (ha pos J2 s σ H _ I h) λus s1 ⟨vs,H1,I1,r,hl,q⟩=>⟨I1.iH,?_⟩) he Kp;have X1:=I1.iH;obtain⟨bm,N,nm,qn,bs,LR,sn,sub,ab,col,dd,k0,k1,k2,k3,k5,mN,hC,hN,L8,T⟩:=zN X1 hc;obtain⟨hp,g,d,tk,os⟩:=s1;have f1:=tc_lookup;have f2:=tc_bind (.ref C);have hT:(⟨hp,g,d,tk,os⟩:Shared).TypeIs (.ref C) "type" := ⟨_,hC,rfl⟩
 refine Q9 (codeAny_of_tree ?_);show wpAny _ _ (callAny (.ref C) _) _ _ _
 repeat (any_goals (first | assumption | with_reducible refine Rk hC ?_ | wp_step))
 refine⟨rfl,?_⟩;refine codeAny_call_builtin_at (Sq _ (by decide +kernel)) entry_typeCall (wpAny_check_type_call_sub hC (mU PySem.F.excBase_ValueError T hC hN L8
  (λh' kk self=>PySem.W.bind_fn (λb o z=>kk b o (X1 b o z)) self (beq_iff_eq.mp hf)) (λh' kk ht hx hz=>?_) (by show us.length<=sizeLine;rw[<- r.length];exact hl)))
 have I2:Inv X J2 σ (upd H1 (hp.objs.size+1) (iE C none (hp.objs.size+1))) ⟨h',g,d,tk,os⟩:=I1.CH (t':=tk) kk (P0 (P4 _)) (qg hx);have hq:=q (hp.objs.size+1) (I1.qm (P0 (P4 _)));have r2:Vals (V.ref (hp.objs.size+1)::vs) (NQ (hp.objs.size+1)::us):=.cons rfl r;have hlen:(NQ (hp.objs.size+1)::us++[]).length=ps.length:=by
  rw[Oh,<- r2.length];exact F.len _ _ _ _ hq
 refine Q9 (Qx (F.run _ X.stack _ _ ⟨NQ (hp.objs.size+1)::us,[]⟩ (NQ (hp.objs.size+1)::us) _ _ E0 (hr.make C us []) (I2.bQ.make C us []) (by have:=hb _ (NQ (hp.objs.size+1)::us) I2.iH hlen;rwa [Oh] at this) r2 hq) λr s' Mp=>?_);cases r with
 | error e =>
  obtain⟨_,_,_,_,_,_,_,_,_,_,_,_,_,z⟩:=Mp;exact z.elim
 | ok fl =>
  cases fl with
  | ret u =>
   obtain⟨v,H',I3,rv,ev,q3⟩:=I2.after Mp;subst ev;exact⟨rv,⟨V.ref (hp.objs.size+1),H',I3,rfl,q3⟩⟩
  | next=>exact OX Mp
  | brk=>exact OX Mp
  | cont=>exact OX Mp
def Ek(K:PySem.W.Frag)(ta tv:TE)(f:Str):TS:=λD σ H=>tv σ H λy H1=>ta σ H1 λx H2=>∃ a C,x=.ref a/\H2 a=some (iE C none a)/\ez K C/\((PySem.W.clsIn K C).any λcd=>fV cd.mro)=true/\bP K C f ∧
 ∀ d,H2 d=none->d≠a->D.nx σ (upd (upd H2 d (.xd [(f,y)])) a (iE C (some d) a))
theorem yr{value:Expr}{tv:TE}{n:Str}(ha:PE X o ta)(hv:PE X value tv)(hs:swapsWith value (some (.Attribute o n pos')) pos.line X.env=pure false):PS X (.Assign [.Attribute o n pos'] value pos) (Ek X.K ta tv n):=by
 intro J2 s σ H D I h;refine QD (b_ (hv J2 s σ H _ I h) λu s1 ⟨y,H1,I1,ry,q⟩=>b_ (ha J2 s1 σ H1 _ I1 q) λov s2 ⟨x,H2,I2,rx,a,C,ex,ea,c,po,na,q2⟩=>?_) hs;subst ex;obtain rfl:ov=NQ a:=rx;obtain⟨tt,hx⟩:=(I2.bg a _ ea).1;refine yY po c I2.iH hx na.Cr λh' tk d e1 e2 e3 e4=>?_;have hd:H2 d=none:=I2.qm e2;have nda:d≠a:=λz=>by rw[z,ea] at hd;cases hd
 refine⟨σ,_,?_,q2 d hd nda⟩;have up:∀ b,b≠a->b≠d->upd (upd H2 d (.xd [(n,y)])) a (iE C (some d) a) b=H2 b:=λb h1 h2=>by rw[ar h1,ar h2]
 have nd:∀ b u,s2.heap.get? b=some u->b≠d:=λb u e z=>by rw[z,e2] at e;cases e
 have nH:∀ b u,H2 b=some u->b≠d:=λb u e z=>by rw[z,hd] at e;cases e
 have nE:∀ b u,H2 b=some u->(∀ C dd,u≠iE C dd a)->b≠a:=λb u e hu z=>by
  rw[z,ea] at e;exact hu C none (NX e).symm
 refine I2.un (t':=tk) ⟨λb u e z _ _=>e4 b u (λw=>by rw[w,ea] at z;cases z) e,λb u e z _ _=>⟨u.slots,e4 b u (λw=>by rw[w,ea] at z;cases z) e⟩,λb u e z _=>?_,λb u e _=>?_,λb xs e=>?_,λb ob u e=>?_,λb ps e=>?_⟩ λb u e=>?_
 .rw[up b (λw=>by rw[w,ea] at z;cases z) (nd b u e)];exact z
 .by_cases w:b=a
  .rw[w];exact⟨_,e1⟩
  .exact⟨u,e4 b u w e⟩
 .rw[up b (nE b _ e λ_ _ z=>by cases z) (nH b _ e)];exact e
 .rw[up b (nE b _ e λ_ _ z=>by cases z) (nH b _ e)];exact e
 .exact⟨#[],by rw[up b (nE b _ e λ_ _ z=>by cases z) (nH b _ e),e];simp⟩
 .by_cases w:b=a
  .subst w;rw[av] at e;cases e;exact qg e1
  .rw[ar w] at e
   by_cases w2:b=d
   .subst w2;rw[av] at e;cases e;refine⟨_,e3,λg=>?_⟩;show kF (P1 g [(n,y)]) (if g=n then some _ else none);rw[Oq]
    by_cases z:g=n
    .rw[if_pos z,show (g==n)=true from by simp[z]];exact ry
    .rw[if_neg z,show (g==n)=false from by simp[z]];exact O6
   .rw[ar w2] at e;refine(I2.bg b u e).jU (λc v hc z=>e4 c v ?_ z) (λc z=>?_) λc ys z=>?_
    .rcases hc with z' | z'
     .rw[z'];exact w
     .exact nE c _ z' λ_ _ z=>by cases z
    .rw[up c (nE c _ z λ_ _ z=>by cases z) (nH c _ z)];exact z
    .rw[up c (nE c _ z λ_ _ z=>by cases z) (nH c _ z)];exact z
end
end
section
variable{M:Model}{E:Value->Shared->Prop}
theorem zk{e:Addr}{o:Obj}(hx:s.heap.get? e=some o)(h:Q o.cls s):wpAny M A (typeOf (.ref e)) Q E s:=by
 unfold typeOf;exact NB (Qu hx (NH h))
theorem vQ{e:Addr}{o:Obj}{vs:Array Value}{Q:Bool->Shared->Prop}(hx:s.heap.get? e=some o)(hd:o.data=.fields vs)(h:Q false s):wpAny M A (isType (.ref e)) Q E s:=by
 unfold isType loadHead;refine NB (Qu hx (NH ?_));rw[hd];exact h
end
def ET(K:PySem.W.Frag)(E:St->XK)(te:TE):TS:=λD σ H=>te σ H λv H1=>∃ e C dd,v=.ref e/\H1 e=some (iE C dd e)/\ez K C/\PySem.W.typeIn K (.ref C)=some (.type "type")/\E σ (.ref e) none (upd H1 e (dU C dd e))
theorem sd{exc:Expr}(O:eA X E)(J8:X.calm=true)(he:PE X exc te):PS X (.Raise (some exc) none pos) (ET X.K E te):=by
 intro J2 s σ H D I h;rw[arm_exec_Raise];refine NB (PB ?_);unfold raiseStmt;dsimp only [evalOpt,Option.map];refine NB (NB (b_ (he J2 s σ H _ I h) λu s1 hq=>NB (PB (NH ?_))));obtain⟨v,H1,I1,rv,e,C,dd,ev,hN,c,ht,hE⟩:=hq;subst ev;obtain rfl:u=NQ e:=rv;obtain⟨t,hx⟩:=(I1.bg e _ hN).1;have X1:=I1.iH;refine NB (NH ?_);refine NB (Ou ?_);unfold excFromValue isExcClass;refine NB (NB (vQ hx rfl ?_));refine NH ?_;refine NB ?_;unfold isInstance;refine NB (zk hx ((PySem.W.looks_mroIn X1 c.mb).here ?_));refine NH ?_;dsimp only;refine NB (vQ hx rfl ?_);unfold raisedInstance;refine NB (NB (zk hx (NB ((PySem.W.looks_typeIn X1 ht).here ?_))));refine NH ?_;unfold setFlight;refine NB (NB (N_ hx rfl (x:=.none) rfl ?_));refine NH ?_;exact wpAny_raiseNew_none (I1.ok.hd J8) (O.new J2 σ H1 s1 e C dd I1 hN hE)
inductive PV where
 | bH | bl (b:Bool) | int (i:Int) | str (x:Str)
 | tup (xs:List PV) | lst (xs:List PV)
 | gX (xs:List PV)
 | obj (C:Addr) (fs:List (Str×PV))
 | exc (C:Addr) (fo:Option (List (Str×PV)))
 | emp
 deriving Inhabited
mutual
inductive Rep (H:Hp):PV->V->Prop where
 | bH:Rep H .bH .bH
 | bl (b:Bool):Rep H (.bl b) (.bl b)
 | int (i:Int):Rep H (.int i) (.int i)
 | str (x:Str):Rep H (.str x) (.str x)
 | tup {a:Addr} {xs:List PV} {vs:List V}:H a=some (.tup vs)->aE H xs vs->Rep H (.tup xs) (.ref a)
 | lst {a:Addr} {xs:List PV} {vs:List V}:H a=some (.lst vs)->aE H xs vs->Rep H (.lst xs) (.ref a)
 | gX {a:Addr} {o:Obj} {xs:List PV} {vs:List V}:H a=some (.oO o (.lst vs))->aE H xs vs->Rep H (.gX xs) (.ref a)
 | obj {a C dx:Addr} {fs:List (Str×PV)} {vs:List (Str×V)}:H a=some (.ins C dx vs)->hG H fs vs->Rep H (.obj C fs) (.ref a)
 | t_ {a C:Addr}:H a=some (dU C none a)->Rep H (.exc C none) (.ref a)
 | sJ {a C d:Addr} {fs:List (Str×PV)} {vs:List (Str×V)}:H a=some (dU C (some d) a)->H d=some (.xd vs)->hG H fs vs->Rep H (.exc C (some fs)) (.ref a)
 | emp {a:Addr}:H a=some (.dK [])->Rep H .emp (.ref a)
inductive aE (H:Hp):List PV->List V->Prop where
 | nil:aE H [] []
 | cons {p:PV} {v:V} {ps:List PV} {vs:List V}:Rep H p v->aE H ps vs->aE H (p::ps) (v::vs)
inductive hG (H:Hp):List (Str×PV)->List (Str×V)->Prop where
 | nil:hG H [] []
 | cons {n:Str} {p:PV} {v:V} {ps:List (Str×PV)} {vs:List (Str×V)}:Rep H p v->hG H ps vs->hG H ((n,p)::ps) ((n,v)::vs)
end
mutual
theorem Rep.mono{H H':Hp}(s:aY H H'):∀ {p:PV} {v:V},Rep H p v->Rep H' p v
 | _,_,.bH=>.bH
 | _,_,.bl b=>.bl b
 | _,_,.int i=>.int i
 | _,_,.str x=>.str x
 | _,_,.tup h r=>.tup (s _ _ h) (r.mono s)
 | _,_,.lst h r=>.lst (s _ _ h) (r.mono s)
 | _,_,.gX h r=>.gX (s _ _ h) (r.mono s)
 | _,_,.obj h r=>.obj (s _ _ h) (r.mono s)
 | _,_,.t_ h=>.t_ (s _ _ h)
 | _,_,.sJ h h2 r=>.sJ (s _ _ h) (s _ _ h2) (r.mono s)
 | _,_,.emp h=>.emp (s _ _ h)
theorem aE.mono{H H':Hp}(s:aY H H'):∀ {p:List PV} {v:List V},aE H p v->aE H' p v
 | _,_,.nil=>.nil
 | _,_,.cons h r=>.cons (h.mono s) (r.mono s)
theorem hG.mono{H H':Hp}(s:aY H H'):∀ {p:List (Str×PV)} {v:List (Str×V)},hG H p v->hG H' p v
 | _,_,.nil=>.nil
 | _,_,.cons h r=>.cons (h.mono s) (r.mono s)
end
theorem aE.length{H:Hp}:∀ {p:List PV} {v:List V},aE H p v->p.length=v.length
 | _,_,.nil=>rfl
 | _,_,.cons _ r=>by simp[r.length]
theorem aE.get{H:Hp}:∀ {p:List PV} {v:List V} {i:Nat} {x:PV},aE H p v->p[i]?=some x->∃ u,v[i]?=some u/\Rep H x u
 | _,_,_,_,.nil,e=>by simp at e
 | _,_,0,_,.cons h _,e=>by simp at e;subst e;exact⟨_,rfl,h⟩
 | _,_,i+1,x,.cons _ r,e=>by
  obtain⟨u,h1,h2⟩:=aE.get (i:=i) (x:=x) r (by simpa using e);exact⟨u,by simpa using h1,h2⟩
theorem aE.append{H:Hp}:∀ {p q:List PV} {v u:List V},aE H p v->aE H q u->aE H (p++q) (v++u)
 | _,_,_,_,.nil,s=>s
 | _,_,_,_,.cons h r,s=>.cons h (r.append s)
theorem aE.take{H:Hp}:∀ {p:List PV} {v:List V} (n:Nat),aE H p v->aE H (p.take n) (v.take n)
 | _,_,0,_=>.nil
 | _,_,_+1,.nil=>.nil
 | _,_,n+1,.cons h r=>.cons h (r.take n)
theorem aE.drop{H:Hp}:∀ {p:List PV} {v:List V} (n:Nat),aE H p v->aE H (p.drop n) (v.drop n)
 | _,_,0,r=>r
 | _,_,_+1,.nil=>.nil
 | _,_,n+1,.cons _ r=>r.drop n
theorem aE.set{H:Hp}{x:PV}{u:V}(h:Rep H x u):∀ {p:List PV} {v:List V} (i:Nat),aE H p v->aE H (p.set i x) (v.set i u)
 | _,_,_,.nil=>.nil
 | _,_,0,.cons _ r=>.cons h r
 | _,_,i+1,.cons q r=>.cons q (r.set h i)
theorem aE.snoc{p:List PV}{v:List V}{x:PV}{u:V}(r:aE H p v)(h:Rep H x u):aE H (p++[x]) (v++[u]):=r.append (.cons h .nil)
theorem hG.look{H:Hp}{f:Str}:∀ {p:List (Str×PV)} {v:List (Str×V)} {x:PV},hG H p v->p.lookup f=some x->∃ u,v.lookup f=some u/\Rep H x u
 | _,_,_,.nil,e=>by simp at e
 | (n,_)::_,_,x,.cons h r,e=>by
  rw[Oq] at e ⊢;cases q:f==n with
  | true=>rw[q] at e;cases e;exact⟨_,rfl,h⟩
  | false=>rw[q] at e;exact r.look e
theorem hG.none{H:Hp}{f:Str}:∀ {p:List (Str×PV)} {v:List (Str×V)},hG H p v->p.lookup f=none->v.lookup f=none
 | _,_,.nil,_=>rfl
 | (n,_)::_,_,.cons h r,e=>by
  rw[Oq] at e ⊢;cases q:f==n with
  | true=>rw[q] at e;cases e
  | false=>rw[q] at e;exact r.none e
theorem aE.Jp{H:Hp}:∀ {ns:List Bool} {v:List V},aE H (ns.map PV.bl) v->v=ns.map V.bl
 | [],_,.nil=>rfl
 | _::_,_,.cons (.bl i) r=>by rw[r.Jp];rfl
theorem aE.strs{H:Hp}:∀ {ns:List Str} {v:List V},aE H (ns.map PV.str) v->v=ns.map V.str
 | [],_,.nil=>rfl
 | _::_,_,.cons (.str i) r=>by rw[r.strs];rfl
structure bx (Hs H J7 H':Hp):Prop where
 st:aY Hs J7
 al:aY H H'
 sub:aY J7 H'
 nw:∀ a o,Hs a=none->H a=some o->J7 a=none
variable{Hs:Hp}
theorem bx.refl(s:aY Hs H):bx Hs H Hs H:=⟨λ_ _ e=>e,λ_ _ e=>e,s,λ_ _ e _=>e⟩
variable{J9:Hp}
theorem bx.trans{H1 Ka H2:Hp}(a:bx Hs H J9 H1)(b:bx J9 H1 Ka H2):bx Hs H Ka H2 :=
 ⟨λc o e=>b.st c o (a.st c o e),λc o e=>b.al c o (a.al c o e),b.sub,λc o e q=>b.nw c o (a.nw c o e q) (a.al c o q)⟩
theorem bx.new{p:Addr}{o:HO}(s:aY Hs H)(n:H p=none):bx Hs H (upd Hs p o) (upd H p o):=by
 have ne:∀ c u,H c=some u->c≠p:=λc u e z=>by rw[z,n] at e;cases e
 refine⟨λc u e=>?_,λc u e=>?_,λc u e=>?_,λc u e q=>?_⟩
 .rw[ar (ne c u (s c u e))];exact e
 .rw[ar (ne c u e)];exact e
 .by_cases z:c=p
  .subst z;rw[av] at e ⊢;exact e
  .rw[ar z] at e ⊢;exact s c u e
 .rw[ar (ne c u q)];exact e
inductive SV where
 | sh (p:PV)
 | ow (xs:List PV)
 | bd (a C:Addr) (fs:List (Str×PV))
abbrev ae:=List (Option SV)
structure SR (B H₀ Hs H:Hp) (σ:St) (env:ae):Prop where
 gr:bx B H₀ Hs H
 len:σ.length=env.length
 sh:∀ (i:Nat) (p:PV),env[i]?=some (some (.sh p))->∃ v,σ[i]?=some (some v)/\Rep Hs p v
 ow:∀ (i:Nat) (xs:List PV),env[i]?=some (some (.ow xs))->∃ a vs,σ[i]?=some (some (.ref a))/\H a=some (.lst vs)/\Hs a=none/\H₀ a=none/\aE Hs xs vs
 sep:∀ (i j:Nat) (xs ys:List PV) (a:Addr),i≠j->env[i]?=some (some (.ow xs))->env[j]?=some (some (.ow ys))->σ[i]?=some (some (.ref a))->σ[j]?≠some (some (.ref a))
 bd:∀ (i:Nat) (a C:Addr) (fs:List (Str×PV)),env[i]?=some (some (.bd a C fs))->∃ dx vs,σ[i]?=some (some (.ref a))/\H a=some (.ins C dx vs)/\Hs a=none/\H₀ a=none/\hG Hs fs vs
 one:∀ (i j:Nat) (a b C D:Addr) (fs gs:List (Str×PV)),env[i]?=some (some (.bd a C fs))->env[j]?=some (some (.bd b D gs))->i=j
variable{H₀:Hp}
theorem SR.grow{B J7 H':Hp}{env:ae}(r:SR B H₀ Hs H σ env)(g:bx Hs H J7 H'):SR B H₀ J7 H' σ env where
 gr:=r.gr.trans g
 len:=r.len
 sh:=λi p e=>let ⟨v,h1,h2⟩:=r.sh i p e;⟨v,h1,h2.mono g.st⟩
 ow:=λi xs e=>let ⟨a,vs,h1,h2,h3,h4,h5⟩:=r.ow i xs e;⟨a,vs,h1,g.al _ _ h2,g.nw _ _ h3 h2,h4,h5.mono g.st⟩
 sep:=r.sep
 bd:=λi a C fs e=>let ⟨dx,vs,h1,h2,h3,h4,h5⟩:=r.bd i a C fs e;⟨dx,vs,h1,g.al _ _ h2,g.nw _ _ h3 h2,h4,h5.mono g.st⟩
 one:=r.one
abbrev EX:=Addr×Option (List (Str×PV))
abbrev M(α:Type):=Option (Except EX α)
def M.ok{α:Type}(a:α):M α:=some (.ok a)
variable{α:Type}
noncomputable def M.bind{β:Type}(x:M α)(f:α->M β):M β:=match x with
 | some (.ok a)=>f a
 | some (.error e)=>some (.error e)
 | none=>none
instance:Monad M where
 pure:=M.ok
 bind:=M.bind
def au(r:M α)(Q:α->Prop)(E:EX->Prop):Prop:=match r with
 | some (.ok a)=>Q a
 | some (.error e)=>E e
 | none=>False
variable{E':EX->Prop}
theorem au.imp{r:M α}{Q Q':α->Prop}{E:EX->Prop}(h:au r Q E)(hq:∀ a,Q a->Q' a)(he:∀ e,E e->E' e):au r Q' E':=by
 cases r with
 | none=>exact h
 | some x=>cases x with
  | ok a=>exact hq a h
  | error e=>exact he e h
theorem au.bind{α β:Type}{x:M α}{f:α->M β}{Q:β->Prop}{E:EX->Prop}(h:au (x.bind f) Q E):au x (λa=>au (f a) Q E) E:=by
 cases x with
 | none=>exact h
 | some x=>cases x with
  | ok a=>exact h
  | error e=>exact h
def XW(E:XK)(Hs H:Hp)(x:EX):Prop:=∀ ea J7 H',bx Hs H J7 H'->Rep J7 (.exc x.1 x.2) (.ref ea)->E (.ref ea) none H'
theorem XW.grow{E:XK}{J7 H':Hp}{x:EX}(h:XW E Hs H x)(g:bx Hs H J7 H'):XW E J7 H' x:=λea Ka H2 g2 r=>h ea Ka H2 (g.trans g2) r
def tE(E:St->XK)(f:ae->M PV):TE:=fun σ H Q=>∃ B H₀ Hs env,SR B H₀ Hs H σ env/\au (f env) (λp=>∀ v J7 H',bx Hs H J7 H'->Rep J7 p v->Q v H') (XW (E σ) Hs H)
theorem PE.imp{t t':TE}(h:PE X e t)(i:∀ σ H Q,t' σ H Q->t σ H Q):PE X e t':=λJ2 s σ H Q I q=>h J2 s σ H Q I (i σ H Q q)
theorem mC{f:ae->M PV}{g:ae->PV->M PV}{Q R:VK}(h:tE E (λenv=>(f env).bind (g env)) σ H Q)
  (k:∀ B H₀ Hs H1 env p v,SR B H₀ Hs H1 σ env->Rep Hs p v->au (g env p) (λq=>∀ u J7 H',bx Hs H1 J7 H'->Rep J7 q u->Q u H') (XW (E σ) Hs H1)->R v H1):tE E f σ H R:=by
 obtain⟨B,H₀,Hs,env,sr,h⟩:=h;refine⟨B,H₀,Hs,env,sr,(au.bind h).imp (λp hp v J7 H' g r=>?_) λe he=>he⟩;exact k B H₀ J7 H' env p v (sr.grow g) r (hp.imp (λq hq u Ka H2 g2 r2=>hq u Ka H2 (g.trans g2) r2) λe he=>he.grow g)
theorem u0{f g:ae->M PV}{op:PV->PV->M PV}{r:R2}{Q:VK}(h:tE E (λenv=>(f env).bind λp=>(g env).bind λq=>op p q) σ H Q)
  (k:∀ Hs H1 p q v u,aY Hs H1->Rep Hs p v->Rep Hs q u->au (op p q) (λz=>∀ w J7 H',bx Hs H1 J7 H'->Rep J7 z w->Q w H') (XW (E σ) Hs H1)->r v u H1 Q):GX r (tE E f) (tE E g) σ H Q:=by
 refine mC h λB H₀ Hs H1 env p v sr rp hp=>?_;refine⟨B,H₀,Hs,env,sr,(au.bind hp).imp (λq hq u J7 H' g ru=>?_) λe he=>he⟩;exact k J7 H' p q v u (sr.grow g).gr.sub (rp.mono g.st) ru (hq.imp (λz hz w Ka H2 g2 r2=>hz w Ka H2 (g.trans g2) r2) λe he=>he.grow g)
theorem GF{f:ae->M PV}{op:PV->M PV}{r:V->Hp->VK->Prop}{Q:VK}(h:tE E (λenv=>(f env).bind op) σ H Q)
  (k:∀ Hs H1 p v,aY Hs H1->Rep Hs p v->au (op p) (λz=>∀ w J7 H',bx Hs H1 J7 H'->Rep J7 z w->Q w H') (XW (E σ) Hs H1)->r v H1 Q):Jy r (tE E f) σ H Q :=
 mC h λB H₀ Hs H1 env p v sr rp hp=>k Hs H1 p v sr.gr.sub rp hp
def E_(sp:Sp)(Kz:List V)(E:St->XK)(t:TA):TE:=fun σ H Q=>t σ H λvs H1=>sp (vs++Kz) H1 Q (E σ)
def C0(C:Addr)(m:Str)(sp:Sp)(Kz:List V)(E:St->XK)(ta:TE)(t:TA):TE:=fun σ H Q=>ta σ H λx H1=>∃ a dx fs,x=.ref a/\H1 a=some (.ins C dx fs)/\fs.lookup m=none ∧
 t σ H1 λvs H2=>sp (x::(vs++Kz)) H2 Q (E σ)
def E7(C:Addr)(sp:Sp)(Kz:List V)(E:St->XK)(t:TA):TE:=fun σ H Q=>t σ H λvs H1=>∀ x dx,H1 x=none->H1 dx=none->dx≠x ->
 sp (.ref x::(vs++Kz)) (upd (upd H1 dx (.own x)) x (.ins C dx [])) (λv H2=>v=.bH/\Q (.ref x) H2) (E σ)
variable{Kz:List V}
variable{vs:List V}{us:List Value}
variable{pl:Sem Bool}
section
variable{sp:Sp}{p:Pos}
theorem wb{Q:VK}(F:aP X.prog X.w X.K X.mg X.base (cu X.prog X.w) k f fd ps sp)(hr:bU k X.A)(hb:Binds X.K fd ps ds)(hd:Vals Kz ds)(hx:eA X E)
  (I:Inv X J2 σ H s) (r:Vals vs us) (h:sp (vs++Kz) H Q (E σ)):wpAny (model X.prog X.w) X.A (call (.ref f) us) (EP X J2 σ Q) X.xe s:=by
 have r2:Vals (vs++Kz) (us++ds):=r.append hd;have hl:(us++ds).length=ps.length:=by rw[<- r2.length];exact F.len _ _ _ _ h
 refine Q9 (Qx (F.run X.A X.stack s H ⟨us,[]⟩ (us++ds) (vs++Kz) Q (E σ) hr I.bQ (hb s us I.iH hl) r2 h) λr s' hq=>?_);cases r with
 | error e=>exact hx.pass J2 σ H s e s' I hq
 | ok fl =>
  cases fl with
  | ret u=>exact I.after hq
  | next=>exact OX hq
  | brk=>exact OX hq
  | cont=>exact OX hq
theorem x6(F:aP X.prog X.w X.K X.mg X.base (cu X.prog X.w) k f fd ps sp)(hr:bU k X.A)(hg:Gl X x)(hm:X.mg x=some (.ref f))(hk:PySem.W.keepIn X.K (.ref f)=true)(hb:Binds X.K fd ps ds)(hd:Vals Kz ds)(hx:eA X E)
  (ha:PA X (e::es) t) (KP:autoParam ((x==("__debug__" : Str))=false) aD._auto_1) (he:autoParam (starEach (e::es) X.env=(false,eval e X.env)::starEach es X.env) aR._auto_1) (Kp:autoParam ((backTo pos (starEach es X.env)).any (·.1)=false) aR._auto_1) :
  PE X (.Call (.Name x p) (e::es) [] pos) (E_ sp Kz E t):=by
 intro J2 s σ H Q I h;refine Pd (hW I hg hm ?_ KP);refine PySem.W.callWith_K (h₀:=X.base) I.ok.mod.DH hk (b_ (ha pos J2 s σ H _ I h) λus s1 ⟨vs,H1,I1,r,q⟩=>⟨I1.iH,?_⟩) he Kp;exact wb F hr hb hd hx I1 r q
theorem wJ(he:PE X o ta)(c:oU X.K C)(hm:Meth X.K C m f)(F:aP X.prog X.w X.K X.mg X.base (cu X.prog X.w) k f fd ps sp)(hr:bU k X.A)(hb:Binds X.K fd ps ds)(hd:Vals Kz ds)(hx:eA X E)
  (ht:autoParam (eval (.Call (.Attribute o m apos) [] [] pos) X.env=(do
   let ov <- eval o X.env
   standAt apos.atName
   let (f,first) <- holding [ov] (getMethod ov m pl)
   callWith pos f first (backTo pos (starEach [] X.env)) (backToKw pos (keywordEach [] X.env)))) aR._auto_1) :
  PE X (.Call (.Attribute o m apos) [] [] pos) (C0 C m sp Kz E ta Gx):=by
 intro J2 s σ H Q I h;refine PySem.W.methodCall_KW (pl:=pl) (b_ (he J2 s σ H _ I h) λu s1 ⟨x,H1,I1,rx,a,dx,fs,ex,ea,l,q⟩=>?_) ht;subst ex;obtain rfl:u=NQ a:=rx;refine uQ I1 ea c hm l ?_;exact PySem.W.callWith_K0 (first:=[.ref a]) I1.iH hm.kp (wb (us:=[.ref a]) (vs:=[.ref a]) F hr hb hd hx I1 (.cons rfl .nil) q)
theorem w8{Q:VK}(M:Mk X.K C f)(F:aP X.prog X.w X.K X.mg X.base (cu X.prog X.w) k f fd ps sp)(hr:bU (k+1) X.A)(hb:Binds X.K fd ps ds)(hd:Vals Kz ds)
  (hx:eA X E) (I:Inv X J2 σ H s) (r:Vals vs us)
  (h:∀ x dx,H x=none->H dx=none->dx≠x->sp (.ref x::(vs++Kz)) (upd (upd H dx (.own x)) x (.ins C dx [])) (λv H2=>v=.bH/\Q (.ref x) H2) (E σ)) :
  wpAny (model X.prog X.w) X.A (call (.ref C) us) (EP X J2 σ Q) X.xe s:=by
 have hq:=h (s.heap.objs.size+1) s.heap.objs.size (I.bg.fresh (P4 _)) (I.bg.fresh (NK _)) (NR (Ox _));have I2:=Inv.made (C:=C) I;have r2:Vals (V.ref (s.heap.objs.size+1)::(vs++Kz)) (NQ (s.heap.objs.size+1)::(us++ds)):=.cons rfl (r.append hd);have hl:(NQ (s.heap.objs.size+1)::us++ds).length=ps.length:=by
  have e:=r2.length;rw[F.len _ _ _ _ hq] at e;exact e.symm
 refine Q9 (y_ (f:=f) I.iH M.makes M.init (beq_iff_eq.mp M.fn) (Qx (F.run _ X.stack _ _ ⟨NQ (s.heap.objs.size+1)::us,[]⟩ (NQ (s.heap.objs.size+1)::(us++ds)) _ _ (E σ) (hr.make C us [])
  (I2.bQ.make C us []) (hb _ (NQ (s.heap.objs.size+1)::us) I2.iH hl) r2 hq) λr s' Mp=>?_))
 cases r with
 | error e=>exact hx.pass J2 σ _ _ e s' I2 Mp
 | ok fl =>
  cases fl with
  | ret u =>
   obtain⟨v,H',I3,rv,ev,q3⟩:=I2.after Mp;subst ev;exact⟨rv,⟨V.ref (s.heap.objs.size+1),H',I3,rfl,q3⟩⟩
  | next=>exact OX Mp
  | brk=>exact OX Mp
  | cont=>exact OX Mp
theorem y0(M:Mk X.K C f)(F:aP X.prog X.w X.K X.mg X.base (cu X.prog X.w) k f fd ps sp)(hr:bU (k+1) X.A)(hg:Gl X x)(hm:X.mg x=some (.ref C))(hb:Binds X.K fd ps ds)(hd:Vals Kz ds)(hx:eA X E)
  (ha:PA X (e::es) t) (KP:autoParam ((x==("__debug__" : Str))=false) aD._auto_1) (he:autoParam (starEach (e::es) X.env=(false,eval e X.env)::starEach es X.env) aR._auto_1) (Kp:autoParam ((backTo pos (starEach es X.env)).any (·.1)=false) aR._auto_1) :
  PE X (.Call (.Name x p) (e::es) [] pos) (E7 C sp Kz E t):=by
 intro J2 s σ H Q I h;refine Pd (hW I hg hm ?_ KP);refine PySem.W.callWith_K (h₀:=X.base) I.ok.mod.DH M.kp (b_ (ha pos J2 s σ H _ I h) λus s1 ⟨vs,H1,I1,r,q⟩=>⟨I1.iH,?_⟩) he Kp;exact w8 M F hr hb hd hx I1 r q
end
abbrev cj(Hs H:Hp)(Q:VK):PV->Prop:=λz=>∀ w J7 H',bx Hs H J7 H'->Rep J7 z w->Q w H'
variable{p:PV}
theorem cj.flat{Q:VK}(h:cj Hs H Q p)(s:aY Hs H)(r:Rep Hs p v):Q v H:=h v Hs H (.refl s) r
theorem cj.tup{Hs H:Hp}{Q:VK}{xs:List PV}{vs:List V}(h:cj Hs H Q (.tup xs))(s:aY Hs H)(r:aE Hs xs vs):∀ p,H p=none->Q (.ref p) (upd H p (.tup vs)) :=
 λp n=>h _ (upd Hs p (.tup vs)) _ (bx.new s n) (.tup av (r.mono (bx.new s n).st))
theorem cj.lst{Hs H:Hp}{Q:VK}{xs:List PV}{vs:List V}(h:cj Hs H Q (.lst xs))(s:aY Hs H)(r:aE Hs xs vs):∀ p,H p=none->Q (.ref p) (upd H p (.lst vs)) :=
 λp n=>h _ (upd Hs p (.lst vs)) _ (bx.new s n) (.lst av (r.mono (bx.new s n).st))
namespace HT
theorem yn{prog:Program}{w:World}{A:Around}{E:Value->Shared->Prop}{s:Shared}{t b:Addr}{ws:List Value}{Q:Value->Shared->Prop}(ht:IsTup s.heap t #[])(hb:IsTup s.heap b ws.toArray)
  (h1:Q (.ref b) s):wpAny (model prog w) A (binaryOp .Add (.ref t) (.ref b)) Q E s:=by
 obtain⟨⟨cls,dd,data,sl⟩,ho,hc,n,hd⟩:=id ht;obtain⟨⟨cls2,M5,data2,sl2⟩,L9,Nc,n2,hd2⟩:=id hb;simp only at hc hd Nc hd2;subst hc hd Nc hd2;exact SE ⟨_,ho,rfl⟩ ⟨_,L9,rfl⟩ Rt Sj PySem.F.slot_tuple_add PySem.F.entry_tuple_add (PySem.F.args_tuple_add_2 _ _)
   (tuple_addW0 t b #[] ws.toArray n n2 dd M5 sl sl2 rfl) ⟨ho,L9,h1⟩
end HT
def zw(K:PySem.W.Frag):R2:=λx y H Q=>∃ a b ys,x=.ref a/\y=.ref b/\gx K H a []/\gx K H b ys/\Q (.ref b) H
theorem yA:fF X (binaryOp .Add) (zw X.K):=by
 intro J2 s σ H x y v u Q I rx ry h;obtain⟨a,b,ys,rfl,rfl,ha,hb,q1⟩:=h;cases rx;cases ry;obtain⟨J6,r1,p1,_⟩:=I.tuple ha;obtain⟨LU,r2,p2,_⟩:=I.tuple hb;have e:J6=[]:=r1.kC.mpr rfl;subst e;exact HT.yn p1 p2 ⟨.ref b,H,I,rfl,q1⟩
def bG(c:Prop)[Decidable c](x:M α):M α:=if c then x else none
theorem au.bG{α:Type}{c:Prop}[Decidable c]{x:M α}{Q:α->Prop}{E:EX->Prop}(h:au (L2.bG c x) Q E):c/\au x Q E:=by
 unfold L2.bG at h
 by_cases hc:c
 .rw[if_pos hc] at h;exact⟨hc,h⟩
 .rw[if_neg hc] at h;exact h.elim
def eN(o:Option PV):M PV:=match o with
 | some x=>M.ok x
 | none=>none
theorem au.opt{o:Option PV}{Q:PV->Prop}{E:EX->Prop}(h:au (eN o) Q E):∃ x,o=some x/\Q x:=by
 cases o with
 | none=>exact h.elim
 | some x=>exact⟨x,rfl,h⟩
variable{j:Nat}
variable{op:CmpOp}
section
variable{a b:Expr}{f g h:ae->M PV}
def af(i:Nat)(env:ae):M PV:=match env[i]? with
 | some (some (.sh p))=>M.ok p
 | _=>none
theorem Dw(hN:X.N[i]?=some x)(hv:yW X.env.scope x)(hd:autoParam ((x==("__debug__" : Str))=false) aD._auto_1)(K5:autoParam ((x==("__classdict__" : Str))=false) aD._auto_1):PE X (.Name x pos) (tE E (af i)):=by
 refine(ll hN hv hd K5).imp fun σ H Q q=>?_;obtain⟨B,H₀,Hs,env,sr,q⟩:=q;unfold af at q
 split at q
 .rename_i p e;obtain⟨v,h1,h2⟩:=sr.sh i p e;exact⟨v,h1,cj.flat q sr.gr.sub h2⟩
 .exact q.elim
theorem jh(he:PE X e (tC v))(r:∀ H,Rep H p v):PE X e (tE E λ_=>M.ok p):=by
 refine he.imp fun σ H Q q=>?_;obtain⟨B,H₀,Hs,env,sr,q⟩:=q;exact cj.flat q sr.gr.sub (r Hs)
theorem zh{i:Int}:PE X (.Constant (.int i) j pos) (tE E λ_=>M.ok (.int i)):=jh DL λ_=>.int i
theorem GZ{i:Bool}:PE X (.Constant (.bool i) j pos) (tE E λ_=>M.ok (.bl i)):=jh GS λ_=>.bl i
theorem EC:PE X (.Constant .none j pos) (tE E λ_=>M.ok .bH):=jh Fb λ_=>.bH
theorem D6{i:Str}:PE X (.Constant (.str i) j pos) (tE E λ_=>M.ok (.str i)):=jh D0 λ_=>.str i
def ai(op:PV->PV->M PV)(f g:ae->M PV):ae->M PV:=λenv=>(f env).bind λp=>(g env).bind λq=>op p q
def jl(E:St->XK)(r:R2)(op:PV->PV->M PV):Prop:=∀ (σ:St) (Hs H:Hp) (p q:PV) (v u:V) (Q:VK),aY Hs H->Rep Hs p v->Rep Hs q u->au (op p q) (cj Hs H Q) (XW (E σ) Hs H)->r v u H Q
theorem kQ{op:Operator}{r:R2}{o:PV->PV->M PV}(ho:fF X (binaryOp op) r)(hv:jl E r o)(ha:PE X a (tE E f))(hb:PE X b (tE E g)):PE X (.BinOp a op b pos) (tE E (ai o f g)) :=
 (F3 ho ha hb).imp fun σ H Q q=>u0 q λHs H1 p q v u s rp rq h=>hv σ Hs H1 p q v u Q s rp rq h
theorem iz{r:R2}{o:PV->PV->M PV}(ho:fF X (compareOp op) r)(hv:jl E r o)(ha:PE X a (tE E f))(hb:PE X b (tE E g))(hm:behindInMarks op b=false):PE X (.Compare a [op] [b] pos) (tE E (ai o f g)) :=
 (AV ho ha hb hm).imp fun σ H Q q=>u0 q λHs H1 p q v u s rp rq h=>hv σ Hs H1 p q v u Q s rp rq h
def bK:PV->PV->M PV
 | .int i,.int j=>M.ok (.int (i+j))
 | .str x,.str y=>bG (x.length+y.length<=sizeLine) (M.ok (.str (x++y)))
 | .tup xs,.tup ys=>bG (xs.length+ys.length<=sizeLine) (M.ok (.tup (xs++ys)))
 | .lst xs,.lst ys=>bG (xs.length+ys.length<=sizeLine) (M.ok (.lst (xs++ys)))
 | _,_=>none
def Co(K:PySem.W.Frag):R2:=λx y H Q=>(∃ i j,x=.int i/\y=.int j/\Q (.int (i+j)) H)\/(∃ i j,x=.str i/\y=.str j/\i.length+j.length<=sizeLine/\Q (.str (i++j)) H)\/Cd K x y H Q\/FK x y H Q\/zw K x y H Q
theorem BV:fF X (binaryOp .Add) (Co X.K):=fF.or CN (fF.or tQ (fF.or A8 (fF.or EU yA)))
theorem CL{K:PySem.W.Frag}:jl E (Co K) bK:=by
 intro σ Hs H p q v u Q s rp rq h;cases rp with
 | int i=>cases rq with
  | int j=>exact .inl ⟨i,j,rfl,rfl,cj.flat h s (.int _)⟩
  | _=>exact h.elim
 | str i=>cases rq with
  | str j =>
   obtain⟨hz,h⟩:=au.bG h;exact .inr (.inl ⟨i,j,rfl,rfl,hz,cj.flat h s (.str _)⟩)
  | _=>exact h.elim
 | @tup a xs vs ha hx=>cases rq with
  | @tup b ys us hb hy =>
   obtain⟨hz,h⟩:=au.bG h;cases hx with
   | nil=>exact .inr (.inr (.inr (.inr ⟨a,b,us,rfl,rfl,gx.of (s _ _ ha),gx.of (s _ _ hb),cj.flat h s (.tup hb hy)⟩)))
   | cons MX Lb =>
    have hx:=aE.cons MX Lb;refine .inr (.inr (.inl ⟨a,b,_,us,rfl,rfl,gx.of (s _ _ ha),gx.of (s _ _ hb),(λz=>nomatch z),by rw[<- hx.length,<- hy.length];exact hz,λz=>?_,λz=>cj.tup h s (hx.append hy)⟩));have e:ys=[]:=by cases hy with | nil=>rfl | cons _ _=>cases z
    subst e;rw[Oh] at h;exact cj.flat h s (.tup ha hx)
  | _=>exact h.elim
 | @lst a xs vs ha hx=>cases rq with
  | @lst b ys us hb hy =>
   obtain⟨hz,h⟩:=au.bG h;exact .inr (.inr (.inr (.inl ⟨a,b,vs,us,rfl,rfl,s _ _ ha,s _ _ hb,by rw[<- hx.length,<- hy.length];exact hz,cj.lst h s (hx.append hy)⟩)))
  | _=>exact h.elim
 | _=>exact h.elim
def uT(c:Int->Int->Bool)(o:Int->Int->Int):PV->PV->M PV
 | .int i,.int j=>bG (c i j=true) (M.ok (.int (o i j)))
 | _,_=>none
theorem tR{C:Int->Int->Prop}{c:Int->Int->Bool}{o:Int->Int->Int}(hc:∀ i j,c i j=true->C i j):jl E (rI C λi j=>.int (o i j)) (uT c o):=by
 intro σ Hs H p q v u Q s rp rq h;cases rp with
 | int i=>cases rq with
  | int j =>
   obtain⟨hz,h⟩:=au.bG h;exact⟨i,j,rfl,rfl,hc i j hz,cj.flat h s (.int _)⟩
  | _=>exact h.elim
 | _=>exact h.elim
def nO:PV->PV->M PV
 | .int i,.int j=>M.ok (.int (i-j))
 | _,_=>none
theorem Dp:jl E (v7 λi j=>.int (i-j)) nO:=by
 intro σ Hs H p q v u Q s rp rq h;cases rp with
 | int i=>cases rq with
  | int j=>exact⟨i,j,rfl,rfl,cj.flat h s (.int _)⟩
  | _=>exact h.elim
 | _=>exact h.elim
def yQ(o:Int->Int->Bool):PV->PV->M PV
 | .int i,.int j=>M.ok (.bl (o i j))
 | _,_=>none
theorem qK{o:Int->Int->Bool}:jl E (v7 λi j=>.bl (o i j)) (yQ o):=by
 intro σ Hs H p q v u Q s rp rq h;cases rp with
 | int i=>cases rq with
  | int j=>exact⟨i,j,rfl,rfl,cj.flat h s (.bl _)⟩
  | _=>exact h.elim
 | _=>exact h.elim
def aC:PV->PV->M PV
 | .tup xs,.int i=>eN (nZ xs i)
 | .lst xs,.int i=>eN (nZ xs i)
 | .gX xs,.int i=>eN (nZ xs i)
 | .str z,.int i=>bG (z.length<=sizeLine) (eN ((nZ z.cps.toList i).map λc=>.str ⟨#[c]⟩))
 | _,_=>none
theorem aE.nZ{H:Hp}{xs:List PV}{vs:List V}{i:Int}{x:PV}(r:aE H xs vs)(e:L2.nZ xs i=some x):∃ v,L2.nZ vs i=some v/\Rep H x v:=by
 unfold L2.nZ at e ⊢;rw[<- r.length];obtain⟨j,h1,h2⟩:=PM.mp e;obtain⟨v,h3,h4⟩:=r.get h2;exact⟨v,by rw[h1];exact h3,h4⟩
theorem ES{K:PySem.W.Frag}:jl E (Jw K) aC:=by
 intro σ Hs H p q v u Q s rp rq h;cases rp with
 | @tup a xs vs ha hx=>cases rq with
  | int i =>
   obtain⟨x,ex,h⟩:=au.opt h;obtain⟨v,h1,h2⟩:=hx.nZ ex;exact .inr (.inl ⟨a,vs,i,v,rfl,rfl,gx.of (s _ _ ha),h1,cj.flat h s h2⟩)
  | _=>exact h.elim
 | @lst a xs vs ha hx=>cases rq with
  | int i =>
   obtain⟨x,ex,h⟩:=au.opt h;obtain⟨v,h1,h2⟩:=hx.nZ ex;exact .inl ⟨a,vs,i,v,rfl,rfl,gK.of (s _ _ ha),h1,cj.flat h s h2⟩
  | _=>exact h.elim
 | @gX a o xs vs ha hx=>cases rq with
  | int i =>
   obtain⟨x,ex,h⟩:=au.opt h;obtain⟨v,h1,h2⟩:=hx.nZ ex;exact .inl ⟨a,vs,i,v,rfl,rfl,.inl (.inr ⟨o,s _ _ ha⟩),h1,cj.flat h s h2⟩
  | _=>exact h.elim
 | str z=>cases rq with
  | int i =>
   obtain⟨hz,h⟩:=au.bG h;obtain⟨x,ex,h⟩:=au.opt h;obtain⟨c,ec,rfl⟩:=N4.mp ex;exact .inr (.inr ⟨z,i,c,rfl,rfl,hz,ec,cj.flat h s (.str _)⟩)
  | _=>exact h.elim
 | _=>exact h.elim
theorem CV(ha:PE X a (tE E f))(hb:PE X b (tE E g))(hs:qL b):PE X (.Subscript a b pos) (tE E (ai aC f g)) :=
 (FV Dq ha hb hs).imp fun σ H Q q=>u0 q λHs H1 p q v u s rp rq h=>ES σ Hs H1 p q v u Q s rp rq h
end
def tG(E:St->XK)(f:ae->M α)(K:Hp->Hp->α->Prop):St->Hp->Prop:=fun σ H=>∃ B H₀ Hs env,SR B H₀ Hs H σ env/\au (f env) (K Hs H) (XW (E σ) Hs H)
def KG(K:Hp->Hp->α->Prop):Prop:=∀ Hs H J7 H' b,K Hs H b->bx Hs H J7 H'->K J7 H' b
abbrev KB(Q:Bool->Hp->Prop):Hp->Hp->Bool->Prop:=λHs H k=>∀ J7 H',bx Hs H J7 H'->Q k H'
abbrev il(Q:VK):Hp->Hp->PV->Prop:=λHs H p=>cj Hs H Q p
abbrev KL(Q:List V->Hp->Prop):Hp->Hp->List PV->Prop:=λHs H ps=>∀ vs J7 H',bx Hs H J7 H'->aE J7 ps vs->Q vs H'
theorem KB.g{Q:Bool->Hp->Prop}:KG (KB Q):=λHs H J7 H' b k g Ka H2 g2=>k Ka H2 (g.trans g2)
theorem il.g{Q:VK}:KG (il Q):=λHs H J7 H' b k g w Ka H2 g2 r=>k w Ka H2 (g.trans g2) r
theorem KL.g{Q:List V->Hp->Prop}:KG (KL Q):=λHs H J7 H' b k g w Ka H2 g2 r=>k w Ka H2 (g.trans g2) r
def tT(E:St->XK)(f:ae->M Bool):TT:=fun σ H Q=>tG E f (KB Q) σ H
def tL(E:St->XK)(f:ae->M (List PV)):TA:=fun σ H Q=>tG E f (KL Q) σ H
theorem PT.imp{t t':TT}(h:PT X e t)(i:∀ σ H Q,t' σ H Q->t σ H Q):PT X e t':=λJ2 s σ H Q I q=>h J2 s σ H Q I (i σ H Q q)
theorem PW.imp{t t':TT}(h:PW X e t)(i:∀ σ H Q,t' σ H Q->t σ H Q):PW X e t':=λw J2 s σ H Q I q=>h w J2 s σ H Q I (i σ H Q q)
theorem PA.imp{e:List Expr}{t':TA}(h:PA X e t)(i:∀ σ H Q,t' σ H Q->t σ H Q):PA X e t':=λw J2 s σ H Q I q=>h w J2 s σ H Q I (i σ H Q q)
section
variable{β:Type}{K:Hp->Hp->β->Prop}
theorem bw{f:ae->M PV}{g:ae->PV->M β}{R:VK}(kg:KG K)(h:tG E (λenv=>(f env).bind (g env)) K σ H)
  (k:∀ B H₀ Hs H1 env p v,SR B H₀ Hs H1 σ env->Rep Hs p v->au (g env p) (K Hs H1) (XW (E σ) Hs H1)->R v H1):tE E f σ H R:=by
 obtain⟨B,H₀,Hs,env,sr,h⟩:=h;refine⟨B,H₀,Hs,env,sr,(au.bind h).imp (λp hp v J7 H' g r=>?_) λe he=>he⟩;exact k B H₀ J7 H' env p v (sr.grow g) r (hp.imp (λq hq=>kg _ _ _ _ q hq g) λe he=>he.grow g)
theorem kq{f:ae->M Bool}{g:ae->Bool->M β}{R:Bool->Hp->Prop}(kg:KG K)(h:tG E (λenv=>(f env).bind (g env)) K σ H)
  (k:∀ B H₀ Hs H1 env p,SR B H₀ Hs H1 σ env->au (g env p) (K Hs H1) (XW (E σ) Hs H1)->R p H1):tT E f σ H R:=by
 obtain⟨B,H₀,Hs,env,sr,h⟩:=h;refine⟨B,H₀,Hs,env,sr,(au.bind h).imp (λp hp J7 H' g=>?_) λe he=>he⟩;exact k B H₀ J7 H' env p (sr.grow g) (hp.imp (λq hq=>kg _ _ _ _ q hq g) λe he=>he.grow g)
theorem fx{f:ae->M (List PV)}{g:ae->List PV->M β}{R:List V->Hp->Prop}(kg:KG K)(h:tG E (λenv=>(f env).bind (g env)) K σ H)
  (k:∀ B H₀ Hs H1 env p v,SR B H₀ Hs H1 σ env->aE Hs p v->au (g env p) (K Hs H1) (XW (E σ) Hs H1)->R v H1):tL E f σ H R:=by
 obtain⟨B,H₀,Hs,env,sr,h⟩:=h;refine⟨B,H₀,Hs,env,sr,(au.bind h).imp (λp hp v J7 H' g r=>?_) λe he=>he⟩;exact k B H₀ J7 H' env p v (sr.grow g) r (hp.imp (λq hq=>kg _ _ _ _ q hq g) λe he=>he.grow g)
end
def ui:PV->M Bool
 | .bl b=>M.ok b
 | _=>none
def bJ(f:ae->M PV):ae->M Bool:=λenv=>(f env).bind ui
theorem au.F9{Q:Bool->Prop}{E:EX->Prop}(h:au (ui p) Q E):∃ b,p=.bl b/\Q b:=by
 cases p with
 | bl b=>exact⟨b,rfl,h⟩
 | _=>exact h.elim
variable{r:List V->Hp->VK->Prop}
section
variable{a b:Expr}{f g h:ae->M PV}{u v:ae->M Bool}{rest:List Expr}
theorem nK{Q:Bool->Hp->Prop}(q:tT E (bJ f) σ H Q):tB (tE E f) σ H Q:=by
 refine bw KB.g q λB H₀ Hs H1 env p v sr rp hp=>?_;obtain⟨k,rfl,hp⟩:=au.F9 hp;cases rp;exact⟨k,rfl,hp Hs H1 (.refl sr.gr.sub)⟩
theorem kU(he:PE X e (tE E f))(hw:autoParam (∀ whole,isTrue e X.env whole=(do let v <- whole;standAt e.pos;holding [v] (truthy v))) aI._auto_1):PT X e (tT E (bJ f)) :=
 (C3 he hw).imp fun σ H Q q=>nK q
theorem gR{r:R2}{o:PV->PV->M PV}(ho:fF X (compareOp op) r)(hv:jl E r o)(ha:PE X a (tE E f))(hb:PE X b (tE E g))(hm:behindInMarks op b=false):PT X (.Compare a [op] [b] pos) (tT E (bJ (ai o f g))):=by
 refine(Bj ho ha hb hm).imp fun σ H Q q=>?_;have q':=nK q;exact u0 q' λHs H1 p q v u s rp rq h=>hv σ Hs H1 p q v u _ s rp rq h
def iG(u:ae->M Bool):ae->M Bool:=λenv=>(u env).bind λb=>M.ok (!b)
def DW(u v:ae->M Bool):ae->M Bool:=λenv=>(u env).bind λb=>if b=true then v env else M.ok false
def va(u v:ae->M Bool):ae->M Bool:=λenv=>(u env).bind λb=>if b=true then M.ok true else v env
theorem Ed(ha:PT X a (tT E u)):PT X (.UnaryOp .Not a pos) (tT E (iG u)) :=
 (C4 ha).imp fun σ H Q q=>kq KB.g q λB H₀ Hs H1 env p sr hp=>hp Hs H1 (.refl sr.gr.sub)
theorem BU(ha:PT X a (tT E u)):PW X (.BoolOp .And [a] pos) (tT E u):=pw_and1 ha
theorem gS(ha:PT X a (tT E u)):PW X (.BoolOp .Or [a] pos) (tT E u):=pw_or1 ha
theorem D4(ha:PT X a (tT E u))(hb:PW X (.BoolOp .And (b::rest) pos) (tT E v)):PW X (.BoolOp .And (a::b::rest) pos) (tT E (DW u v)):=by
 refine(pw_and ha hb).imp fun σ H Q q=>kq KB.g q λB H₀ Hs H1 env p sr hp=>?_;cases p with
 | true=>exact⟨B,H₀,Hs,env,sr,hp⟩
 | false=>exact hp Hs H1 (.refl sr.gr.sub)
theorem iD(ha:PT X a (tT E u))(hb:PW X (.BoolOp .Or (b::rest) pos) (tT E v)):PW X (.BoolOp .Or (a::b::rest) pos) (tT E (va u v)):=by
 refine(pw_or ha hb).imp fun σ H Q q=>kq KB.g q λB H₀ Hs H1 env p sr hp=>?_;cases p with
 | true=>exact hp Hs H1 (.refl sr.gr.sub)
 | false=>exact⟨B,H₀,Hs,env,sr,hp⟩
def AD(f:ae->M PV):ae->M PV:=λenv=>(f env).bind λp=>(ui p).bind λb=>M.ok (.bl (!b))
def p_(f g:ae->M PV):ae->M PV:=λenv=>(f env).bind λp=>(ui p).bind λb=>if b=true then g env else M.ok (.bl false)
def IF(f g:ae->M PV):ae->M PV:=λenv=>(f env).bind λp=>(ui p).bind λb=>if b=true then M.ok (.bl true) else g env
theorem yw(ha:PE X a (tE E f)):PE X (.UnaryOp .Not a pos) (tE E (AD f)):=by
 refine(Df ha).imp fun σ H Q q=>bw (K:=il Q) il.g q λB H₀ Hs H1 env p v sr rp hp=>?_;obtain⟨k,rfl,hp⟩:=au.F9 (au.bind hp);cases rp;exact⟨k,rfl,cj.flat hp sr.gr.sub (.bl _)⟩
theorem jK(ha:PE X a (tE E f))(hb:PE X (.BoolOp .And (b::rest) pos) (tE E g)):PE X (.BoolOp .And (a::b::rest) pos) (tE E (p_ f g)):=by
 refine(DE ha hb).imp fun σ H Q q=>bw (K:=il Q) il.g q λB H₀ Hs H1 env p v sr rp hp=>?_;obtain⟨k,rfl,hp⟩:=au.F9 (au.bind hp);cases rp;refine⟨k,rfl,?_⟩;cases k with
 | true=>exact⟨B,H₀,Hs,env,sr,hp⟩
 | false=>exact cj.flat hp sr.gr.sub (.bl _)
theorem F7(ha:PE X a (tE E f))(hb:PE X (.BoolOp .Or (b::rest) pos) (tE E g)):PE X (.BoolOp .Or (a::b::rest) pos) (tE E (IF f g)):=by
 refine(GK ha hb).imp fun σ H Q q=>bw (K:=il Q) il.g q λB H₀ Hs H1 env p v sr rp hp=>?_;obtain⟨k,rfl,hp⟩:=au.F9 (au.bind hp);cases rp;refine⟨k,rfl,?_⟩;cases k with
 | false=>exact⟨B,H₀,Hs,env,sr,hp⟩
 | true=>exact cj.flat hp sr.gr.sub (.bl _)
def xG(u:ae->M Bool)(f g:ae->M PV):ae->M PV:=λenv=>(u env).bind λb=>if b=true then f env else g env
theorem E8(hc:PT X c (tT E u))(ha:PE X a (tE E f))(hb:PE X b (tE E g)):PE X (.IfExp c a b pos) (tE E (xG u f g)):=by
 refine(zg hc ha hb).imp fun σ H Q q=>kq (K:=il Q) il.g q λB H₀ Hs H1 env p sr hp=>?_;cases p with
 | true=>exact⟨B,H₀,Hs,env,sr,hp⟩
 | false=>exact⟨B,H₀,Hs,env,sr,hp⟩
def ao:ae->M (List PV):=λ_=>M.ok []
def aa(f:ae->M PV)(fs:ae->M (List PV)):ae->M (List PV):=λenv=>(f env).bind λp=>(fs env).bind λps=>M.ok (p::ps)
variable{fs:ae->M (List PV)}
theorem xV:PA X [] (tL E ao):=by
 refine gk.imp fun σ H Q q=>?_;obtain⟨B,H₀,Hs,env,sr,q⟩:=q;exact q [] Hs H (.refl sr.gr.sub) .nil
theorem u6(ha:PE X e (tE E f))(hr:PA X es (tL E fs))(hs:autoParam (starEach (e::es) X.env=(false,eval e X.env)::starEach es X.env) aR._auto_1):PA X (e::es) (tL E (aa f fs)):=by
 refine(bZ ha hr hs).imp fun σ H Q q=>bw (K:=KL Q) KL.g q λB H₀ Hs H1 env p v sr rp hp=>?_;refine⟨B,H₀,Hs,env,sr,(au.bind hp).imp (λps hps vs J7 H' g r=>?_) λe he=>he⟩;exact hps (v::vs) J7 H' g (.cons (rp.mono g.st) r)
def dH(fs:ae->M (List PV)):ae->M PV:=λenv=>(fs env).bind λps=>bG (ps.length<=sizeLine) (M.ok (.tup ps))
def g_(fs:ae->M (List PV)):ae->M PV:=λenv=>(fs env).bind λps=>bG (ps.length<=sizeLine) (M.ok (.lst ps))
theorem CQ(hr:PA X es (tL E fs)):PE X (.Tuple es x1 pos) (tE E (dH fs)):=by
 refine(qz hr).imp fun σ H Q q=>fx (K:=il Q) il.g q λB H₀ Hs H1 env p v sr rp hp=>?_;obtain⟨hz,hp⟩:=au.bG hp;exact⟨by rw[<- rp.length];exact hz,cj.tup hp sr.gr.sub rp⟩
theorem zv(hr:PA X es (tL E fs)):PE X (.List es pos) (tE E (g_ fs)):=by
 refine(yN hr).imp fun σ H Q q=>fx (K:=il Q) il.g q λB H₀ Hs H1 env p v sr rp hp=>?_;obtain⟨hz,hp⟩:=au.bG hp;exact⟨by rw[<- rp.length];exact hz,cj.lst hp sr.gr.sub rp⟩
def ah(o:List PV->M PV)(fs:ae->M (List PV)):ae->M PV:=λenv=>(fs env).bind o
def jr(E:St->XK)(r:List V->Hp->VK->Prop)(o:List PV->M PV):Prop:=∀ (σ:St) (Hs H:Hp) (ps:List PV) (vs:List V) (Q:VK),aY Hs H->aE Hs ps vs->au (o ps) (cj Hs H Q) (XW (E σ) Hs H)->r vs H Q
theorem xN{o:List PV->M PV}{Q:VK}(hv:jr E r o)(q:tE E (ah o fs) σ H Q):Ip r (tL E fs) σ H Q :=
 fx (K:=il Q) il.g q λB H₀ Hs H1 env p v sr rp hp=>hv σ Hs H1 p v Q sr.gr.sub rp hp
variable{p:Pos}{id T:String}
theorem kv{o:List PV->M PV}(hc:cO X (.builtin id) r)(hv:jr E r o)(hg:Gl X x)(hm:X.mg x=none)(hx:bootBuiltins x=some (.builtin id))(ha:PA X (e::es) (tL E fs))(hn:autoParam (x ≠ "__name__") aD._auto_1)(KP:autoParam ((x==("__debug__" : Str))=false) aD._auto_1)
  (he:autoParam (starEach (e::es) X.env=(false,eval e X.env)::starEach es X.env) aR._auto_1) (Kp:autoParam ((backTo pos (starEach es X.env)).any (·.1)=false) aR._auto_1):PE X (.Call (.Name x p) (e::es) [] pos) (tE E (ah o fs)) :=
 (kj hc hg hm hx ha hn KP he Kp).imp fun σ H Q q=>xN hv q
theorem dE{o:List PV->M PV}(hc:cO X (.type T) r)(hv:jr E r o)(hg:Gl X x)(hm:X.mg x=none)(hx:bootBuiltins x=some (.type T))(ha:PA X (e::es) (tL E fs))(hn:autoParam (x ≠ "__name__") aD._auto_1)(KP:autoParam ((x==("__debug__" : Str))=false) aD._auto_1)
  (he:autoParam (starEach (e::es) X.env=(false,eval e X.env)::starEach es X.env) aR._auto_1) (Kp:autoParam ((backTo pos (starEach es X.env)).any (·.1)=false) aR._auto_1):PE X (.Call (.Name x p) (e::es) [] pos) (tE E (ah o fs)) :=
 (xC hc hg hm hx ha hn KP he Kp).imp fun σ H Q q=>xN hv q
end
variable{xs:List PV}
def bR:PV->Option (List PV)
 | .tup xs=>some xs
 | .lst xs=>some xs
 | .gX xs=>some xs
 | _=>none
theorem EO{K:PySem.W.Frag}(s:aY Hs H)(r:Rep Hs p v)(e:bR p=some xs):∃ a vs,v=.ref a/\(gK K H a vs\/gx K H a vs)/\aE Hs xs vs:=by
 cases r with
 | tup h r=>cases e;exact⟨_,_,rfl,.inr (gx.of (s _ _ h)),r⟩
 | lst h r=>cases e;exact⟨_,_,rfl,.inl (gK.of (s _ _ h)),r⟩
 | gX h r=>cases e;exact⟨_,_,rfl,.inl (.inl (.inr ⟨_,s _ _ h⟩)),r⟩
 | _=>cases e
def me:PV->M PV
 | .str z=>bG (z.length<=sizeLine) (M.ok (.int z.length))
 | p=>eN ((bR p).map λxs=>.int xs.length)
def cP:List PV->M PV
 | [p]=>me p
 | _=>none
theorem aE.one(r:aE H [p] vs):∃ v,vs=[v]/\Rep H p v:=by
 cases r with
 | cons h r=>cases r;exact⟨_,rfl,h⟩
theorem aE.two{q:PV}(r:aE H [p,q] vs):∃ v u,vs=[v,u]/\Rep H p v/\Rep H q u:=by
 cases r with
 | cons h r=>obtain⟨u,rfl,h2⟩:=r.one;exact⟨_,_,rfl,h,h2⟩
def B9(K:PySem.W.Frag):List V->Hp->VK->Prop:=λxs H Q=>(∃ p ys,xs=[.ref p]/\(gK K H p ys\/gx K H p ys)/\Q (.int ys.length) H)\/∃ z,xs=[.str z]/\z.length<=sizeLine/\Q (.int z.length) H
theorem wq:cO X (.builtin "len") (B9 X.K):=cO.or qT qR
theorem Fl{K:PySem.W.Frag}:jr E (B9 K) cP:=by
 intro σ Hs H ps vs Q s r h
 match ps,r with
 | [],_=>exact h.elim
 | _::_::_,_=>exact h.elim
 | [p],r =>
  obtain⟨v,rfl,rp⟩:=r.one;cases hp:bR p with
  | none =>
   cases p with
   | str z =>
    cases rp;obtain⟨hz,h⟩:=au.bG h;exact .inr ⟨z,rfl,hz,cj.flat h s (.int _)⟩
   | tup _=>cases hp
   | lst _=>cases hp
   | gX _=>cases hp
   | _=>exact h.elim
  | some xs =>
   obtain⟨a,us,rfl,hq,hx⟩:=EO (K:=K) s rp hp;have h':au (eN ((bR p).map λxs=>PV.int xs.length)) (cj Hs H Q) (XW (E σ) Hs H):=by
    cases p with
    | str z=>cases hp
    | _=>exact h
   rw[hp] at h';refine .inl ⟨a,us,rfl,hq,?_⟩;rw[<- hx.length];exact cj.flat h' s (.int _)
def GJ:List PV->M PV
 | [p]=>eN ((bR p).map .lst)
 | _=>none
def eM:List PV->M PV
 | [p]=>eN ((bR p).map .tup)
 | _=>none
theorem xZ{K:PySem.W.Frag}:jr E (λxs H Q=>∃ p ys,xs=[.ref p]/\((gK K H p ys/\∀ l,H l=none->Q (.ref l) (upd H l (.tup ys)))\/(gx K H p ys/\Q (.ref p) H))) eM:=by
 intro σ Hs H ps vs Q s r h
 match ps,r with
 | [],_=>exact h.elim
 | _::_::_,_=>exact h.elim
 | [p],r =>
  obtain⟨v,rfl,rp⟩:=r.one;obtain⟨x,ex,h⟩:=au.opt h;obtain⟨xs,hp,rfl⟩:=N4.mp ex;cases rp with
  | tup ha hx=>cases hp;exact⟨_,_,rfl,.inr ⟨gx.of (s _ _ ha),cj.flat h s (.tup ha hx)⟩⟩
  | lst ha hx=>cases hp;exact⟨_,_,rfl,.inl ⟨gK.of (s _ _ ha),cj.tup h s hx⟩⟩
  | gX ha hx=>cases hp;exact⟨_,_,rfl,.inl ⟨.inl (.inr ⟨_,s _ _ ha⟩),cj.tup h s hx⟩⟩
  | _=>cases hp
def wV:List PV->Option (List Bool)
 | []=>some []
 | .bl i::r=>(wV r).map (i::·)
 | _=>none
theorem uG:∀ {ps:List PV} {ns:List Bool},wV ps=some ns->ps=ns.map PV.bl
 | [],_,e=>by cases e;rfl
 | .bl i::r,_,e=>by
  obtain⟨ms,h1,rfl⟩:=N4.mp e;rw[uG h1];rfl
theorem se:∀ (ns:List Bool),wV (ns.map PV.bl)=some ns
 | []=>rfl
 | n::r=>by show (wV (r.map PV.bl)).map (n::·)=_;rw[se r];rfl
def all1:PV->M PV
 | .lst xs=>eN ((wV xs).map λns=>.bl (ns.all id))
 | _=>none
def sD:List PV->M PV
 | [p]=>all1 p
 | _=>none
theorem EE{K:PySem.W.Frag}:jr E (λxs H Q=>∃ (a:Addr) (bs:List Bool),xs=[.ref a]/\gK K H a (bs.map V.bl)/\Q (.bl (bs.all id)) H) sD:=by
 intro σ Hs H ps vs Q s r h
 match ps,r with
 | [],_=>exact h.elim
 | _::_::_,_=>exact h.elim
 | [p],r =>
  obtain⟨v,rfl,rp⟩:=r.one;cases rp with
  | lst ha hx =>
   obtain⟨x,ex,h⟩:=au.opt h;obtain⟨ns,hn,rfl⟩:=N4.mp ex;rw[uG hn] at hx;exact⟨_,ns,rfl,hx.Jp▸gK.of (s _ _ ha),cj.flat h s (.bl _)⟩
  | _=>exact h.elim
def IG(o:Int->Int->Int):PV->PV->M PV
 | .int i,.int j=>M.ok (.int (o i j))
 | _,_=>none
def mH(o:Int->Int->Int):List PV->M PV
 | [p,q]=>IG o p q
 | _=>none
theorem u7{o:Int->Int->Int}:jr E (λxs H Q=>∃ i j,xs=[.int i,.int j]/\Q (.int (o i j)) H) (mH o):=by
 intro σ Hs H ps vs Q s r h
 match ps,r with
 | [],_=>exact h.elim
 | [_],_=>exact h.elim
 | _::_::_::_,_=>exact h.elim
 | [p,q],r =>
  obtain⟨v,u,rfl,rp,rq⟩:=r.two;cases rp with
  | int i=>cases rq with
   | int j=>exact⟨i,j,rfl,cj.flat h s (.int _)⟩
   | _=>exact h.elim
  | _=>exact h.elim
def fE(n:Nat)(sem:List PV->M PV):Sp:=λvs H Q E=>vs.length=n/\∃ Hs ps,aY Hs H/\aE Hs ps vs/\au (sem ps) (cj Hs H Q) (XW E Hs H)
variable{Lj:List PV}
section
variable{sem:List PV->M PV}{p:Pos}{fs:ae->M (List PV)}{g:ae->M PV}
theorem Br(F:aP X.prog X.w X.K X.mg X.base (cu X.prog X.w) k f fd ps (fE n sem))(hr:bU k X.A)(hg:Gl X x)(hm:X.mg x=some (.ref f))(hk:PySem.W.keepIn X.K (.ref f)=true)(hb:Binds X.K fd ps ds)(hd:Vals Kz ds)(hdp:∀ H,aE H Lj Kz)(O:eA X E)
  (hl:∀ ps,sem (ps++Lj)≠none->ps.length+Lj.length=n)
  (ha:PA X (e::es) (tL E fs)) (KP:autoParam ((x==("__debug__" : Str))=false) aD._auto_1) (he:autoParam (starEach (e::es) X.env=(false,eval e X.env)::starEach es X.env) aR._auto_1) (Kp:autoParam ((backTo pos (starEach es X.env)).any (·.1)=false) aR._auto_1) :
  PE X (.Call (.Name x p) (e::es) [] pos) (tE E (ah (λps=>sem (ps++Lj)) fs)):=by
 refine(x6 F hr hg hm hk hb hd O ha KP he Kp).imp fun σ H Q q=>fx (K:=il Q) il.g q λB H₀ Hs H1 env LO v sr rp hp=>?_;have r2:aE Hs (LO++Lj) (v++Kz):=rp.append (hdp Hs);have hn:sem (LO++Lj)≠none:=λz=>by rw[z] at hp;exact hp
 refine⟨?_,Hs,LO++Lj,sr.gr.sub,r2,hp⟩;rw[<- r2.length,NW];exact hl LO hn
def tZ(ok:Addr->Bool)(f:Str)(g:ae->M PV):ae->M PV:=λenv=>(g env).bind λp=>match p with
 | .obj C fs=>bG (ok C=true) (eN (fs.lookup f))
 | _=>none
theorem C1{ok:Addr->Bool}{fl:Str}(he:PE X e (tE E g))(bg:∀ C,ok C=true->oU X.K C/\bP X.K C fl)(hb:attributeBase e fl X.env (eval e X.env)=eval e X.env):PE X (.Attribute e fl pos) (tE E (tZ ok fl g)):=by
 refine(DT he hb).imp fun σ H Q q=>bw (K:=il Q) il.g q λB H₀ Hs H1 env p v sr rp hp=>?_;cases rp with
 | obj ha hx =>
  obtain⟨hc,hp⟩:=au.bG hp;obtain⟨x,ex,hp⟩:=au.opt hp;obtain⟨u,h1,h2⟩:=hx.look ex;exact⟨_,_,_,_,u,rfl,sr.gr.sub _ _ ha,(bg _ hc).1,(bg _ hc).2,h1,cj.flat hp sr.gr.sub h2⟩
 | _=>exact hp.elim
def dD(C:Addr)(m:Str)(sem:List PV->M PV)(g:ae->M PV)(fs:ae->M (List PV)):ae->M PV:=λenv=>(g env).bind λp=>match p with
 | .obj C' fl=>bG (C'=C/\fl.lookup m=none) ((fs env).bind λps=>sem (.obj C' fl::ps))
 | _=>none
theorem yO(he:PE X o (tE E g))(c:oU X.K C)(hm:Meth X.K C m f)(F:aP X.prog X.w X.K X.mg X.base (cu X.prog X.w) k f fd ps (fE n sem))(hr:bU k X.A)(hb:Binds X.K fd ps [])(O:eA X E)(hl:∀ ps,sem ps≠none->ps.length=n)
  (ht:autoParam (eval (.Call (.Attribute o m apos) [] [] pos) X.env=(do
   let ov <- eval o X.env
   standAt apos.atName
   let (f,first) <- holding [ov] (getMethod ov m pl)
   callWith pos f first (backTo pos (starEach [] X.env)) (backToKw pos (keywordEach [] X.env)))) aR._auto_1) :
  PE X (.Call (.Attribute o m apos) [] [] pos) (tE E (dD C m sem g ao)):=by
 refine(wJ he c hm F hr hb .nil O ht).imp fun σ H Q q=>bw (K:=il Q) il.g q λB H₀ Hs H1 env p v sr rp hp=>?_;cases rp with
 | @obj a C' dx fl fvs ho hx =>
  obtain⟨⟨e1,hn⟩,G3⟩:=au.bG hp;subst e1;have r2:aE Hs [.obj C' fl] [V.ref a]:=.cons (Rep.obj ho hx) .nil;have Nm:sem [.obj C' fl]≠none:=λz=>by
   have My:au (sem [.obj C' fl]) (cj Hs H1 Q) (XW (E σ) Hs H1):=G3;rw[z] at My;exact My
  exact⟨a,dx,fvs,rfl,sr.gr.sub _ _ ho,hx.none hn,by rw[show ([]:List V)++[]=[] from rfl];exact r2.length▸hl _ Nm,Hs,_,sr.gr.sub,r2,G3⟩
 | _=>exact hp.elim
end
inductive Out where
 | nx (env:ae) | rt (p:PV) | bk (env:ae) | ct (env:ae)
def KS(D:Ends)(B H₀:Hp):Out->Prop
 | .nx env=>∀ σ Hs H,SR B H₀ Hs H σ env->D.nx σ H
 | .rt p=>∀ v Hs H,bx B H₀ Hs H->Rep Hs p v->D.rt v H
 | .bk env=>∀ σ Hs H,SR B H₀ Hs H σ env->D.bk σ H
 | .ct env=>∀ σ Hs H,SR B H₀ Hs H σ env->D.ct σ H
def tS(E:XK)(f:ae->M Out):TS:=λD σ H=>∃ B H₀ Hs env,SR B H₀ Hs H σ env/\au (f env) (KS D B H₀) (XW E B H₀)
theorem PS.imp{st:Stmt}{t t':TS}(h:PS X st t)(i:∀ D σ H,t' D σ H->t D σ H):PS X st t':=λJ2 s σ H D I q=>h J2 s σ H D I (i D σ H q)
theorem jy.imp{st:List Stmt}{t t':TS}(h:jy X st t)(i:∀ D σ H,t' D σ H->t D σ H):jy X st t':=λJ2 s σ H D I q=>h J2 s σ H D I (i D σ H q)
def aj:ae->M Out:=λenv=>M.ok (.nx env)
def xT(g:ae->M Out):Out->M Out
 | .nx env=>g env
 | o=>M.ok o
noncomputable def ak(f g:ae->M Out):ae->M Out:=λenv=>(f env).bind (xT g)
theorem hR{E:XK}{f:ae->M PV}{g:ae->PV->M Out}{D:Ends}{R:VK}(h:tS E (λenv=>(f env).bind (g env)) D σ H)
  (k:∀ B H₀ Hs H1 env p v,SR B H₀ Hs H1 σ env->Rep Hs p v->au (g env p) (KS D B H₀) (XW E B H₀)->R v H1):tE (λ_=>E) f σ H R:=by
 obtain⟨B,H₀,Hs,env,sr,h⟩:=h;refine⟨B,H₀,Hs,env,sr,(au.bind h).imp (λp hp v J7 H' g r=>?_) λe he=>he.grow sr.gr⟩;exact k B H₀ J7 H' env p v (sr.grow g) r hp
theorem yj{E:XK}{f:ae->M Bool}{g:ae->Bool->M Out}{D:Ends}{R:Bool->Hp->Prop}(h:tS E (λenv=>(f env).bind (g env)) D σ H)
  (k:∀ B H₀ Hs H1 env p,SR B H₀ Hs H1 σ env->au (g env p) (KS D B H₀) (XW E B H₀)->R p H1):tT (λ_=>E) f σ H R:=by
 obtain⟨B,H₀,Hs,env,sr,h⟩:=h;refine⟨B,H₀,Hs,env,sr,(au.bind h).imp (λp hp J7 H' g=>?_) λe he=>he.grow sr.gr⟩;exact k B H₀ J7 H' env p (sr.grow g) hp
theorem r_{E:XK}{f:ae->M (List PV)}{g:ae->List PV->M Out}{D:Ends}{R:List V->Hp->Prop}(h:tS E (λenv=>(f env).bind (g env)) D σ H)
  (k:∀ B H₀ Hs H1 env p v,SR B H₀ Hs H1 σ env->aE Hs p v->au (g env p) (KS D B H₀) (XW E B H₀)->R v H1):tL (λ_=>E) f σ H R:=by
 obtain⟨B,H₀,Hs,env,sr,h⟩:=h;refine⟨B,H₀,Hs,env,sr,(au.bind h).imp (λp hp v J7 H' g r=>?_) λe he=>he.grow sr.gr⟩;exact k B H₀ J7 H' env p v (sr.grow g) r hp
theorem SR.set{B H₀ Hs H:Hp}{σ:St}{env:ae}{p:PV}{v:V}{i:Nat}(r:SR B H₀ Hs H σ env)(h:Rep Hs p v):SR B H₀ Hs H (σ.set i (some v)) (env.set i (some (.sh p))) where
 gr:=r.gr
 len:=by rw[OJ,OJ];exact r.len
 sh:=λj q e=>by
  rw[NL] at e ⊢
  by_cases z:i=j
  .subst z;rw[if_pos rfl] at e ⊢
   split at e
   .cases e;rw[if_pos (by rw[r.len];assumption)];exact⟨v,rfl,h⟩
   .cases e
  .rw[if_neg z] at e ⊢;exact r.sh j q e
 ow:=λj xs e=>by
  rw[NL] at e ⊢
  by_cases z:i=j
  .subst z;rw[if_pos rfl] at e
   split at e <;> cases e
  .rw[if_neg z] at e ⊢;exact r.ow j xs e
 sep:=λj k xs ys a n e1 e2 e3 e4=>by
  rw[NL] at e1 e2 e3 e4
  by_cases z:i=j
  .subst z;rw[if_pos rfl] at e1
   split at e1 <;> cases e1
  .by_cases z2:i=k
   .subst z2;rw[if_pos rfl] at e2
    split at e2 <;> cases e2
   .rw[if_neg z] at e1 e3;rw[if_neg z2] at e2 e4;exact r.sep j k xs ys a n e1 e2 e3 e4
 bd:=λj a C fs e=>by
  rw[NL] at e ⊢
  by_cases z:i=j
  .subst z;rw[if_pos rfl] at e
   split at e <;> cases e
  .rw[if_neg z] at e ⊢;exact r.bd j a C fs e
 one:=λj k a b C D fs gs e1 e2=>by
  rw[NL] at e1 e2
  by_cases z:i=j
  .subst z;rw[if_pos rfl] at e1
   split at e1 <;> cases e1
  .by_cases z2:i=k
   .subst z2;rw[if_pos rfl] at e2
    split at e2 <;> cases e2
   .rw[if_neg z] at e1;rw[if_neg z2] at e2;exact r.one j k _ _ C D fs gs e1 e2
theorem SR.own{B:Hp}{env:ae}{p:Addr}(r:SR B H₀ Hs H σ env)(h:aE Hs xs vs)(n:H p=none):SR B H₀ Hs (upd H p (.lst vs)) (σ.set i (some (.ref p))) (env.set i (some (.ow xs))):=by
 have ne:∀ c u,H c=some u->c≠p:=λc u e z=>by rw[z,n] at e;cases e
 have hs:Hs p=none:=by
  cases q:Hs p with
  | none=>rfl
  | some o=>have:=r.gr.sub _ _ q;rw[n] at this;cases this
 have h0:H₀ p=none:=by
  cases q:H₀ p with
  | none=>rfl
  | some o=>have:=r.gr.al _ _ q;rw[n] at this;cases this
 refine⟨⟨r.gr.st,λc u e=>by rw[ar (ne c u (r.gr.al c u e))];exact r.gr.al c u e,λc u e=>by rw[ar (ne c u (r.gr.sub c u e))];exact r.gr.sub c u e,r.gr.nw⟩,by rw[OJ,OJ];exact r.len,λj q e=>?_,λj ys e=>?_,λj k ys zs a nj e1 e2 e3 e4=>?_,λj ba C fs e=>?_,λj k _ _ C D fs gs e1 e2=>?_⟩
 .rw[NL] at e ⊢
  by_cases z:i=j
  .subst z;rw[if_pos rfl] at e
   split at e <;> cases e
  .rw[if_neg z] at e ⊢;exact r.sh j q e
 .rw[NL] at e ⊢
  by_cases z:i=j
  .subst z;rw[if_pos rfl] at e ⊢
   split at e
   .cases e;rw[if_pos (by rw[r.len];assumption)];exact⟨p,vs,rfl,av,hs,h0,h⟩
   .cases e
  .rw[if_neg z] at e ⊢;obtain⟨a,us,h1,h2,h3,h4,h5⟩:=r.ow j ys e;exact⟨a,us,h1,by rw[ar (ne a _ h2)];exact h2,h3,h4,h5⟩
 .rw[NL] at e1 e2 e3 e4
  by_cases z:i=j
  .subst z;rw[if_pos rfl] at e3
   split at e3
   .cases e3;rw[if_neg nj] at e2 e4;obtain⟨a',us,h1,h2,_⟩:=r.ow k zs e2;rw[e4] at h1;cases h1;rw[n] at h2;cases h2
   .cases e3
  .rw[if_neg z] at e1 e3
   by_cases z2:i=k
   .subst z2;rw[if_pos rfl] at e4
    split at e4
    .cases e4;obtain⟨a',us,h1,h2,_⟩:=r.ow j ys e1;rw[e3] at h1;cases h1;rw[n] at h2;cases h2
    .cases e4
   .rw[if_neg z2] at e2 e4;exact r.sep j k ys zs a nj e1 e2 e3 e4
 .rw[NL] at e ⊢
  by_cases z:i=j
  .subst z;rw[if_pos rfl] at e
   split at e <;> cases e
  .rw[if_neg z] at e ⊢;obtain⟨dx,us,h1,h2,h3,h4,h5⟩:=r.bd j ba C fs e;exact⟨dx,us,h1,by rw[ar (ne ba _ h2)];exact h2,h3,h4,h5⟩
 .rw[NL] at e1 e2
  by_cases z:i=j
  .subst z;rw[if_pos rfl] at e1
   split at e1 <;> cases e1
  .by_cases z2:i=k
   .subst z2;rw[if_pos rfl] at e2
    split at e2 <;> cases e2
   .rw[if_neg z] at e1;rw[if_neg z2] at e2;exact r.one j k _ _ C D fs gs e1 e2
def sM(i:Nat)(env:ae):ae:=match env[i]? with
 | some (some (.ow xs))=>env.set i (some (.sh (.lst xs)))
 | _=>env
theorem SR.oO{B:Hp}{env:ae}(i:Nat)(r:SR B H₀ Hs H σ env):∃ J7,SR B H₀ J7 H σ (sM i env)/\aY Hs J7:=by
 unfold sM
 split
 .rename_i xs e;obtain⟨a,vs,h1,h2,h3,h4,h5⟩:=r.ow i xs e;have ne:∀ c u,Hs c=some u->c≠a:=λc u q z=>by rw[z,h3] at q;cases q
  have Ke:aY Hs (upd Hs a (.lst vs)):=λc u q=>by rw[ar (ne c u q)];exact q
  refine⟨upd Hs a (.lst vs),⟨⟨λc u q=>Ke c u (r.gr.st c u q),r.gr.al,λc u q=>?_,λc u q1 q2=>?_⟩,by rw[OJ];exact r.len,λj q ej=>?_,λj ys ej=>?_,λj k ys zs b nj e1 e2 e3 e4=>?_,λj ba C fs ej=>?_,λj k _ _ C D fs gs e1 e2=>?_⟩,Ke⟩
  .by_cases z:c=a
   .subst z;rw[av] at q;cases q;exact h2
   .rw[ar z] at q;exact r.gr.sub c u q
  .have z:c≠a:=λz=>by rw[z,h4] at q2;cases q2
   rw[ar z];exact r.gr.nw c u q1 q2
  .rw[NL] at ej
   by_cases z:i=j
   .subst z;rw[if_pos rfl] at ej
    split at ej
    .cases ej;exact⟨.ref a,h1,.lst av (h5.mono Ke)⟩
    .cases ej
   .rw[if_neg z] at ej;obtain⟨v,q1,q2⟩:=r.sh j q ej;exact⟨v,q1,q2.mono Ke⟩
  .rw[NL] at ej
   by_cases z:i=j
   .subst z;rw[if_pos rfl] at ej
    split at ej <;> cases ej
   .rw[if_neg z] at ej;obtain⟨b,us,q1,q2,q3,q4,q5⟩:=r.ow j ys ej;have nb:b≠a:=λw=>by subst w;exact r.sep i j xs ys b z e ej h1 q1
    exact⟨b,us,q1,q2,by rw[ar nb];exact q3,q4,q5.mono Ke⟩
  .rw[NL] at e1 e2
   by_cases z:i=j
   .subst z;rw[if_pos rfl] at e1
    split at e1 <;> cases e1
   .by_cases z2:i=k
    .subst z2;rw[if_pos rfl] at e2
     split at e2 <;> cases e2
    .rw[if_neg z] at e1;rw[if_neg z2] at e2;exact r.sep j k ys zs b nj e1 e2 e3 e4
  .rw[NL] at ej
   by_cases z:i=j
   .subst z;rw[if_pos rfl] at ej
    split at ej <;> cases ej
   .rw[if_neg z] at ej;obtain⟨dx,us,q1,q2,q3,q4,q5⟩:=r.bd j ba C fs ej;have nb:ba≠a:=λw=>by subst w;rw[h2] at q2;cases q2
    exact⟨dx,us,q1,q2,by rw[ar nb];exact q3,q4,q5.mono Ke⟩
  .rw[NL] at e1 e2
   by_cases z:i=j
   .subst z;rw[if_pos rfl] at e1
    split at e1 <;> cases e1
   .by_cases z2:i=k
    .subst z2;rw[if_pos rfl] at e2
     split at e2 <;> cases e2
    .rw[if_neg z] at e1;rw[if_neg z2] at e2;exact r.one j k _ _ C D fs gs e1 e2
 .exact⟨Hs,r,λ_ _ q=>q⟩
def qd(is:List Nat)(f:ae->M Out):ae->M Out:=λenv=>f (is.foldl (λe i=>sM i e) env)
theorem SR.iX{B H₀ H:Hp}{σ:St}:∀ {is:List Nat} {Hs:Hp} {env:ae},SR B H₀ Hs H σ env->∃ J7,SR B H₀ J7 H σ (is.foldl (λe i=>sM i e) env)/\aY Hs J7
 | [],Hs,_,r=>⟨Hs,r,λ_ _ q=>q⟩
 | i::is,_,_,r=>by
  obtain⟨J9,r1,s1⟩:=r.oO i;obtain⟨Ka,r2,s2⟩:=SR.iX (is:=is) r1;exact⟨Ka,r2,λc u q=>s2 c u (s1 c u q)⟩
section
variable{E:XK}{f:ae->M PV}{st:Stmt}{sts rest:List Stmt}{u:ae->M Bool}{g h:ae->M Out}
theorem Eg(is:List Nat)(hs:PS X st (tS E g)):PS X st (tS E (qd is g)):=hs.imp λD σ H q=>by
 obtain⟨B,H₀,Hs,env,sr,q⟩:=q;obtain⟨J7,r,_⟩:=sr.iX (is:=is);exact⟨B,H₀,J7,_,r,q⟩
theorem AK:jy X [] (tS E aj):=vq.imp λD σ H q=>by
 obtain⟨B,H₀,Hs,env,sr,q⟩:=q;exact q σ Hs H sr
theorem zm(h1:PS X st (tS E g))(h2:jy X rest (tS E h)):jy X (st::rest) (tS E (ak g h)):=by
 refine(rM h1 h2).imp λD σ H q=>?_;obtain⟨B,H₀,Hs,env,sr,q⟩:=q;refine⟨B,H₀,Hs,env,sr,(au.bind q).imp (λo ho=>?_) λe he=>he⟩;cases o with
 | nx J5=>exact fun σ' J7 H' Li=>⟨B,H₀,J7,J5,Li,ho⟩
 | rt p=>exact ho
 | bk J5=>exact ho
 | ct J5=>exact ho
def bc(i:Nat)(f:ae->M PV):ae->M Out:=λenv=>(f env).bind λp=>M.ok (.nx (env.set i (some (.sh p))))
theorem CK(hN:X.N.Nodup)(hi:X.N[i]?=some x)(hx:Loc X.env.scope x)(he:PE X e (tE (λ_=>E) f))(hs:autoParam (swapsWith e (some (.Name x pos')) pos.line X.env=pure false) aR._auto_1)(hf:autoParam (X.fn x=true\/X.env.scope.names.lookup x=some .local) aF._auto_1) :
  PS X (.Assign [.Name x pos'] e pos) (tS E (bc i f)) :=
 (uh hN hi hx he hs hf).imp λD σ H q=>hR q λB H₀ Hs H1 env p v sr rp hp=>hp _ Hs H1 (sr.set rp)
def retS(f:ae->M PV):ae->M Out:=λenv=>(f env).bind λp=>M.ok (.rt p)
theorem D1(he:PE X e (tE (λ_=>E) f)):PS X (.Return (some e) pos) (tS E (retS f)) :=
 (DJ he).imp λD σ H q=>hR q λB H₀ Hs H1 env p v sr rp hp=>hp v Hs H1 sr.gr rp
def mX(f:ae->M PV):ae->M Out:=λenv=>(f env).bind λ_=>M.ok (.nx env)
theorem B0(he:PE X e (tE (λ_=>E) f))(hs:autoParam (swapsWith e none pos.line X.env=pure false) aR._auto_1):PS X (.Expr e pos) (tS E (mX f)) :=
 (vM he hs).imp λD σ H q=>hR q λB H₀ Hs H1 env p v sr rp hp=>hp σ Hs H1 sr
def dG(u:ae->M Bool)(g h:ae->M Out):ae->M Out:=λenv=>(u env).bind λb=>if b=true then g env else h env
theorem Gu{a b:List Stmt}(hc:PT X c (tT (λ_=>E) u))(ha:jy X a (tS E g))(hb:jy X b (tS E h)):PS X (.If c a b pos) (tS E (dG u g h)):=by
 refine(GO hc ha hb).imp λD σ H q=>yj q λB H₀ Hs H1 env p sr hp=>?_;cases p with
 | true=>exact⟨B,H₀,Hs,env,sr,hp⟩
 | false=>exact⟨B,H₀,Hs,env,sr,hp⟩
end
def ov(Hs H₀:Hp):Hp:=λa=>match Hs a with
 | some o=>some o
 | none=>H₀ a
theorem my{o:HO}(h:Hs a=some o):ov Hs H₀ a=some o:=by unfold ov;rw[h]
theorem ip(h:Hs a=none):ov Hs H₀ a=H₀ a:=by unfold ov;rw[h]
theorem Ay(s:aY Hs H)(t:aY H₀ H):aY (ov Hs H₀) H:=λa o e=>by
 cases q:Hs a with
 | some o'=>rw[my q] at e;cases e;exact s _ _ q
 | none=>rw[ip q] at e;exact t _ _ e
theorem SR.rebase{B:Hp}{env:ae}(r:SR B H₀ Hs H σ env):SR Hs (ov Hs H₀) Hs H σ env where
 gr:=⟨λ_ _ e=>e,Ay r.gr.sub r.gr.al,r.gr.sub,λ_ _ e _=>e⟩
 len:=r.len
 sh:=r.sh
 ow:=λi xs e=>let ⟨a,vs,h1,h2,h3,h4,h5⟩:=r.ow i xs e;⟨a,vs,h1,h2,h3,by rw[ip h3];exact h4,h5⟩
 sep:=r.sep
 bd:=λi a C fs e=>let ⟨dx,vs,h1,h2,h3,h4,h5⟩:=r.bd i a C fs e;⟨dx,vs,h1,h2,h3,by rw[ip h3];exact h4,h5⟩
 one:=r.one
theorem bx.jH{B Ka H2:Hp}(g:bx B H₀ Hs H)(g2:bx Hs (ov Hs H₀) Ka H2):bx B H₀ Ka H2 where
 st:=λa o e=>g2.st a o (g.st a o e)
 al:=λa o e=>by
  cases q:Hs a with
  | some o' =>
   have h1:=g.sub a o' q;have h2:=g.al a o e;rw[h1] at h2;cases h2;exact g2.al a _ (my q)
  | none=>exact g2.al a o (by rw[ip q];exact e)
 sub:=g2.sub
 nw:=λa o e q=>by
  have h1:=g.nw a o e q;exact g2.nw a o h1 (by rw[ip h1];exact q)
theorem SR.jH{B H₀ Hs H Ka H2:Hp}{σ:St}{env:ae}(g:bx B H₀ Hs H)(r:SR Hs (ov Hs H₀) Ka H2 σ env):SR B H₀ Ka H2 σ env where
 gr:=g.jH r.gr
 len:=r.len
 sh:=r.sh
 ow:=λi xs e=>by
  obtain⟨a,vs,h1,h2,h3,h4,h5⟩:=r.ow i xs e;refine⟨a,vs,h1,h2,h3,?_,h5⟩;cases q:Hs a with
  | some o=>rw[my q] at h4;cases h4
  | none=>rw[ip q] at h4;exact h4
 sep:=r.sep
 bd:=λi a C fs e=>by
  obtain⟨dx,vs,h1,h2,h3,h4,h5⟩:=r.bd i a C fs e;refine⟨dx,vs,h1,h2,h3,?_,h5⟩;cases q:Hs a with
  | some o=>rw[my q] at h4;cases h4
  | none=>rw[ip q] at h4;exact h4
 one:=r.one
theorem XW.rebase{E:XK}{B:Hp}(g:bx B H₀ Hs H){x:EX}(h:XW E B H₀ x):XW E Hs (ov Hs H₀) x:=λea Ka H2 r q=>h ea Ka H2 (g.jH r) q
def zL(k:ae->M Out):Out->M Out
 | .nx env=>k env
 | .ct env=>k env
 | .bk env=>M.ok (.nx env)
 | .rt p=>M.ok (.rt p)
def gF(set:PV->ae->M ae)(body:ae->M Out):List PV->ae->M Out
 | [],env=>M.ok (.nx env)
 | x::xs,env=>(set x env).bind λJ5=>(body J5).bind (zL (gF set body xs))
def u9(E:XK)(g:TG)(set:PV->ae->M ae):Prop:=∀ (B H₀ Hs H:Hp) (σ:St) (env:ae) (p:PV) (v:V) (Q:St->Hp->Prop) (Z:EX->Prop),SR B H₀ Hs H σ env->Rep Hs p v->au (set p env) (λJ5=>∀ σ',SR B H₀ Hs H σ' J5->Q σ' H) Z->g v σ H Q
def bD(i:Nat)(p:PV)(env:ae):M ae:=M.ok (env.set i (some (.sh p)))
theorem aX{E:XK}:u9 E (aM i) (bD i):=λB H₀ Hs H σ env p v Q Z sr r h=>h _ (sr.set r)
def gg(i j:Nat):PV->ae->M ae
 | .tup [p,q],env=>M.ok ((env.set i (some (.sh p))).set j (some (.sh q)))
 | _,_=>none
theorem iu{E:XK}{K:PySem.W.Frag}:u9 E (nR K 2 (cV (aM i) (cV (aM j) nr))) (gg i j):=by
 intro B H₀ Hs H σ env p v Q Z sr r h;cases r with
 | @tup a xs vs ha hx =>
  match xs,hx with
  | [p,q],hx =>
   obtain⟨v,u,rfl,rp,rq⟩:=hx.two;exact⟨a,[v,u],rfl,gx.of (sr.gr.sub _ _ ha),rfl,v,[u],rfl,u,[],rfl,rfl,h _ ((sr.set rp).set rq)⟩
  | [],_=>exact h.elim
  | [_],_=>exact h.elim
  | _::_::_::_,_=>exact h.elim
 | _=>exact h.elim
section
variable{E:XK}{g:TG}{set:PV->ae->M ae}{body:ae->M Out}{D:Ends}{B:Hp}
def Jv(E:XK)(set:PV->ae->M ae)(body:ae->M Out)(D:Ends)(B H₀ J9:Hp)(xs:List PV)(i:Nat)(σ:St)(H:Hp):Prop:=∃ Hs env,SR B H₀ Hs H σ env/\aY J9 Hs/\au (gF set body (xs.drop i) env) (KS D B H₀) (XW E B H₀)
theorem Jv.done(j:Jv E set body D B H₀ J9 xs n σ H)(hn:xs.length<=n):D.nx σ H:=by
 obtain⟨Hs,env,sr,_,h⟩:=j;rw[O8 hn] at h;exact h σ Hs H sr
theorem Jv.turn{H1 Hx:Hp}{x:PV}(tg:u9 E g set)(hx:xs[i]?=some x){env:ae}(sr:SR B H₀ Hs H σ env)(s1:aY J9 Hs)(h:au (gF set body (xs.drop i) env) (KS D B H₀) (XW E B H₀)){Ka H2:Hp}(gr:bx Hs H Ka H2)(rv:Rep Ka x v) :
  g v σ H2 fun σ2 H3=>tS E body { D with nx:=Jv E set body D B H₀ J9 xs (i+1),ct:=Jv E set body D B H₀ J9 xs (i+1),bk:=D.nx } σ2 H3:=by
 have Kv:i<xs.length:=(ON.mp hx).1;have hd:xs.drop i=x::xs.drop (i+1):=by
  rw[Pq Kv];rw[NG Kv] at hx;rw[NX hx]
 rw[hd] at h;have Km:=sr.grow gr;refine tg B H₀ Ka H2 σ env x v _ _ Km rv ((au.bind h).imp (λJ5 h' σ' Li=>?_) λ_ z=>z);refine⟨Ka,ov Ka H₀,Ka,J5,Li.rebase,(au.bind h').imp (λo ho=>?_) λe he=>he.rebase Li.gr⟩;cases o with
 | nx e2=>exact fun σ3 K_ H3 r=>⟨K_,e2,r.jH Li.gr,λa o z=>r.gr.st a o (gr.st a o (s1 a o z)),ho⟩
 | ct e2=>exact fun σ3 K_ H3 r=>⟨K_,e2,r.jH Li.gr,λa o z=>r.gr.st a o (gr.st a o (s1 a o z)),ho⟩
 | bk e2=>exact fun σ3 K_ H3 r=>ho σ3 K_ H3 (r.jH Li.gr)
 | rt p=>exact λv3 K_ H3 r q=>ho v3 K_ H3 (Li.gr.jH r) q
end
def jE(it:ae->M (List PV))(set:PV->ae->M ae)(body:ae->M Out):ae->M Out:=λenv=>(it env).bind λxs=>gF set body xs env
def itemsOf(f:ae->M PV):ae->M (List PV):=λenv=>(f env).bind λp=>match bR p with | some xs=>M.ok xs | none=>none
theorem qo{K:PySem.W.Frag}(s:aY Hs H)(r:Rep Hs p v)(e:bR p=some xs):∃ b a vs,v=.ref a/\(∀ J7 H',aY Hs J7->aY J7 H'->tm K H' b a vs)/\aE Hs xs vs:=by
 cases r with
 | tup h r=>cases e;exact⟨false,_,_,rfl,λJ7 H' s1 s2=>gx.of (s2 _ _ (s1 _ _ h)),r⟩
 | lst h r=>cases e;exact⟨true,_,_,rfl,λJ7 H' s1 s2=>gK.of (s2 _ _ (s1 _ _ h)),r⟩
 | gX h r=>cases e;exact⟨true,_,_,rfl,λJ7 H' s1 s2=>.inl (.inr ⟨_,s2 _ _ (s1 _ _ h)⟩),r⟩
 | _=>cases e
section
variable{E:XK}{p:Pos}{f f2:ae->M PV}{g:TG}{set:PV->ae->M ae}{body:ae->M Out}{bd:List Stmt}
end
def II:PV->M (List PV)
 | .int n=>bG (-(2^62)<=n/\n<2^62) (M.ok ((N2 n.toNat).map λ(i:Nat)=>.int (0+(i:Int))))
 | _=>none
def lG:List PV->M (List PV)
 | [p]=>II p
 | _=>none
variable{Z:EX->Prop}
theorem xv{ps:List PV}{k:List PV->M α}{Q:α->Prop}(h:au ((lG ps).bind k) Q Z):∃ n:Int,ps=[.int n]/\-(2^62)<=n/\n<2^62/\au (k ((N2 n.toNat).map λ(i:Nat)=>.int (0+(i:Int)))) Q Z:=by
 match ps with
 | []=>exact h.elim
 | _::_::_=>exact h.elim
 | [p] =>
  cases p with
  | int n =>
   obtain⟨hc,h⟩:=au.bG (au.bind h);exact⟨n,rfl,hc.1,hc.2,h⟩
  | _=>exact h.elim
def zip2:List PV->M (List PV)
 | [p,q]=>match bR p,bR q with
  | some xs,some ys=>M.ok (Q2 (λa b=>.tup [a,b]) xs ys)
  | _,_=>none
 | _=>none
theorem wm{ps:List PV}{k:List PV->M α}{Q:α->Prop}(h:au ((zip2 ps).bind k) Q Z):∃ p q xs ys,ps=[p,q]/\bR p=some xs/\bR q=some ys/\au (k (Q2 (λa b=>.tup [a,b]) xs ys)) Q Z:=by
 match ps with
 | []=>exact h.elim
 | [_]=>exact h.elim
 | _::_::_::_=>exact h.elim
 | [p,q] =>
  unfold zip2 at h;dsimp only at h;cases e1:bR p with
  | none=>rw[e1] at h;exact h.elim
  | some xs =>
   cases e2:bR q with
   | none=>rw[e1,e2] at h;exact h.elim
   | some ys=>rw[e1,e2] at h;exact⟨p,q,xs,ys,rfl,e1,e2,h⟩
theorem w5{f:Nat->PV}(h:i<n):((N2 n).map f)[i]?=some (f i):=by
 rw[NZ,List.getElem?_range h];rfl
section
variable{E:XK}{a b l l1 l2:Expr}{p tp:Pos}{fs:ae->M (List PV)}{g:TG}{set:PV->ae->M ae}{body:ae->M Out}{bd:List Stmt}
end
def KO(Q:VK):Hp->Hp->List PV->Prop:=λHs H ps=>∀ vs p J7 H',bx Hs H J7 H'->aE J7 ps vs->H' p=none->Q (.ref p) (upd H' p (.lst vs))
def tO(E:St->XK)(f:ae->M (List PV)):TE:=fun σ H Q=>tG E f (KO Q) σ H
section
variable{E:XK}{fs:ae->M (List PV)}{f:ae->M PV}
def oj(i:Nat)(f:ae->M (List PV)):ae->M Out:=λenv=>(f env).bind λps=>M.ok (.nx (env.set i (some (.ow ps))))
theorem AW(hN:X.N.Nodup)(hi:X.N[i]?=some x)(hx:Loc X.env.scope x)(he:PE X e (tO (λ_=>E) fs))(hs:autoParam (swapsWith e (some (.Name x pos')) pos.line X.env=pure false) aR._auto_1)(hf:autoParam (X.fn x=true\/X.env.scope.names.lookup x=some .local) aF._auto_1) :
  PS X (.Assign [.Name x pos'] e pos) (tS E (oj i fs)):=by
 refine(uh hN hi hx he hs hf).imp λD σ H q=>?_;obtain⟨B,H₀,Hs,env,sr,q⟩:=q;refine⟨B,H₀,Hs,env,sr,(au.bind q).imp (λps hp vs p J7 H' g r n=>?_) λe he=>he.grow sr.gr⟩;exact hp _ J7 _ ((sr.grow g).own r n)
def i5(fs:ae->M (List PV)):ae->M (List PV):=λenv=>(fs env).bind λps=>if ps.length<=sizeLine then M.ok ps else none
theorem EV{E:St->XK}(hr:PA X es (tL E fs)):PE X (.List es pos) (tO E (i5 fs)):=by
 refine(yN hr).imp fun σ H Q q=>?_;obtain⟨B,H₀,Hs,env,sr,q⟩:=q;refine⟨B,H₀,Hs,env,sr,(au.bind q).imp (λps hp vs J7 H' g r=>?_) λe he=>he⟩
 by_cases hz:ps.length<=sizeLine
 .rw[if_pos hz] at hp;exact⟨by rw[<- r.length];exact hz,λp n=>hp vs p J7 H' g r n⟩
 .rw[if_neg hz] at hp;exact hp.elim
def n9(i:Nat)(f:ae->M PV):ae->M Out:=λenv=>match env[i]? with
 | some (some (.ow xs))=>(f env).bind λp=>if xs.length<sizeLine then M.ok (.nx (env.set i (some (.ow (xs++[p]))))) else none
 | _=>none
theorem SR.put{B:Hp}{env:ae}{ys:List PV}{us:List V}(r:SR B H₀ Hs H σ env)(e:env[i]?=some (some (.ow xs)))(hi:σ[i]?=some (some (.ref a)))(h:aE Hs ys us):SR B H₀ Hs (upd H a (.lst us)) σ (env.set i (some (.ow ys))):=by
 obtain⟨a',vs,h1,h2,h3,h4,h5⟩:=r.ow i xs e;rw[hi] at h1;cases h1;have nS:∀ c u,Hs c=some u->c≠a:=λc u q z=>by rw[z,h3] at q;cases q
 have n0:∀ c u,H₀ c=some u->c≠a:=λc u q z=>by rw[z,h4] at q;cases q
 refine⟨⟨r.gr.st,λc u q=>by rw[ar (n0 c u q)];exact r.gr.al c u q,λc u q=>by rw[ar (nS c u q)];exact r.gr.sub c u q,r.gr.nw⟩,by rw[OJ];exact r.len,λj q ej=>?_,λj zs ej=>?_,λj k y1 y2 b nj e1 e2 e3 e4=>?_,λj ba C fs ej=>?_,λj k _ _ C D fs gs e1 e2=>?_⟩
 .rw[NL] at ej
  by_cases z:i=j
  .subst z;rw[if_pos rfl] at ej
   split at ej <;> cases ej
  .rw[if_neg z] at ej;exact r.sh j q ej
 .rw[NL] at ej
  by_cases z:i=j
  .subst z;rw[if_pos rfl] at ej
   split at ej
   .cases ej;exact⟨a,us,hi,av,h3,h4,h⟩
   .cases ej
  .rw[if_neg z] at ej;obtain⟨b,ws,q1,q2,q3,q4,q5⟩:=r.ow j zs ej;have nb:b≠a:=λw=>by subst w;exact r.sep i j xs zs b z e ej hi q1
   exact⟨b,ws,q1,by rw[ar nb];exact q2,q3,q4,q5⟩
 .have o1:∃ w,env[j]?=some (some (.ow w)):=by
   rw[NL] at e1
   by_cases z:i=j
   .subst z;exact⟨xs,e⟩
   .rw[if_neg z] at e1;exact⟨_,e1⟩
  have o2:∃ w,env[k]?=some (some (.ow w)):=by
   rw[NL] at e2
   by_cases z:i=k
   .subst z;exact⟨xs,e⟩
   .rw[if_neg z] at e2;exact⟨_,e2⟩
  obtain⟨w1,o1⟩:=o1;obtain⟨w2,o2⟩:=o2;exact r.sep j k w1 w2 b nj o1 o2 e3 e4
 .rw[NL] at ej
  by_cases z:i=j
  .subst z;rw[if_pos rfl] at ej
   split at ej <;> cases ej
  .rw[if_neg z] at ej;obtain⟨dx,ws,q1,q2,q3,q4,q5⟩:=r.bd j ba C fs ej;have nb:ba≠a:=λw=>by subst w;rw[h2] at q2;cases q2
   exact⟨dx,ws,q1,by rw[ar nb];exact q2,q3,q4,q5⟩
 .rw[NL] at e1 e2
  by_cases z:i=j
  .subst z;rw[if_pos rfl] at e1
   split at e1 <;> cases e1
  .by_cases z2:i=k
   .subst z2;rw[if_pos rfl] at e2
    split at e2 <;> cases e2
   .rw[if_neg z] at e1;rw[if_neg z2] at e2;exact r.one j k _ _ C D fs gs e1 e2
theorem wX{px:Pos}(hi:X.N[i]?=some x)(hv:yW X.env.scope x)(he:PE X e (tE (λ_=>E) f))(hd:autoParam ((x==("__debug__" : Str))=false) aD._auto_1)(K5:autoParam ((x==("__classdict__" : Str))=false) aD._auto_1)
  (KQ:autoParam (attributeBase (.Name x px) "append" X.env (eval (.Name x px) X.env)=eval (.Name x px) X.env) aR._auto_1)
  (LG:autoParam (((backTo J_ (starEach [e] X.env)).all (λx=>!x.1)&&(backToKw J_ (keywordEach [] X.env)).all (λx=>x.1.isSome)
   && decide (([e]:List Expr).length+([]:List Keyword).length+(if ([]:List Keyword).isEmpty then 0 else 1)<30))=true) aR._auto_1)
  (KR:autoParam ((apos.endLine==J_.line)=true) aR._auto_1) (Ke:autoParam (starEach [e] X.env=(false,eval e X.env)::starEach [] X.env) aR._auto_1) (Kt:autoParam ((backTo J_ (starEach [] X.env)).any (·.1)=false) aR._auto_1)
  (hs:autoParam (swapsWith (.Call (.Attribute (.Name x px) "append" apos) [e] [] J_) none pos.line X.env=pure false) aR._auto_1) :
  PS X (.Expr (.Call (.Attribute (.Name x px) "append" apos) [e] [] J_) pos) (tS E (n9 i f)):=by
 refine(vM (v_ PySem.F.plainAttrs_list PySem.F.slot_list_append PySem.F.type_list_append lq (ll hi hv hd K5) (bZ he gk Ke) KQ LG KR Ke Kt) hs).imp λD σ H q=>?_;obtain⟨B,H₀,Hs,env,sr,q⟩:=q;unfold n9 at q
 split at q
 .rename_i xs ex;obtain⟨a,vs,h1,h2,h3,h4,h5⟩:=sr.ow i xs ex;refine⟨.ref a,h1,.inl ⟨rfl,vs,gK.of h2⟩,B,H₀,Hs,env,sr,(au.bind q).imp (λp hp v J7 H' g r=>?_) λe he=>he.grow sr.gr⟩
  by_cases hz:xs.length<sizeLine
  .rw[if_pos hz] at hp;have Li:=sr.grow g;have r5:aE J7 (xs++[p]) (vs++[v]):=(h5.mono g.st).snoc r;exact⟨a,vs,v,rfl,rfl,g.al _ _ h2,by rw[<- h5.length];exact hz,hp σ J7 _ (Li.put ex h1 r5)⟩
  .rw[if_neg hz] at hp;exact hp.elim
 .exact q.elim
end
def Fh:Out->M PV
 | .rt p=>M.ok p
 | .nx _=>M.ok .bH
 | _=>none
def bQ(m:Nat)(ps:List PV):ae:=ps.map (λp=>some (.sh p))++NV (m-ps.length) none
def az(m:Nat)(g:ae->M Out)(ps:List PV):M PV:=(g (bQ m ps)).bind Fh
theorem SR.start{Hs H:Hp}{N:List Str}{ps:List PV}{vs:List V}(s:aY Hs H)(r:aE Hs ps vs):SR Hs H Hs H (start N vs) (bQ N.length ps) where
 gr:=.refl s
 len:=by unfold L2.start bQ;simp[r.length]
 sh:=λi p e=>by
  unfold bQ at e;unfold L2.start
  by_cases hi:i<ps.length
  .rw[Ob (by simpa using hi),NZ,NG hi] at e;cases e;obtain⟨v,h1,h2⟩:=r.get (NG hi);exact⟨v,by rw[Ob (by simpa using (r.length▸hi)),NZ,h1];rfl,h2⟩
  .rw[N6 (by simpa using hi),OG] at e
   split at e <;> cases e
 ow:=λi xs e=>by
  unfold bQ at e
  by_cases hi:i<ps.length
  .rw[Ob (by simpa using hi),NZ,NG hi] at e;cases e
  .rw[N6 (by simpa using hi),OG] at e
   split at e <;> cases e
 sep:=λi j xs ys a _ e=>by
  unfold bQ at e
  by_cases hi:i<ps.length
  .rw[Ob (by simpa using hi),NZ,NG hi] at e;cases e
  .rw[N6 (by simpa using hi),OG] at e
   split at e <;> cases e
 bd:=λi a C fs e=>by
  unfold bQ at e
  by_cases hi:i<ps.length
  .rw[Ob (by simpa using hi),NZ,NG hi] at e;cases e
  .rw[N6 (by simpa using hi),OG] at e
   split at e <;> cases e
 one:=λi j a b C D fs gs e=>by
  unfold bQ at e
  by_cases hi:i<ps.length
  .rw[Ob (by simpa using hi),NZ,NG hi] at e;cases e
  .rw[N6 (by simpa using hi),OG] at e
   split at e <;> cases e
theorem C7{K:PySem.W.Frag}{dV kV doc pm Kj ct oc:Value}{g:ae->M Out}(lk:K.lookup f=some ⟨oc,od,.func (PySem.W.fnOf name qual params body scope dV kV doc pm an Kj ct),Mv⟩)(K5:PySem.W.codeIn K Kj qual=true)(S:cB N ps scope)
  (hb:∀ (A:Around) (outer:List Env) (s:Shared) (H:Hp) (E:XK),bU k (A.deeper (envOfC qual scope s.heap.objs.size f Kj))->jy ((ko (cu P w) P w K mg base N qual scope f Kj A outer s H E).out λ_=>E) body (tS E g)) :
  aP P w K mg base (cu P w) (k+1) f (PySem.W.fnOf name qual params body scope dV kV doc pm an Kj ct) ps (fE ps.length (az N.length g)):=by
 refine uF lk K5 S (λvs H Q E h=>h.1) λA outer s H vs Q E hr hs=>⟨_,hb A outer s H E hr,?_⟩
 obtain⟨_,Hs,LO,sm,r,h⟩:=hs;refine⟨Hs,H,Hs,_,SR.start sm r,(au.bind h).imp (λo ho=>?_) λe he=>he⟩;cases o with
 | rt p=>exact λv J7 H' gr rv=>ho v J7 H' gr rv
 | nx env=>exact fun σ J7 H' sr=>ho .bH J7 H' sr.gr .bH
 | bk env=>exact ho.elim
 | ct env=>exact ho.elim
section
variable{E:XK}{p:Pos}{fs:ae->M (List PV)}
def eR(C:Addr)(fs:ae->M (List PV)):ae->M Out:=λenv=>(fs env).bind λps=>bG (ps.length<=sizeLine) (some (.error (C,none)))
theorem we(O:eA X λ_=>E)(J8:X.calm=true)(hc:PySem.W.excIn X.K C eO "ValueError.__new__" = true)(c:ez X.K C)(ht:PySem.W.typeIn X.K (.ref C)=some (.type "type"))(kp:PySem.W.keepIn X.K (.ref C)=true)(hg:Gl X x)(hm:X.mg x=some (.ref C))(ha:PA X (e::es) (tL (λ_=>E) fs))
  (KP:autoParam ((x==("__debug__" : Str))=false) aD._auto_1) (he:autoParam (starEach (e::es) X.env=(false,eval e X.env)::starEach es X.env) aR._auto_1) (Kp:autoParam ((backTo J_ (starEach es X.env)).any (·.1)=false) aR._auto_1) :
  PS X (.Raise (some (.Call (.Name x p) (e::es) [] J_)) none pos) (tS E (eR C fs)):=by
 refine(sd O J8 (Az hc kp hg hm ha KP he Kp)).imp λD σ H q=>r_ q λB H₀ Hs H1 env LO v sr rp hp=>?_;obtain⟨hz,hp⟩:=au.bG hp;refine⟨by rw[<- rp.length];exact hz,λa n=>⟨a,C,none,rfl,av,c,ht,?_⟩⟩;rw[vi];exact hp a (upd Hs a (dU C none a)) _ (sr.gr.trans (bx.new sr.gr.sub n)) (.t_ av)
def wy(K:PySem.W.Frag)(C:Addr)(fl:Str):Sp:=λvs H Q _=>∃ a y,vs=[.ref a,y]/\H a=some (iE C none a)/\∀ d,H d=none->d≠a->Q .bH (upd (upd H d (.xd [(fl,y)])) a (iE C (some d) a))
def fI(C:Addr)(fl:Str)(fs:ae->M (List PV)):ae->M Out:=λenv=>(fs env).bind λps=>match ps with
 | [p]=>some (.error (C,some [(fl,p)]))
 | _=>none
theorem wu{fl:Str}(O:eA X λ_=>E)(J8:X.calm=true)(hc:mP X.K C "ValueError.__new__" f=true)(hf:PySem.W.isFn X.K (.ref f)=true)(c:ez X.K C)(ht:PySem.W.typeIn X.K (.ref C)=some (.type "type"))(kp:PySem.W.keepIn X.K (.ref C)=true)(F:aP X.prog X.w X.K X.mg X.base (cu X.prog X.w) k f fd ps (wy X.K C fl))(hr:bU (k+1) X.A)(hb:Binds X.K fd ps [])
  (hg:Gl X x) (hm:X.mg x=some (.ref C)) (ha:PA X [e] (tL (λ_=>E) fs))
  (KP:autoParam ((x==("__debug__" : Str))=false) aD._auto_1) (he:autoParam (starEach [e] X.env=(false,eval e X.env)::starEach [] X.env) aR._auto_1) (Kp:autoParam ((backTo J_ (starEach [] X.env)).any (·.1)=false) aR._auto_1) :
  PS X (.Raise (some (.Call (.Name x p) [e] [] J_)) none pos) (tS E (fI C fl fs)):=by
 refine(sd O J8 (yF hc hf kp F hr hb hg hm ha KP he Kp)).imp λD σ H q=>r_ q λB H₀ Hs H1 env LO v sr rp hp=>?_
 match LO,rp,hp with
 | [],_,hp=>exact hp.elim
 | _::_::_,_,hp=>exact hp.elim
 | [y],rp,hp =>
  obtain⟨v,rfl,ry⟩:=rp.one;refine⟨by show 1<=sizeLine;decide,λa n=>⟨a,v,rfl,av,λd hd hda=>⟨rfl,a,C,some d,rfl,av,c,ht,?_⟩⟩⟩;rw[vi];have hd1:H1 d=none:=by rw[ar hda] at hd;exact hd
  have g1:=bx.new (o:=.xd [(fl,v)]) sr.gr.sub hd1;have MC:upd H1 d (.xd [(fl,v)]) a=none:=by rw[ar (O4 hda)];exact n
  have g2:=bx.new (o:=dU C (some d) a) g1.sub MC;have hH:upd (upd (upd H1 a (iE C none a)) d (.xd [(fl,v)])) a (dU C (some d) a)=upd (upd H1 d (.xd [(fl,v)])) a (dU C (some d) a):=by
   funext b
   by_cases z:b=a
   .subst z;rw[av,av]
   .rw[ar z,ar z]
    by_cases z2:b=d
    .subst z2;rw[av,av]
    .rw[ar z2,ar z2,ar z]
  rw[hH];refine hp a (upd (upd Hs d (.xd [(fl,v)])) a (dU C (some d) a)) _ ((sr.gr.trans g1).trans g2) ?_;exact .sJ av (by rw[ar hda];exact av) (.cons ((ry.mono g1.st).mono g2.st) .nil)
theorem nq{K:PySem.W.Frag}{dV kV doc pm Kj ct oc:Value}{n0 n1 fl:Str}{p0 p1 p2 p3:Pos}(lk:K.lookup f=some ⟨oc,od,.func (PySem.W.fnOf name qual params [.Assign [.Attribute (.Name n0 p0) fl p1] (.Name n1 p2) p3] scope dV kV doc pm an Kj ct),Mv⟩)(K5:PySem.W.codeIn K Kj qual=true)(S:cB [n0,n1] [n0,n1] scope)
  (c:ez K C) (ho:((PySem.W.clsIn K C).any λcd=>fV cd.mro)=true) (na:bP K C fl) (v0:yW scope n0) (v1:yW scope n1) (d0:(n0==("__debug__" : Str))=false) (d1:(n1==("__debug__" : Str))=false) (c0:(n0==("__classdict__" : Str))=false) (c1:(n1==("__classdict__" : Str))=false)
  (hs:∀ env,swapsWith (.Name n1 p2) (some (.Attribute (.Name n0 p0) fl p1)) p3.line env=pure false) :
  aP P w K mg base (cu P w) 1 f (PySem.W.fnOf name qual params [.Assign [.Attribute (.Name n0 p0) fl p1] (.Name n1 p2) p3] scope dV kV doc pm an Kj ct) [n0,n1] (wy K C fl):=by
 refine uF (k:=0) lk K5 S (λvs H Q E h=>by obtain⟨a,y,rfl,_⟩:=h;rfl) λA outer s H vs Q E hr h=>?_;obtain⟨a,y,rfl,ha,hq⟩:=h;refine⟨_,BB (yr (ll (i:=0) rfl v0 d0 c0) (ll (i:=1) rfl v1 d1 c1) (hs _)),?_⟩;exact⟨y,rfl,.ref a,rfl,a,C,rfl,ha,c,ho,na,hq⟩
end
structure jC (J:It) (J9:Hp) (xs:List PV):Prop where
 stop:∀ (i:Nat) (Hs H:Hp),aY J9 Hs->aY Hs H->xs.length<=i->J.stop i H
 go:∀ (i:Nat) (Hs H:Hp),aY J9 Hs->aY Hs H->i<xs.length->J.go i H
 rD:∀ (i:Nat) (Hs H:Hp) (x:V) (H2:Hp),aY J9 Hs->aY Hs H->i<xs.length->J.rD i H x H2->∃ p Ka,xs[i]?=some p/\bx Hs H Ka H2/\Rep Ka p x
def KI(R:It->Hp->Prop):Hp->Hp->List PV->Prop:=λHs H xs=>∀ J J7 H',bx Hs H J7 H'->jC J J7 xs->R J H'
def uY(E:St->XK)(wi:TI)(it:ae->M (List PV)):Prop:=∀ (σ:St) (H:Hp) (R:It->Hp->Prop),tG E it (KI R) σ H->wi σ H R
theorem KI.g{R:It->Hp->Prop}:KG (KI R):=λHs H J7 H' b k g J Ka H2 g2 o=>k J Ka H2 (g.trans g2) o
section
variable{K:PySem.W.Frag}{f:ae->M PV}{fs:ae->M (List PV)}
theorem zR(hq:∀ J7 H',aY J9 J7->aY J7 H'->tm K H' b a vs)(hr:aE J9 xs vs):jC (I_ K b a) J9 xs where
 stop:=λi Hs H s1 s2 hi=>by
  have q:=hq Hs H s1 s2;cases b with
  | true=>exact⟨vs,q,by rw[<- hr.length];exact hi⟩
  | false=>exact⟨vs,q,by rw[<- hr.length];exact hi⟩
 go:=λi Hs H s1 s2 hi=>by
  have q:=hq Hs H s1 s2;obtain⟨v,e,_⟩:=hr.get (NG hi);cases b with
  | true=>exact⟨vs,v,q,e⟩
  | false=>exact⟨vs,v,q,e⟩
 rD:=λi Hs H x H2 s1 s2 hi y=>by
  have q:=hq Hs H s1 s2;obtain⟨v,e,r⟩:=hr.get (NG hi);have z:H2=H/\vs[i]?=some x:=by
   cases b with
   | true=>exact⟨y.1,y.2 vs q⟩
   | false=>exact⟨y.1,y.2 vs q⟩
  obtain⟨rfl,z⟩:=z;rw[e] at z;cases z;exact⟨xs[i],Hs,NG hi,.refl s2,r.mono s1⟩
theorem cz:uY E (Fy K (tE E f)) (itemsOf f):=by
 intro σ H R q;refine bw (K:=KI R) KI.g q λB H₀ Hs H1 env p v sr rp hp=>?_;cases e:bR p with
 | none=>rw[e] at hp;exact hp.elim
 | some xs =>
  rw[e] at hp;obtain⟨b,a,vs,rfl,hq,hr⟩:=qo (K:=K) sr.gr.sub rp e;exact⟨b,a,rfl,⟨vs,hq Hs H1 (λ_ _ z=>z) sr.gr.sub⟩,hp (I_ K b a) Hs H1 (.refl sr.gr.sub) (zR hq hr)⟩
def oH(o:List PV->M (List PV))(fs:ae->M (List PV)):ae->M (List PV):=λenv=>(fs env).bind o
theorem z9{lo:Int}:jC (G1 lo n) J9 ((N2 n).map λ(i:Nat)=>PV.int (lo+(i:Int))) where
 stop:=λi Hs H s1 s2 hi=>show n<=i by simpa using hi
 go:=λi Hs H s1 s2 hi=>show i<n by simpa using hi
 rD:=λi Hs H x H2 s1 s2 hi y=>by
  obtain⟨rfl,rfl⟩:=y;exact⟨_,Hs,w5 (by simpa using hi),.refl s2,.int _⟩
theorem aA(x:M α):x.bind M.ok=x:=by
 cases x with
 | none=>rfl
 | some x=>cases x <;> rfl
theorem eh:uY E (CF (tL E fs)) (oH lG fs):=by
 intro σ H R q;refine fx (K:=KI R) KI.g q λB H₀ Hs H1 env ps v sr rp hp=>?_;rw[<- aA (lG ps)] at hp;obtain⟨n,rfl,h1,h2,hp⟩:=xv hp;obtain⟨w,rfl,LW⟩:=rp.one;cases LW;exact⟨n,rfl,h1,h2,hp _ Hs H1 (.refl sr.gr.sub) z9⟩
theorem zl{ys:List PV}(h1:i<xs.length)(h2:i<ys.length):(Q2 (λa b=>PV.tup [a,b]) xs ys)[i]?=some (.tup [xs[i],ys[i]]):=by
 rw[List.getElem?_zipWith,NG h1,NG h2]
theorem Ag{b1 b2:Bool}{a1 a2:Addr}{ys:List PV}{us:List V}(Ll:∀ J7 H',aY J9 J7->aY J7 H'->tm K H' b1 a1 vs)(Np:aE J9 xs vs)(Lm:∀ J7 H',aY J9 J7->aY J7 H'->tm K H' b2 a2 us)(Nq:aE J9 ys us) :
  jC (Hz K b1 b2 a1 a2) J9 (Q2 (λa b=>PV.tup [a,b]) xs ys) where
 stop:=λi Hs H s1 s2 hi=>by
  rw[QW,Np.length,Nq.length] at hi;exact⟨vs,us,Ll Hs H s1 s2,Lm Hs H s1 s2,by lia⟩
 go:=λi Hs H s1 s2 hi=>by
  rw[QW] at hi;obtain⟨v,e,_⟩:=Np.get (NG (show i<xs.length by lia));obtain⟨u,e',_⟩:=Nq.get (NG (show i<ys.length by lia));exact⟨vs,us,v,u,Ll Hs H s1 s2,Lm Hs H s1 s2,e,e'⟩
 rD:=λi Hs H x H2 s1 s2 hi y=>by
  rw[QW] at hi;have l1:i<xs.length:=by lia
  have l2:i<ys.length:=by lia
  obtain⟨v,e,r⟩:=Np.get (NG l1);obtain⟨u,e',r'⟩:=Nq.get (NG l2);obtain⟨pa,v',u',hn,rfl,rfl,y1,y2⟩:=y;have z1:=y1 vs (Ll Hs H s1 s2);have z2:=y2 us (Lm Hs H s1 s2);rw[e] at z1;cases z1;rw[e'] at z2;cases z2;have gr:=bx.new (o:=.tup [v,u]) s2 hn;exact⟨_,_,zl l1 l2,gr,.tup av (.cons ((r.mono s1).mono gr.st) (.cons ((r'.mono s1).mono gr.st) .nil))⟩
theorem ky:uY E (Gi K (tL E fs)) (oH zip2 fs):=by
 intro σ H R q;refine fx (K:=KI R) KI.g q λB H₀ Hs H1 env ps v sr rp hp=>?_;rw[<- aA (zip2 ps)] at hp;obtain⟨p,q,xs,ys,rfl,e1,e2,hp⟩:=wm hp;obtain⟨w,u,rfl,LW,ru⟩:=rp.two;obtain⟨b1,a1,vs,rfl,Ll,Np⟩:=qo (K:=K) sr.gr.sub LW e1;obtain⟨b2,a2,us,rfl,Lm,Nq⟩:=qo (K:=K) sr.gr.sub ru e2;exact⟨b1,b2,a1,a2,rfl,⟨vs,Ll Hs H1 (λ_ _ z=>z) sr.gr.sub⟩,⟨us,Lm Hs H1 (λ_ _ z=>z) sr.gr.sub⟩,hp _ Hs H1 (.refl sr.gr.sub) (Ag Ll Np Lm Nq)⟩
end
theorem c9{E:XK}{g:TG}{set:PV->ae->M ae}{body:ae->M Out}{bd:List Stmt}{wi:TI}{it:ae->M (List PV)}(O:eA X λ_=>E)(hc:X.calm=true)(hi:PI X tg iter wi)(hv:uY (λ_=>E) wi it)(hg:PG X tg g)(LI:u9 E g set)(hb:jy X bd (tS E body))(hs:autoParam (∀ x,foldedSetIterable iter X.env x=pure x) aI._auto_1) :
  PS X (.For tg iter bd [] pos) (tS E (jE it set body)):=by
 refine(Dz O.own hc hi hg hb hs).imp λD σ H q=>hv σ H _ ?_;obtain⟨B,H₀,Hs,env,sr,q⟩:=q;refine⟨B,H₀,Hs,env,sr,(au.bind q).imp (λxs hp J J7 H' gr ok=>?_) λe he=>he.grow sr.gr⟩;have Li:=sr.grow gr;refine⟨λi m σ H=>m=xs.length-i/\i<=xs.length/\Jv E set body D B H₀ J7 xs i σ H,⟨xs.length,by simp,OQ _,J7,env,Li,λ_ _ z=>z,hp⟩,?_⟩;rintro i m σ' H2 ⟨rfl,hi,Ka,env2,Km,s2,h2⟩
 by_cases Kv:i<xs.length
 .refine .inr ⟨ok.go i Ka H2 s2 Km.gr.sub Kv,Jv E set body D B H₀ J7 xs (i+1),fun σ3 H3 j=>⟨xs.length-(i+1),by lia,rfl,Kv,j⟩,λx H3 y=>?_⟩;obtain⟨p,K_,ep,g3,r3⟩:=ok.rD i Ka H2 x H3 s2 Km.gr.sub Kv y;exact Jv.turn (Hx:=H2) (H1:=H2) LI ep Km s2 h2 g3 r3
 .have e:i=xs.length:=by lia
  refine .inl ⟨ok.stop i Ka H2 s2 Km.gr.sub (by lia),?_⟩;exact Jv.done (E:=E) (set:=set) (body:=body) (xs:=xs) (B:=B) (H₀:=H₀) (J9:=J7) (n:=i) ⟨Ka,env2,Km,s2,h2⟩ (by lia)
abbrev EF:St->XK:=λ_ _ _ _=>False
def kc(env:ae):Prop:=∀ (i:Nat) (x:SV),env[i]?=some (some x)->∃ p,x=.sh p
theorem kc.ow{env:ae}(n:kc env){i:Nat}{xs:List PV}(e:env[i]?=some (some (.ow xs))):False:=by obtain⟨p,z⟩:=n i _ e;cases z
theorem kc.bd{env:ae}(n:kc env){i:Nat}{a C:Addr}{fs:List (Str×PV)}(e:env[i]?=some (some (.bd a C fs))):False:=by obtain⟨p,z⟩:=n i _ e;cases z
def Au:M α->M α
 | some (.ok a)=>some (.ok a)
 | _=>none
theorem au.Au{α:Type}{x:M α}{Q:α->Prop}{E:EX->Prop}(h:au (L2.Au x) Q E):au x Q (λ_=>False):=by
 cases x with
 | none=>exact h
 | some x=>cases x with
  | ok a=>exact h
  | error e=>exact h
def i4(n:Nat)(js:List Nat)(env:ae):ae:=NV n none++js.map λj=>match env[j]? with
 | some (some (.sh p))=>some (.sh p)
 | _=>none
theorem o4{env:ae}{x:SV}(h:(i4 n js env)[i]?=some (some x)):∃ j p,n<=i/\js[i-n]?=some j/\env[j]?=some (some (.sh p))/\x=.sh p:=by
 unfold i4 at h
 by_cases hi:i<n
 .rw[Ob (by simpa using hi),OG] at h
  split at h <;> cases h
 .rw[N6 (by simpa using hi),NZ,RS] at h;cases hj:js[i-n]? with
  | none=>rw[hj] at h;cases h
  | some j =>
   rw[hj] at h;have h':(match env[j]? with | some (some (.sh p))=>some (SV.sh p) | _=>none)=some x:=NX h
   split at h'
   .rename_i p e;cases h';exact⟨j,p,by lia,rfl,e,rfl⟩
   .cases h'
theorem dy{env:ae}:kc (i4 n js env):=λi xs e=>by
 obtain⟨_,p,_,_,_,z⟩:=o4 e;exact⟨p,z⟩
variable{D:Addr}
theorem SR.block{B:Hp}{env:ae}(r:SR B H₀ Hs H σ env)(hD:H D=none):SR Hs H Hs (upd H D (.lst [])) (cN ts js σ) (i4 ts.length js env) where
 gr:=by
  have ne:∀ c u,H c=some u->c≠D:=λc u q z=>by rw[z,hD] at q;cases q
  exact⟨λ_ _ e=>e,λc u e=>by rw[ar (ne c u e)];exact e,λc u e=>by rw[ar (ne c u (r.gr.sub c u e))];exact r.gr.sub c u e,λ_ _ e _=>e⟩
 len:=by unfold cN i4;simp
 sh:=λi p e=>by
  obtain⟨j,q,hn,hj,he,z⟩:=o4 e;cases z;obtain⟨v,h1,h2⟩:=r.sh j p he;refine⟨v,?_,h2⟩;unfold cN;rw[N6 (by simpa using hn),NZ,ND,hj];show some (σ[j]?).join=_;rw[h1];rfl
 ow:=λi xs e=>(dy.ow e).elim
 sep:=λi j xs ys a _ e=>(dy.ow e).elim
 bd:=λi a C fs e=>(dy.bd e).elim
 one:=λi j a b C D fs gs e=>(dy.bd e).elim
theorem SR.y9{B:Hp}{env:ae}{o:HO}(r:SR B H₀ Hs H σ env)(n:kc env)(h1:Hs D=none)(h2:H₀ D=none):SR B H₀ Hs (upd H D o) σ env where
 gr:=⟨r.gr.st,λc u q=>by rw[ar (λz=>by rw[z,h2] at q;cases q)];exact r.gr.al c u q,λc u q=>by rw[ar (λz=>by rw[z,h1] at q;cases q)];exact r.gr.sub c u q,r.gr.nw⟩
 len:=r.len
 sh:=r.sh
 ow:=λi xs e=>(n.ow e).elim
 sep:=λi j xs ys a _ e=>(n.ow e).elim
 bd:=λi a C fs e=>(n.bd e).elim
 one:=λi j a b C D fs gs e=>(n.bd e).elim
def bu(set:PV->ae->M ae)(t:Option (ae->M Bool))(f:ae->M PV):List PV->ae->M (List PV)
 | [],_=>M.ok []
 | x::xs,env=>(set x env).bind λe=>match t with
  | none=>(f e).bind λy=>(bu set t f xs e).bind λys=>M.ok (y::ys)
  | some t'=>(t' e).bind λb=>if b=true then (f e).bind λy=>(bu set t f xs e).bind λys=>M.ok (y::ys) else bu set t f xs e
def cF(it:ae->M (List PV))(set:PV->ae->M ae)(t:Option (ae->M Bool))(f:ae->M PV)(n:Nat)(js:List Nat):ae->M (List PV):=λenv=>(it env).bind λxs=>bG (xs.length<=sizeLine) (Au (bu set t f xs (i4 n js env)))
def jx(set:PV->ae->M ae):Prop:=∀ p env e,set p env=some (.ok e)->kc env->kc e
theorem qu{env:ae}(n:kc env):kc (env.set i (some (.sh p))):=λj xs e=>by
 rw[NL] at e
 by_cases z:i=j
 .rw[if_pos z] at e
  split at e
  .cases e;exact⟨p,rfl⟩
  .cases e
 .rw[if_neg z] at e;exact n j xs e
theorem aS:jx (bD i):=λp env e h n=>by
 cases h;exact qu n
theorem jQ:jx (gg i j):=λp env e h n=>by
 unfold gg at h
 split at h
 .cases h;exact qu (qu n)
 .cases h
section
variable{set:PV->ae->M ae}{t:Option (ae->M Bool)}{f:ae->M PV}{Q:VK}{H1:Hp}
def Jc(set:PV->ae->M ae)(t:Option (ae->M Bool))(f:ae->M PV)(Q:VK)(J9 H1:Hp)(D:Addr)(xs:List PV)(i:Nat)(σ:St)(H:Hp):Prop:=∃ Hs env ys vs,SR J9 H1 Hs H σ env/\kc env/\H D=some (.lst vs)/\Hs D=none/\aE Hs ys vs/\ys.length<=i ∧
 au (bu set t f (xs.drop i) env) (λzs=>KO Q J9 H1 (ys++zs)) (λ_=>False)
def rem(H:Hp)(D:Addr):Hp:=λa=>if a=D then none else H a
theorem rJ:rem H D D=none:=by unfold rem;rw[if_pos rfl]
theorem mZ(n:a≠D):rem H D a=H a:=by unfold rem;rw[if_neg n]
theorem vZ{o:HO}(h:H D=some o):upd (rem H D) D o=H:=by
 funext a
 by_cases z:a=D
 .subst z;rw[av,h]
 .rw[ar z,mZ z]
theorem Jc.done(hD:H1 D=none)(j:Jc set t f Q J9 H1 D xs i σ H)(hi:xs.length<=i):Q (.ref D) H:=by
 obtain⟨Hs,env,ys,vs,sr,n,h1,h2,r,_,h⟩:=j;rw[O8 hi] at h;have h':KO Q J9 H1 (ys++[]):=h;rw[Oh] at h';have gr:bx J9 H1 Hs (rem H D):=by
  refine⟨sr.gr.st,λc u q=>?_,λc u q=>?_,sr.gr.nw⟩
  .rw[mZ (λz=>by rw[z,hD] at q;cases q)];exact sr.gr.al c u q
  .rw[mZ (λz=>by rw[z,h2] at q;cases q)];exact sr.gr.sub c u q
 have:=h' vs D Hs (rem H D) gr r rJ;rw[vZ h1] at this;exact this
theorem Jc.put{env:ae}{ys:List PV}{y:PV}(hD:H1 D=none)(sr:SR J9 H1 Hs H σ env)(n:kc env)(h1:H D=some (.lst vs))(h2:Hs D=none)(r:aE Hs ys vs)(hy:ys.length<=i)(hi:i<sizeLine)(rv:Rep Hs y v)
  (h:au ((bu set t f (xs.drop (i+1)) env).bind λzs=>M.ok (y::zs)) (λzs=>KO Q J9 H1 (ys++zs)) (λ_=>False)) :
  ∃ us,H D=some (.lst us)/\us.length<sizeLine/\Jc set t f Q J9 H1 D xs (i+1) σ (upd H D (.lst (us++[v]))):=by
 refine⟨vs,h1,by rw[<- r.length];lia,Hs,env,ys++[y],vs++[v],sr.y9 n h2 hD,n,av,h2,r.snoc rv,by rw[NW];show ys.length+1<=i+1;lia,(au.bind h).imp (λzs hz=>?_) λ_ z=>z⟩;have Ma:KO Q J9 H1 (ys++(y::zs)):=hz;rw[Qw];exact Ma
end
section
variable{cl:List (Str×Addr)}{wi:TI}{it:ae->M (List PV)}{g:TG}{set:PV->ae->M ae}{f:ae->M PV}{u:ae->M Bool}{fs:List Str}
theorem vB{s₀:Shared}{ex:List Addr}:eA (kO X scope cl N C s₀ H₀ ex J2) EF where
 pass:=λ_ _ _ _ _ _ _ h=>by
  obtain⟨_,_,_,_,_,_,_,_,_,_,_,_,_,z⟩:=h;exact z.elim
 new:=λ_ _ _ _ _ _ _ _ _ z=>z.elim
 own:=PassesOwn.never
theorem rP{Q:VK}(hv:uY E wi it)(LI:∀ E,u9 E g set)(so:jx set)(q:tO E (cF it set none f ts.length js) σ H Q):qc wi g (tE EF f) ts js σ H Q:=by
 refine hv σ H _ ?_;obtain⟨B,H₀,Hs,env,sr,q⟩:=q;refine⟨B,H₀,Hs,env,sr,(au.bind q).imp (λxs hp J J9 H1 gr ok D hD=>?_) λe he=>he⟩;obtain⟨hz,hp⟩:=au.bG hp;have hp:=au.Au hp;have ME:=sr.grow gr;refine⟨λi m σ H=>m=xs.length-i/\i<=xs.length/\Jc set none f Q J9 H1 D xs i σ H,⟨xs.length,by simp,OQ _,J9,_,[],[],ME.block hD,dy,av,?_,.nil,NK _,hp.imp (λzs hz vs p Ka H2 g2 r n=>hz vs p Ka H2 (gr.trans g2) r n) λ_ z=>z⟩,?_⟩
 .cases z:J9 D with
  | none=>rfl
  | some o=>have:=gr.sub _ _ z;rw[hD] at this;cases this
 rintro i m σ' H2 ⟨rfl,hi,Ka,env2,ys,vs,Km,n2,d1,d2,r2,l2,h2⟩
 by_cases Kv:i<xs.length
 .refine .inr ⟨ok.go i Ka H2 Km.gr.st Km.gr.sub Kv,Jc set none f Q J9 H1 D xs (i+1),fun σ3 H3 j=>⟨xs.length-(i+1),by lia,rfl,Kv,j⟩,λx H3 y=>?_⟩;obtain⟨p,K_,ep,g3,r3⟩:=ok.rD i Ka H2 x H3 Km.gr.st Km.gr.sub Kv y;have hd:xs.drop i=p::xs.drop (i+1):=by
   rw[Pq Kv];rw[NG Kv] at ep;rw[NX ep]
  rw[hd] at h2;have h3:=au.bind h2;have LH:=Km.grow g3;refine LI (λ_ _ _=>False) J9 H1 K_ H3 σ' env2 p x _ (λ_=>False) LH r3 ?_;cases hset:set p env2 with
  | none=>rw[hset] at h3;exact h3
  | some z=>cases z with
   | error e=>rw[hset] at h3;exact h3
   | ok e3 =>
    rw[hset] at h3;intro σ4 sr4;have n4:=so p env2 e3 hset n2;refine⟨J9,H1,K_,e3,sr4,(au.bind h3).imp (λy hy v MT H5 g5 r5=>?_) λ_ z=>z.elim⟩;exact Jc.put (set:=set) (t:=none) (f:=f) hD (sr4.grow g5) n4 (g5.al _ _ (g3.al _ _ d1)) (g5.nw _ _ (g3.nw _ _ d2 d1) (g3.al _ _ d1)) ((r2.mono g3.st).mono g5.st) l2 (by lia) r5 hy
 .refine .inl ⟨ok.stop i Ka H2 Km.gr.st Km.gr.sub (by lia),?_⟩;exact Jc.done (set:=set) (t:=none) (f:=f) (xs:=xs) (J9:=J9) (H1:=H1) (i:=i) hD ⟨Ka,env2,ys,vs,Km,n2,d1,d2,r2,l2,h2⟩ (by lia)
theorem yv{Q:VK}(hv:uY E wi it)(LI:∀ E,u9 E g set)(so:jx set)(q:tO E (cF it set (some u) f ts.length js) σ H Q):xW wi g (tT EF u) (tE EF f) ts js σ H Q:=by
 refine hv σ H _ ?_;obtain⟨B,H₀,Hs,env,sr,q⟩:=q;refine⟨B,H₀,Hs,env,sr,(au.bind q).imp (λxs hp J J9 H1 gr ok D hD=>?_) λe he=>he⟩;obtain⟨hz,hp⟩:=au.bG hp;have hp:=au.Au hp;have ME:=sr.grow gr;refine⟨λi m σ H=>m=xs.length-i/\i<=xs.length/\Jc set (some u) f Q J9 H1 D xs i σ H,⟨xs.length,by simp,OQ _,J9,_,[],[],ME.block hD,dy,av,?_,.nil,NK _,hp.imp (λzs hz vs p Ka H2 g2 r n=>hz vs p Ka H2 (gr.trans g2) r n) λ_ z=>z⟩,?_⟩
 .cases z:J9 D with
  | none=>rfl
  | some o=>have:=gr.sub _ _ z;rw[hD] at this;cases this
 rintro i m σ' H2 ⟨rfl,hi,Ka,env2,ys,vs,Km,n2,d1,d2,r2,l2,h2⟩
 by_cases Kv:i<xs.length
 .refine .inr ⟨ok.go i Ka H2 Km.gr.st Km.gr.sub Kv,Jc set (some u) f Q J9 H1 D xs (i+1),fun σ3 H3 j=>⟨xs.length-(i+1),by lia,rfl,Kv,j⟩,λx H3 y=>?_⟩;obtain⟨p,K_,ep,g3,r3⟩:=ok.rD i Ka H2 x H3 Km.gr.st Km.gr.sub Kv y;have hd:xs.drop i=p::xs.drop (i+1):=by
   rw[Pq Kv];rw[NG Kv] at ep;rw[NX ep]
  rw[hd] at h2;have h3:=au.bind h2;have LH:=Km.grow g3;refine LI (λ_ _ _=>False) J9 H1 K_ H3 σ' env2 p x _ (λ_=>False) LH r3 ?_;cases hset:set p env2 with
  | none=>rw[hset] at h3;exact h3
  | some z=>cases z with
   | error e=>rw[hset] at h3;exact h3
   | ok e3 =>
    rw[hset] at h3;intro σ4 sr4;have n4:=so p env2 e3 hset n2;refine⟨J9,H1,K_,e3,sr4,(au.bind h3).imp (λb hb MT H5 g5=>?_) λ_ z=>z.elim⟩;have d5:=g5.al _ _ (g3.al _ _ d1);have e5:=g5.nw _ _ (g3.nw _ _ d2 d1) (g3.al _ _ d1);cases b with
    | true =>
     refine⟨J9,H1,MT,e3,sr4.grow g5,(au.bind hb).imp (λy hy v Hs6 H6 g6 r6=>?_) λ_ z=>z.elim⟩;exact Jc.put (set:=set) (t:=some u) (f:=f) hD ((sr4.grow g5).grow g6) n4 (g6.al _ _ d5) (g6.nw _ _ e5 d5) (((r2.mono g3.st).mono g5.st).mono g6.st) l2 (by lia) r6 hy
    | false=>exact⟨MT,e3,ys,vs,sr4.grow g5,n4,d5,e5,(r2.mono g3.st).mono g5.st,by lia,hb⟩
 .refine .inl ⟨ok.stop i Ka H2 Km.gr.st Km.gr.sub (by lia),?_⟩;exact Jc.done (set:=set) (t:=some u) (f:=f) (xs:=xs) (J9:=J9) (H1:=H1) (i:=i) hD ⟨Ka,env2,ys,vs,Km,n2,d1,d2,r2,l2,h2⟩ (by lia)
theorem cU(J8:X.calm=true)
  (Kb:closureFor scope X.env=pure cl) (hk:scope.kind=.function) (nc:dw scope.names=true) (lo:d_ scope.names=true) (fh:dY cl scope.names=true) (ag:c6 X cl) (fr:eB X scope cl fs js)
  (hi:PI X tg iter wi) (hv:uY E wi it) (hg:∀ C s₀ H₀ ex J2,PG (kO X scope cl (ts++fs) C s₀ H₀ ex J2) tg g) (LI:∀ E,u9 E g set) (so:jx set) (he:∀ C s₀ H₀ ex J2,PE (kO X scope cl (ts++fs) C s₀ H₀ ex J2) elt (tE EF f))
  (hs:autoParam (∀ x,foldedSetIterable iter X.env x=pure x) aI._auto_1):PE X (.ListComp elt [⟨tg,iter,[],0⟩] scope pos) (tO E (cF it set none f ts.length js)):=by
 exact(xM J8 Kb hk nc lo fh ag fr hi hg he hs).imp fun σ H Q q=>rP hv LI so q
theorem rZ(J8:X.calm=true)
  (Kb:closureFor scope X.env=pure cl) (hk:scope.kind=.function) (nc:dw scope.names=true) (lo:d_ scope.names=true) (fh:dY cl scope.names=true) (ag:c6 X cl) (fr:eB X scope cl fs js)
  (hi:PI X tg iter wi) (hv:uY E wi it) (hg:∀ C s₀ H₀ ex J2,PG (kO X scope cl (ts++fs) C s₀ H₀ ex J2) tg g) (LI:∀ E,u9 E g set) (so:jx set) (ht:∀ C s₀ H₀ ex J2,PT (kO X scope cl (ts++fs) C s₀ H₀ ex J2) c (tT EF u)) (he:∀ C s₀ H₀ ex J2,PE (kO X scope cl (ts++fs) C s₀ H₀ ex J2) elt (tE EF f))
  (hs:autoParam (∀ x,foldedSetIterable iter X.env x=pure x) aI._auto_1):PE X (.ListComp elt [⟨tg,iter,[c],0⟩] scope pos) (tO E (cF it set (some u) f ts.length js)):=by
 exact(zU J8 Kb hk nc lo fh ag fr hi hg ht he hs).imp fun σ H Q q=>yv hv LI so q
def ck(fo:ae->M (List PV)):ae->M PV:=λenv=>(fo env).bind λps=>M.ok (.lst ps)
theorem dh{fo:ae->M (List PV)}(he:PE X e (tO E fo)):PE X e (tE E (ck fo)):=he.imp fun σ H Q q=>by
 obtain⟨B,H₀,Hs,env,sr,q⟩:=q;refine⟨B,H₀,Hs,env,sr,(au.bind q).imp (λps hp vs p J7 H' g r n=>?_) λe he=>he⟩;have gn:=bx.new (o:=.lst vs) g.sub n;exact hp _ _ _ (g.trans gn) (.lst av (r.mono gn.st))
end
def qA(f:Str)(v:PV):List (Str×PV)->List (Str×PV)
 | []=>[(f,v)]
 | (g,x)::r=>if g=f then (g,v)::r else (g,x)::qA f v r
theorem hG.put{H:Hp}{f:Str}{p:PV}{v:V}(h:Rep H p v):∀ {fs:List (Str×PV)} {vs:List (Str×V)},hG H fs vs->hG H (qA f p fs) (iI f v vs)
 | _,_,.nil=>.cons h .nil
 | (g,x)::r,_,.cons hx hr=>by
  unfold qA iI
  by_cases z:g=f
  .rw[if_pos z,if_pos z];exact .cons h hr
  .rw[if_neg z,if_neg z];exact .cons hx (hr.put h)
theorem hG.length{H:Hp}:∀ {fs:List (Str×PV)} {vs:List (Str×V)},hG H fs vs->fs.length=vs.length
 | _,_,.nil=>rfl
 | _,_,.cons _ r=>by simp[r.length]
theorem SR.Hr{B:Hp}{env:ae}{dx:Addr}{fs gs:List (Str×PV)}{us:List (Str×V)}(r:SR B H₀ Hs H σ env)(e:env[i]?=some (some (.bd a C fs)))(h:hG Hs gs us):SR B H₀ Hs (upd H a (.ins C dx us)) σ (env.set i (some (.bd a C gs))):=by
 obtain⟨dx0,vs,h1,h2,h3,h4,h5⟩:=r.bd i a C fs e;have nS:∀ c u,Hs c=some u->c≠a:=λc u q z=>by rw[z,h3] at q;cases q
 have n0:∀ c u,H₀ c=some u->c≠a:=λc u q z=>by rw[z,h4] at q;cases q
 refine⟨⟨r.gr.st,λc u q=>by rw[ar (n0 c u q)];exact r.gr.al c u q,λc u q=>by rw[ar (nS c u q)];exact r.gr.sub c u q,r.gr.nw⟩,by rw[OJ];exact r.len,λj q ej=>?_,λj zs ej=>?_,λj k y1 y2 b nj e1 e2 e3 e4=>?_,λj ba D MF ej=>?_,λj k _ _ C' D MF gs' e1 e2=>?_⟩
 .rw[NL] at ej
  by_cases z:i=j
  .subst z;rw[if_pos rfl] at ej
   split at ej <;> cases ej
  .rw[if_neg z] at ej;exact r.sh j q ej
 .rw[NL] at ej
  by_cases z:i=j
  .subst z;rw[if_pos rfl] at ej
   split at ej <;> cases ej
  .rw[if_neg z] at ej;obtain⟨b,ws,q1,q2,q3,q4,q5⟩:=r.ow j zs ej;have nb:b≠a:=λw=>by subst w;rw[h2] at q2;cases q2
   exact⟨b,ws,q1,by rw[ar nb];exact q2,q3,q4,q5⟩
 .rw[NL] at e1 e2
  by_cases z:i=j
  .subst z;rw[if_pos rfl] at e1
   split at e1 <;> cases e1
  .by_cases z2:i=k
   .subst z2;rw[if_pos rfl] at e2
    split at e2 <;> cases e2
   .rw[if_neg z] at e1;rw[if_neg z2] at e2;exact r.sep j k y1 y2 b nj e1 e2 e3 e4
 .rw[NL] at ej
  by_cases z:i=j
  .subst z;rw[if_pos rfl] at ej
   split at ej
   .cases ej;exact⟨dx,us,h1,av,h3,h4,h⟩
   .cases ej
  .rw[if_neg z] at ej;exact absurd (r.one i j _ _ _ _ _ _ e ej) z
 .have o1:∃ b D w,env[j]?=some (some (.bd b D w)):=by
   rw[NL] at e1
   by_cases z:i=j
   .subst z;exact⟨_,_,_,e⟩
   .rw[if_neg z] at e1;exact⟨_,_,_,e1⟩
  have o2:∃ b D w,env[k]?=some (some (.bd b D w)):=by
   rw[NL] at e2
   by_cases z:i=k
   .subst z;exact⟨_,_,_,e⟩
   .rw[if_neg z] at e2;exact⟨_,_,_,e2⟩
  obtain⟨_,_,w1,o1⟩:=o1;obtain⟨_,_,w2,o2⟩:=o2;exact r.one j k _ _ _ _ _ _ o1 o2
def yV(i:Nat)(C:Addr)(f:Str)(p:PV)(env:ae):M Out:=match env[i]? with
 | some (some (.bd a C' fs))=>bG (C'=C/\fs.length<1000) (M.ok (.nx (env.set i (some (.bd a C (qA f p fs))))))
 | _=>none
def l4(i:Nat)(C:Addr)(fl:Str)(f:ae->M PV):ae->M Out:=λenv=>(f env).bind λp=>yV i C fl p env
section
variable{E:XK}{px:Pos}{f:ae->M PV}{fl:Str}
theorem qf(hi:X.N[i]?=some x)(hv:yW X.env.scope x)(c:oU X.K C)(na:bP X.K C fl)(he:PE X e (tE (λ_=>E) f))(hd:autoParam ((x==("__debug__" : Str))=false) aD._auto_1)(K5:autoParam ((x==("__classdict__" : Str))=false) aD._auto_1)
  (hs:autoParam (swapsWith e (some (.Attribute (.Name x px) fl pos')) pos.line X.env=pure false) aR._auto_1):PS X (.Assign [.Attribute (.Name x px) fl pos'] e pos) (tS E (l4 i C fl f)):=by
 refine(DD (ll hi hv hd K5) he hs).imp λD σ H q=>hR q λB H₀ Hs H1 env p v sr rp hp=>?_;unfold yV at hp
 split at hp
 .rename_i a C' fs ex;obtain⟨⟨rfl,hz⟩,hp⟩:=au.bG hp;obtain⟨dx,vs,h1,h2,h3,h4,h5⟩:=sr.bd i a _ fs ex;exact⟨.ref a,h1,a,_,dx,vs,rfl,h2,c,na,by rw[<- h5.length];exact hz,hp σ Hs _ (sr.Hr ex (h5.put rp))⟩
 .exact hp.elim
end
def sC(m:Nat)(a C:Addr)(ps:List PV):ae:=some (.bd a C [])::bQ (m-1) ps
def yi(a C:Addr)(env:ae):M (List (Str×PV)):=match (env[0]?:Option (Option SV)) with
 | some (some (.bd b D fs))=>bG (b=a/\D=C) (M.ok fs)
 | _=>none
def outI(a C:Addr):Out->M (List (Str×PV))
 | .nx env=>yi a C env
 | _=>none
def ug(m:Nat)(g:ae->M Out)(C a:Addr)(ps:List PV):M (List (Str×PV)):=(g (sC m a C ps)).bind (outI a C)
def Dv(s:Addr->M α):M α:=open Classical in if h:∃ r,∀ a,s a=r then h.choose else none
theorem qF{s:Addr->M α}{r:M α}(h:∀ a,s a=r):Dv s=r:=by
 have hx:∃ r,∀ a,s a=r:=⟨r,h⟩
 unfold Dv;rw[dif_pos hx,<- hx.choose_spec 0,h 0]
theorem au.Dv{α:Type}{s:Addr->M α}{Q:α->Prop}{E:EX->Prop}(h:au (L2.Dv s) Q E)(a:Addr):au (s a) Q E:=by
 unfold L2.Dv at h
 split at h
 .rename_i hx;rw[hx.choose_spec a];exact h
 .exact h.elim
def Fd(n:Nat)(C:Addr)(sem:Addr->List PV->M (List (Str×PV))):Sp:=λvs H Q E=>vs.length=n/\∃ a dx us Hs H1 ps,vs=.ref a::us/\H1 a=none/\H1 dx=none/\dx≠a/\H=upd (upd H1 dx (.own a)) a (.ins C dx [])/\aY Hs H1/\aE Hs ps us ∧
 au (sem a ps) (λfs=>∀ MU ws J7 H',bx Hs H1 J7 H'->H' a=some (.ins C MU ws)->J7 a=none->hG J7 fs ws->Q .bH H') (XW E Hs H1)
theorem SR.El{dx:Addr}{ps:List PV}(s:aY Hs H₀)(hN:0<N.length)(ha:H₀ a=none)(r:aE Hs ps vs)(hH:H=upd H₀ a (.ins C dx [])):SR Hs H₀ Hs H (L2.start N (.ref a::vs)) (sC N.length a C ps):=by
 have hs:Hs a=none:=by
  cases q:Hs a with
  | none=>rfl
  | some o=>have:=s _ _ q;rw[ha] at this;cases this
 have ne:∀ c u,H₀ c=some u->c≠a:=λc u e z=>by rw[z,ha] at e;cases e
 have s0:=SR.start (N:=N.tail) s r;have e1:L2.start N (.ref a::vs)=some (.ref a)::L2.start N.tail vs:=by
  unfold L2.start;simp only[N5,S0,NS,S1];rw[Nat.sub_sub,SK]
 have e2:sC N.length a C ps=some (.bd a C [])::bQ N.tail.length ps:=by unfold sC;rw[S1]
 have al:aY H₀ H:=λc u q=>by rw[hH,ar (ne c u q)];exact q
 rw[e1,e2];refine⟨⟨λ_ _ e=>e,al,λc u q=>al c u (s c u q),λc u q _=>q⟩,by simp[s0.len],λj q ej=>?_,λj zs ej=>?_,λj k y1 y2 b nj e1 e2 e3 e4=>?_,λj ba D MF ej=>?_,λj k a1 a2 C' D MF gs' e1 e2=>?_⟩
 .cases j with
  | zero=>cases ej
  | succ j=>exact s0.sh j q (by simpa using ej)
 .cases j with
  | zero=>cases ej
  | succ j=>exact absurd (s0.ow j zs (by simpa using ej)) (λ⟨b,ws,q1,q2,q3,q4,q5⟩=>by rw[q4] at q2;cases q2)
 .cases j with
  | zero=>cases e1
  | succ j=>exact absurd (s0.ow j y1 (by simpa using e1)) (λ⟨b,ws,q1,q2,q3,q4,q5⟩=>by rw[q4] at q2;cases q2)
 .cases j with
  | zero=>cases ej;exact⟨dx,[],rfl,by rw[hH];exact av,hs,ha,.nil⟩
  | succ j=>exact absurd (s0.bd j ba D MF (by simpa using ej)) (λ⟨b,ws,q1,q2,q3,q4,q5⟩=>by rw[q4] at q2;cases q2)
 .cases j with
  | zero=>cases k with
   | zero=>rfl
   | succ k=>exact absurd (s0.bd k a2 D gs' (by simpa using e2)) (λ⟨b,ws,q1,q2,q3,q4,q5⟩=>by rw[q4] at q2;cases q2)
  | succ j=>exact absurd (s0.bd j a1 C' MF (by simpa using e1)) (λ⟨b,ws,q1,q2,q3,q4,q5⟩=>by rw[q4] at q2;cases q2)
theorem Bo{K:PySem.W.Frag}{dV kV doc pm Kj ct oc:Value}{g:ae->M Out}(lk:K.lookup f=some ⟨oc,od,.func (PySem.W.fnOf name qual params body scope dV kV doc pm an Kj ct),Mv⟩)(K5:PySem.W.codeIn K Kj qual=true)(S:cB N ps scope)(hN:0<N.length)
  (hb:∀ (A:Around) (outer:List Env) (s:Shared) (H:Hp) (E:XK),bU k (A.deeper (envOfC qual scope s.heap.objs.size f Kj))->jy ((ko (cu P w) P w K mg base N qual scope f Kj A outer s H E).out λ_=>E) body (tS E g)) :
  aP P w K mg base (cu P w) (k+1) f (PySem.W.fnOf name qual params body scope dV kV doc pm an Kj ct) ps (Fd ps.length C (ug N.length g C)):=by
 refine uF lk K5 S (λvs H Q E h=>h.1) λA outer s H vs Q E hr hs=>⟨_,hb A outer s H E hr,?_⟩
 obtain⟨_,a,dx,us,Hs,H1,LO,rfl,ha,hdx,Me,hH,sm,r,h⟩:=hs;have ne:∀ c u,H1 c=some u->c≠dx:=λc u e z=>by rw[z,hdx] at e;cases e
 have s0:aY H1 (upd H1 dx (.own a)):=λc u q=>by rw[ar (ne c u q)];exact q
 have g0:bx Hs H1 Hs (upd H1 dx (.own a)):=⟨λ_ _ e=>e,s0,λc u q=>s0 c u (sm c u q),λ_ _ e _=>e⟩
 refine⟨Hs,_,Hs,_,SR.El (dx:=dx) g0.sub hN (by rw[ar (O4 Me)];exact ha) r hH,(au.bind h).imp (λo ho=>?_) λe he=>he.grow g0⟩;cases o with
 | rt p=>exact ho.elim
 | bk env=>exact ho.elim
 | ct env=>exact ho.elim
 | nx env =>
  intro σ J7 H' sr;have Lz:au (yi a C env) _ _:=ho;unfold yi at Lz
  split at Lz
  .rename_i b D fs ex;obtain⟨⟨rfl,rfl⟩,hp⟩:=au.bG Lz;obtain⟨MU,ws,h1,h2,h3,h4,h5⟩:=sr.bd 0 _ _ fs ex;exact hp MU ws J7 H' (g0.trans sr.gr) h2 h3 h5
  .exact Lz.elim
def fJ(C:Addr)(sem:Addr->List PV->M (List (Str×PV)))(Lj:List PV)(ps:List PV):M PV:=(Dv λa=>sem a (ps++Lj)).bind λfs=>M.ok (.obj C fs)
section
variable{ns:List Str}{sem:Addr->List PV->M (List (Str×PV))}{p:Pos}{fs:ae->M (List PV)}
theorem Bq(Mk:Mk X.K C f)(F:aP X.prog X.w X.K X.mg X.base (cu X.prog X.w) k f fd ns (Fd n C sem))(hr:bU (k+1) X.A)(hg:Gl X x)(hm:X.mg x=some (.ref C))(hb:Binds X.K fd ns ds)(hd:Vals Kz ds)(hdp:∀ H,aE H Lj Kz)(O:eA X E)
  (hl:∀ a ps,sem a (ps++Lj)≠none->ps.length+Lj.length+1=n)
  (ha:PA X (e::es) (tL E fs)) (KP:autoParam ((x==("__debug__" : Str))=false) aD._auto_1) (he:autoParam (starEach (e::es) X.env=(false,eval e X.env)::starEach es X.env) aR._auto_1) (Kp:autoParam ((backTo pos (starEach es X.env)).any (·.1)=false) aR._auto_1) :
  PE X (.Call (.Name x p) (e::es) [] pos) (tE E (ah (fJ C sem Lj) fs)):=by
 refine(y0 Mk F hr hg hm hb hd O ha KP he Kp).imp fun σ H Q q=>fx (K:=il Q) il.g q λB H₀ Hs H1 env LO v sr rp hp=>?_;intro a dx ha hdx Me;have r2:aE Hs (LO++Lj) (v++Kz):=rp.append (hdp Hs);have My:=(au.bind hp).Dv a;have hn:sem a (LO++Lj)≠none:=λz=>by
  rw[z] at My;exact My
 refine⟨?_,a,dx,v++Kz,Hs,H1,LO++Lj,rfl,ha,hdx,Me,rfl,sr.gr.sub,r2,My.imp (λfl Ng MU ws J7 H' g hw MO LW=>⟨rfl,?_⟩) λe he=>he⟩
 .show (v++Kz).length+1=n;rw[<- r2.length,NW];exact hl a LO hn
 .have ne:∀ c u,J7 c=some u->c≠a:=λc u q z=>by rw[z,MO] at q;cases q
  have Ke:aY J7 (upd J7 a (.ins C MU ws)):=λc u q=>by rw[ar (ne c u q)];exact q
  refine Ng (.ref a) (upd J7 a (.ins C MU ws)) H' ⟨λc u q=>Ke c u (g.st c u q),g.al,λc u q=>?_,λc u q1 q2=>?_⟩ (.obj av (LW.mono Ke))
  .by_cases z:c=a
   .subst z;rw[av] at q;cases q;exact hw
   .rw[ar z] at q;exact g.sub c u q
  .have z:c≠a:=λz=>by rw[z,ha] at q2;cases q2
   rw[ar z];exact g.nw c u q1 q2
end
section
variable{a b:Expr}{f g h:ae->M PV}
theorem lN{m:Nat}(h:n.log2<m):n<2^m:=by
 by_cases z:n=0
 .subst z;exact Nat.two_pow_pos m
 .exact(R3 z).mp h
theorem aE.rep{H:Hp}{xs:List PV}{vs:List V}(r:aE H xs vs):∀ k:Nat,aE H (NV k xs).flatten (NV k vs).flatten
 | 0=>.nil
 | k+1=>by rw[OO,OO,O5,O5];exact r.append (r.rep k)
def gf:PV->PV->M PV
 | .int i,.int j=>bG (i.natAbs.log2<67108864/\j.natAbs.log2<67108864) (M.ok (.int (i*j)))
 | .tup xs,.int k=>bG (xs.isEmpty=false/\-(2^63)<=k/\k<2^63/\xs.length*k.toNat<=sizeLine) (M.ok (.tup (NV k.toNat xs).flatten))
 | .lst xs,.int k=>bG (-(2^63)<=k/\k<2^63/\xs.length*k.toNat<=sizeLine) (M.ok (.lst (NV k.toNat xs).flatten))
 | _,_=>none
def Ck(K:PySem.W.Frag):R2:=λx y H Q=>(rI (λi j=>IntMulOk i j) λi j=>.int (i*j)) x y H Q\/B_ K x y H Q\/FA x y H Q
theorem BX:fF X (binaryOp .Mult) (Ck X.K):=fF.or Bv (fF.or Bb Dh)
theorem DB{K:PySem.W.Frag}:jl E (Ck K) gf:=by
 intro σ Hs H p q v u Q s rp rq h;cases rp with
 | int i=>cases rq with
  | int j =>
   obtain⟨hz,h⟩:=au.bG h;exact .inl ⟨i,j,rfl,rfl,yd (lN hz.1) (lN hz.2) (NK _),cj.flat h s (.int _)⟩
  | _=>exact h.elim
 | @tup a xs vs ha hx=>cases rq with
  | int k =>
   obtain⟨⟨h0,h1,h2,h3⟩,h⟩:=au.bG h;have n1:vs≠[]:=λz=>by
    have:=hx.length;rw[z] at this;cases xs with
    | nil=>cases h0
    | cons _ _=>cases this
   refine .inr (.inl ⟨a,k,vs,rfl,rfl,gx.of (s _ _ ha),n1,h1,h2,by rw[<- hx.length];exact h3,λz=>?_,λz=>cj.tup h s (hx.rep _)⟩);subst z;rw[show (1:Int).toNat=1 from rfl,OO,List.replicate_zero,O5,List.flatten_nil,Oh] at h;exact cj.flat h s (.tup ha hx)
  | _=>exact h.elim
 | @lst a xs vs ha hx=>cases rq with
  | int k =>
   obtain⟨⟨h1,h2,h3⟩,h⟩:=au.bG h;exact .inr (.inr ⟨a,k,vs,rfl,rfl,s _ _ ha,h1,h2,by rw[<- hx.length];exact h3,cj.lst h s (hx.rep _)⟩)
  | _=>exact h.elim
 | _=>exact h.elim
theorem AM:jl E (rI zI λi j=>.int (i.fdiv j)) (uT (λ_ j=>decide (j≠0/\j.natAbs.log2<9000)) λi j=>i.fdiv j):=tR λi j z=>(of_decide_eq_true z:j≠0/\j.natAbs.log2<9000)
theorem Dt:jl E (rI (λ_ j=>j≠0) λi j=>.int (i.fmod j)) (uT (λ_ j=>decide (j≠0)) λi j=>i.fmod j):=tR λi j z=>of_decide_eq_true z
theorem EG:jl E (rI DA λi j=>.int (i^j.toNat)) (uT (λi j=>decide (0<=j/\j<=1000000/\i.natAbs<2^64)) λi j=>i^j.toNat):=tR λi j z=>(of_decide_eq_true z:0<=j/\j<=1000000/\i.natAbs<2^64)
def GR:PV->M PV
 | .int i=>M.ok (.int (-i))
 | _=>none
def ub(f:ae->M PV):ae->M PV:=λenv=>(f env).bind GR
theorem EM(ha:PE X a (tE E f)):PE X (.UnaryOp .USub a pos) (tE E (ub f)) :=
 (GH Eb ha).imp fun σ H Q q=>GF q λHs H1 p v s rp h=>by
  cases rp with
  | int i=>exact⟨i,rfl,cj.flat h s (.int _)⟩
  | _=>exact h.elim
def fz:PV->Bool
 | .bH=>true
 | _=>false
theorem rY(r:Rep H p v):decide (v=.bH)=fz p:=by
 cases r <;> rfl
def gy:PV->PV->M PV
 | p,.bH=>M.ok (.bl (fz p))
 | _,_=>none
def i9:PV->PV->M PV
 | p,.bH=>M.ok (.bl (!fz p))
 | _,_=>none
theorem zd:jl E (λx y H Q=>y=.bH/\Q (.bl (decide (x=.bH))) H) gy:=by
 intro σ Hs H p q v u Q s rp rq h;cases rq with
 | bH =>
  have h':au (M.ok (PV.bl (fz p))) (cj Hs H Q) (XW (E σ) Hs H):=by cases p <;> exact h
  exact⟨rfl,by rw[rY rp];exact cj.flat h' s (.bl _)⟩
 | _=>cases p <;> exact h.elim
theorem vm:jl E (λx y H Q=>y=.bH/\Q (.bl (!decide (x=.bH))) H) i9:=by
 intro σ Hs H p q v u Q s rp rq h;cases rq with
 | bH =>
  have h':au (M.ok (PV.bl (!fz p))) (cj Hs H Q) (XW (E σ) Hs H):=by cases p <;> exact h
  exact⟨rfl,by rw[rY rp];exact cj.flat h' s (.bl _)⟩
 | _=>cases p <;> exact h.elim
def iZ(o o':PV->PV->M PV)(f g h:ae->M PV):ae->M PV:=λenv=>(f env).bind λp=>(g env).bind λq=>(o p q).bind λz=>(ui z).bind λk=>if k=true then (h env).bind λr=>o' q r else M.ok (.bl false)
theorem sG{r r':R2}{o o':PV->PV->M PV}(hv:jl E r o)(MD:jl E r' o'){Q:VK}(q:tE E (iZ o o' f g h) σ H Q):uU r r' (tE E f) (tE E g) (tE E h) σ H Q:=by
 refine bw (K:=il Q) il.g q λB H₀ Hs H1 env p v sr rp hp=>?_;refine⟨B,H₀,Hs,env,sr,(au.bind hp).imp (λq hq u Ka H2 g2 ru=>?_) λe he=>he⟩;have Km:=sr.grow g2;refine hv σ Ka H2 p q v u _ Km.gr.sub (rp.mono g2.st) ru ((au.bind hq).imp (λz hz w K_ H3 g3 LW=>?_) λe he=>he.grow g2);obtain⟨k,ek,hk⟩:=au.F9 (au.bind hz);subst ek;cases LW;refine⟨k,rfl,?_⟩;have LH:=Km.grow g3;cases k with
 | false=>exact hk _ _ _ (g2.trans g3) (.bl _)
 | true =>
  have Nj:au ((h env).bind λr=>o' q r) (il Q Hs H1) (XW (E σ) Hs H1):=hk;refine⟨B,H₀,K_,env,LH,(au.bind Nj).imp (λr hr w M1 H4 g4 rw4=>?_) λe he=>he.grow (g2.trans g3)⟩;exact MD σ M1 H4 q r u w Q (LH.grow g4).gr.sub ((ru.mono g3.st).mono g4.st) rw4 (hr.imp (λz hz w' MT H5 g5 r5=>hz w' MT H5 ((g2.trans g3).trans (g4.trans g5)) r5) λe he=>he.grow ((g2.trans g3).trans g4))
theorem zS{LV:CmpOp}{r r':R2}{o o':PV->PV->M PV}(ho:fF X (compareOp op) r)(hv:jl E r o)(Lz:fF X (compareOp LV) r')(MD:jl E r' o')(ha:PE X a (tE E f))(hb:PE X b (tE E g))(hc:PE X c (tE E h))
  (hm:autoParam (lastMarks [op,LV] [b,c]=false) aU._auto_1):PE X (.Compare a [op,LV] [b,c] pos) (tE E (iZ o o' f g h)) :=
 (zP ho Lz ha hb hc hm).imp fun σ H Q q=>sG hv MD q
theorem nu{LV:CmpOp}{r r':R2}{o o':PV->PV->M PV}(ho:fF X (compareOp op) r)(hv:jl E r o)(Lz:fF X (compareOp LV) r')(MD:jl E r' o')(ha:PE X a (tE E f))(hb:PE X b (tE E g))(hc:PE X c (tE E h))
  (hm:autoParam (lastMarks [op,LV] [b,c]=false) aU._auto_1):PT X (.Compare a [op,LV] [b,c] pos) (tT E (bJ (iZ o o' f g h))) :=
 (ze ho Lz ha hb hc hm).imp fun σ H Q q=>sG hv MD (nK q)
def cp(u:ae->M Bool)(b:ae->M Out):Nat->ae->M Out
 | 0,_=>none
 | n+1,env=>(u env).bind λt=>if t=true then (b env).bind λo=>match o with
   | .nx J5=>cp u b n J5
   | .ct J5=>cp u b n J5
   | .bk J5=>M.ok (.nx J5)
   | .rt p=>M.ok (.rt p)
  else M.ok (.nx env)
theorem xf{E:XK}{u:ae->M Bool}{g:ae->M Out}(n:ae->Nat)(O:eA X λ_=>E)(hc:PT X c (tT (λ_=>E) u))(hb:jy X body (tS E g)):PS X (.While c body [] pos) (tS E λenv=>cp u g (n env) env):=by
 refine(x8 O.own hc hb).imp λD σ H q=>?_;obtain⟨B,H₀,Hs,env,sr,q⟩:=q;refine⟨λm σ H=>∃ Hs env,SR B H₀ Hs H σ env/\au (cp u g m env) (KS D B H₀) (XW E B H₀),⟨n env,Hs,env,sr,q⟩,?_⟩;rintro m σ1 H1 ⟨J9,env1,ME,q1⟩;cases m with
 | zero=>exact q1.elim
 | succ m =>
  refine⟨B,H₀,J9,env1,ME,(au.bind q1).imp (λt ht Ka H2 g2=>?_) λe he=>he.grow ME.gr⟩;have Km:=ME.grow g2;cases t with
  | false=>exact ht σ1 Ka H2 Km
  | true =>
   refine⟨fun σ' H'=>∃ J7 J5,SR B H₀ J7 H' σ' J5/\au (cp u g m J5) (KS D B H₀) (XW E B H₀),fun σ' H' z=>⟨m,Ox m,z⟩,B,H₀,Ka,env1,Km,(au.bind ht).imp (λo ho=>?_) λe he=>he⟩;cases o with
   | nx J5=>exact fun σ' J7 H' Li=>⟨J7,J5,Li,ho⟩
   | ct J5=>exact fun σ' J7 H' Li=>⟨J7,J5,Li,ho⟩
   | bk J5=>exact ho
   | rt p=>exact ho
theorem ik{u:ae->M Bool}{g:ae->M Out}:∀ (n k:Nat) (env:ae),cp u g n env≠none->cp u g (n+k) env=cp u g n env
 | 0,_,_,h=>(h rfl).elim
 | n+1,k,env,h=>by
  rw[show n+1+k=(n+k)+1 by lia];unfold cp at h ⊢;cases hu:u env with
  | none=>rfl
  | some z =>
   cases z with
   | error e=>rfl
   | ok t =>
    rw[hu] at h;cases t with
    | false=>rfl
    | true =>
     show M.bind (g env) _=M.bind (g env) _;have h':M.bind (g env) (λo=>match o with
      | .nx J5=>cp u g n J5
      | .ct J5=>cp u g n J5
      | .bk J5=>M.ok (.nx J5)
      | .rt p=>M.ok (.rt p))≠none:=h
     cases hg:g env with
     | none=>rfl
     | some z =>
      cases z with
      | error e=>rfl
      | ok o =>
       rw[hg] at h';cases o with
       | nx J5=>exact ik n k J5 h'
       | ct J5=>exact ik n k J5 h'
       | bk J5=>rfl
       | rt p=>rfl
def nG(u:ae->M Bool)(b:ae->M Out)(env:ae):M Out:=open Classical in cp u b (if h:∃ n,cp u b n env≠none then h.choose else 0) env
theorem xk{u:ae->M Bool}{b:ae->M Out}{env:ae}(h:cp u b n env≠none):nG u b env=cp u b n env:=by
 have hx:∃ n,cp u b n env≠none:=⟨n,h⟩
 unfold nG;rw[dif_pos hx];have h1:=hx.choose_spec;rw[<- ik _ n env h1,<- ik n hx.choose env h,SK]
theorem yg{E:XK}{u:ae->M Bool}{g:ae->M Out}(O:eA X λ_=>E)(hc:PT X c (tT (λ_=>E) u))(hb:jy X body (tS E g)):PS X (.While c body [] pos) (tS E (nG u g)) :=
 xf (λenv=>open Classical in if h:∃ n,cp u g n env≠none then h.choose else 0) O hc hb
end
def B1:PV->Option String
 | .bH=>some "NoneType"
 | .bl _=>some "bool"
 | .int _=>some "int"
 | .str _=>some "str"
 | .lst _=>some "list"
 | .gX _=>some "list"
 | .tup _=>some "tuple"
 | .emp=>some "dict"
 | _=>none
def hU(a t:String):Bool:=a==t||(a == "bool" && t == "int")
theorem lU(K:PySem.W.Frag):PySem.W.kitOne K (.type "NoneType") (.type "int")=some false:=by with_unfolding_all kernel_rfl
theorem qZ(K:PySem.W.Frag):PySem.W.kitOne K (.type "bool") (.type "int")=some true:=by with_unfolding_all kernel_rfl
def tys:List String:=["int", "bool", "str", "list", "tuple"]
theorem FX(K:PySem.W.Frag){a t:String}(ha:B1 p=some a)(ht:t∈tys):PySem.W.kitOne K (.type a) (.type t)=some (hU a t):=by
 have ht2:t = "int" \/ t = "bool" \/ t = "str" \/ t = "list" \/ t = "tuple" := by simpa [tys] using ht
 cases p <;> cases ha <;> rcases ht2 with rfl | rfl | rfl | rfl | rfl <;> first
  | exact lU K
  | exact kt_NoneType_bool K
  | exact kt_NoneType_str K
  | exact kt_NoneType_list K
  | exact kt_NoneType_tuple K
  | exact qZ K
  | exact kt_bool_bool K
  | exact kt_bool_str K
  | exact kt_bool_list K
  | exact kt_bool_tuple K
  | exact kt_int_int K
  | exact kt_int_bool K
  | exact kt_int_str K
  | exact kt_int_list K
  | exact kt_int_tuple K
  | exact kt_str_int K
  | exact kt_str_bool K
  | exact kt_str_str K
  | exact kt_str_list K
  | exact kt_str_tuple K
  | exact kt_list_int K
  | exact kt_list_bool K
  | exact kt_list_str K
  | exact kt_list_list K
  | exact kt_list_tuple K
  | exact kt_tuple_int K
  | exact kt_tuple_bool K
  | exact kt_tuple_str K
  | exact kt_tuple_list K
  | exact kt_tuple_tuple K
  | exact kt_dict_int K
  | exact kt_dict_bool K
  | exact kt_dict_str K
  | exact kt_dict_list K
  | exact kt_dict_tuple K
theorem ua{K:PySem.W.Frag}{a:String}(s:aY Hs H)(r:Rep Hs p v)(ha:B1 p=some a):iF K H v (.type a):=by
 cases r with
 | bH=>cases ha;exact .bH
 | bl b=>cases ha;exact .bl b
 | int i=>cases ha;exact .int i
 | str x=>cases ha;exact .str x
 | tup h _=>cases ha;exact .tup (s _ _ h)
 | lst h _=>cases ha;exact .lst (s _ _ h)
 | gX h _=>cases ha;exact .oO (s _ _ h)
 | emp h=>cases ha;exact .dK (s _ _ h)
 | _=>cases ha
theorem vT(K:PySem.W.Frag){p:PV}{a:String}(ha:B1 p=some a):∀ {Ts:List String},(∀ t∈Ts,t∈tys)->PySem.W.kitAny K (.type a) (Ts.map OW)=some (Ts.any λt=>hU a t)
 | [],_=>rfl
 | t::r,h=>by
  have h1:=FX K ha (h t NJ);have h2:=vT K ha (Ts:=r) λt q=>h t (NI _ q);simp only[N5,PySem.W.kitAny,h1,Qh];cases hU a t with
  | true=>rfl
  | false=>exact h2
structure tW (K:PySem.W.Frag) (C:Addr):Prop where
 cls:oU K C
 ha:PySem.W.findIn K (.ref C) "__class__" = some (some (.builtin "object.__class__"))
 hn:PySem.W.specialIn K (.builtin "object.__class__") "__get__" = some (some (.builtin "getset_descriptor.__get__"))
 Fu:PySem.W.takesIn K (.builtin "object.__class__")=some true
 hm:PySem.W.mroIn K C (.type "object")=some true
def yH(b:String->Bool)(ob oe:Addr->Option Bool):PV->M PV
 | .obj C _=>eN ((ob C).map .bl)
 | .exc C _=>eN ((oe C).map .bl)
 | p=>eN ((B1 p).map λa=>.bl (b a))
section
variable{p px pt:Pos}{f:ae->M PV}{T:String}{ob oe:Addr->Option Bool}
theorem x_{fo:Option (List (Str×PV))}(s:aY Hs H)(r:Rep Hs (.exc C fo) v):∃ a M8,v=.ref a/\ExcAt H a C M8:=by
 cases r with
 | @t_ a _ h=>exact⟨a,none,rfl,s _ _ h⟩
 | @sJ a _ d _ vs h h2 _=>exact⟨a,some vs,rfl,d,s _ _ h,s _ _ h2⟩
def lu(b:String->Bool)(ob oe:Addr->Option Bool)(f:ae->M PV):ae->M PV:=λenv=>(f env).bind (yH b ob oe)
theorem nY{b:String->Bool}{p:PV}{Q:PV->Prop}{F:EX->Prop}(h:au (yH b ob oe p) Q F):(∃ a,B1 p=some a/\Q (.bl (b a)))\/(∃ C fs k,p=.obj C fs/\ob C=some k/\Q (.bl k))\/∃ C fo k,p=.exc C fo/\oe C=some k/\Q (.bl k):=by
 cases p with
 | obj C fs =>
  obtain⟨z,e,q⟩:=au.opt h;obtain⟨k,e2,rfl⟩:=N4.mp e;exact .inr (.inl ⟨C,fs,k,rfl,e2,q⟩)
 | exc C fo =>
  obtain⟨z,e,q⟩:=au.opt h;obtain⟨k,e2,rfl⟩:=N4.mp e;exact .inr (.inr ⟨C,fo,k,rfl,e2,q⟩)
 | bH=>exact .inl ⟨_,rfl,h⟩
 | bl _=>exact .inl ⟨_,rfl,h⟩
 | int _=>exact .inl ⟨_,rfl,h⟩
 | str _=>exact .inl ⟨_,rfl,h⟩
 | tup _=>exact .inl ⟨_,rfl,h⟩
 | lst _=>exact .inl ⟨_,rfl,h⟩
 | gX _=>exact .inl ⟨_,rfl,h⟩
 | emp=>exact .inl ⟨_,rfl,h⟩
theorem tN{K:PySem.W.Frag}{fs:List (Str×PV)}(s:aY Hs H)(r:Rep Hs (.obj C fs) v)(c:tW K C):iF K H v (.ref C):=by
 cases r with
 | obj h _=>exact .ins (s _ _ h) c.cls c.ha c.hn c.Fu c.hm
theorem gW(hg:Gl X "isinstance")(hm:X.mg "isinstance" = none)(hT:PE X (.Name x pt) (tC (.ty T)))(ht:T∈tys)(MG:∀ C b,ob C=some b->tW X.K C/\PySem.W.kitOne X.K (.ref C) (.type T)=some b)(L_:∀ C b,oe C=some b->ez X.K C/\PySem.W.kitOne X.K (.ref C) (.type T)=some b)(he:PE X e (tE E f))
  (h1:autoParam (starEach [e,.Name x pt] X.env=(false,eval e X.env)::starEach [.Name x pt] X.env) aR._auto_1) (h2:autoParam (starEach [.Name x pt] X.env=(false,eval (.Name x pt) X.env)::starEach [] X.env) aR._auto_1) (Kp:autoParam ((backTo pos (starEach [.Name x pt] X.env)).any (·.1)=false) aR._auto_1) :
  PE X (.Call (.Name "isinstance" p) [e,.Name x pt] [] pos) (tE E (lu (λa=>hU a T) ob oe f)):=by
 refine(kj (cO.or yy sT) hg hm uq (bZ he (bZ hT gk h2) h1) (by decide) (by decide) h1 Kp).imp fun σ H Q q=>bw (K:=il Q) il.g q λB H₀ Hs H1 env p v sr rp hp=>?_;rcases nY hp with ⟨a,ha,q⟩ | ⟨C,fs,k,rfl,e,q⟩ | ⟨C,fo,k,rfl,e,q⟩
 .exact .inl ⟨v,T,_,_,rfl,ua sr.gr.sub rp ha,FX X.K ha ht,cj.flat q sr.gr.sub (.bl _)⟩
 .exact .inl ⟨v,T,_,_,rfl,tN sr.gr.sub rp (MG C k e).1,(MG C k e).2,cj.flat q sr.gr.sub (.bl _)⟩
 .obtain⟨a,M8,rfl,hx⟩:=x_ sr.gr.sub rp;exact .inr ⟨a,C,M8,k,(L_ C k e).1,hx,.inl ⟨T,rfl,(L_ C k e).2⟩,cj.flat q sr.gr.sub (.bl _)⟩
theorem DK(hg:Gl X "isinstance")(hm:X.mg "isinstance" = none)(hT:PE X (.Name x pt) (tC (.ref D)))(hk:∀ p a,B1 p=some a->PySem.W.kitOne X.K (.type a) (.ref D)=some false)(MG:∀ C b,ob C=some b->tW X.K C/\PySem.W.kitOne X.K (.ref C) (.ref D)=some b)(L_:∀ C b,oe C=some b->ez X.K C/\PySem.W.kitOne X.K (.ref C) (.ref D)=some b)(he:PE X e (tE E f))
  (h1:autoParam (starEach [e,.Name x pt] X.env=(false,eval e X.env)::starEach [.Name x pt] X.env) aR._auto_1) (h2:autoParam (starEach [.Name x pt] X.env=(false,eval (.Name x pt) X.env)::starEach [] X.env) aR._auto_1) (Kp:autoParam ((backTo pos (starEach [.Name x pt] X.env)).any (·.1)=false) aR._auto_1) :
  PE X (.Call (.Name "isinstance" p) [e,.Name x pt] [] pos) (tE E (lu (λ_=>false) ob oe f)):=by
 refine(kj (cO.or z6 sT) hg hm uq (bZ he (bZ hT gk h2) h1) (by decide) (by decide) h1 Kp).imp fun σ H Q q=>bw (K:=il Q) il.g q λB H₀ Hs H1 env p v sr rp hp=>?_;rcases nY hp with ⟨a,ha,q⟩ | ⟨C,fs,k,rfl,e,q⟩ | ⟨C,fo,k,rfl,e,q⟩
 .exact .inl ⟨v,D,_,_,rfl,ua sr.gr.sub rp ha,hk p a ha,cj.flat q sr.gr.sub (.bl _)⟩
 .exact .inl ⟨v,D,_,_,rfl,tN sr.gr.sub rp (MG C k e).1,(MG C k e).2,cj.flat q sr.gr.sub (.bl _)⟩
 .obtain⟨a,M8,rfl,hx⟩:=x_ sr.gr.sub rp;exact .inr ⟨a,C,M8,k,(L_ C k e).1,hx,.inr ⟨D,rfl,(L_ C k e).2⟩,cj.flat q sr.gr.sub (.bl _)⟩
theorem qU{e2:Expr}{t2:TE}{Ts:List String}(hg:Gl X "isinstance")(hm:X.mg "isinstance" = none)(hT:PE X e2 t2)(ht2:∀ σ H R,(∀ p,H p=none->R (.ref p) (upd H p (.tup (Ts.map V.ty))))->t2 σ H R)(ht:∀ t∈Ts,t∈tys)(MG:∀ C b,ob C=some b->tW X.K C/\PySem.W.kitAny X.K (.ref C) (Ts.map OW)=some b)(he:PE X e (tE E f))
  (h1:autoParam (starEach [e,e2] X.env=(false,eval e X.env)::starEach [e2] X.env) aR._auto_1) (h2:autoParam (starEach [e2] X.env=(false,eval e2 X.env)::starEach [] X.env) aR._auto_1) (Kp:autoParam ((backTo pos (starEach [e2] X.env)).any (·.1)=false) aR._auto_1) :
  PE X (.Call (.Name "isinstance" p) [e,e2] [] pos) (tE E (lu (λa=>Ts.any λt=>hU a t) ob (λ_=>none) f)):=by
 refine(kj wC hg hm uq (bZ he (bZ hT gk h2) h1) (by decide) (by decide) h1 Kp).imp fun σ H Q q=>bw (K:=il Q) il.g q λB H₀ Hs H1 env p v sr rp hp=>?_;refine ht2 σ H1 _ λtp hn=>?_;have g:=bx.new (o:=.tup (Ts.map V.ty)) sr.gr.sub hn;rcases nY hp with ⟨a,ha,q⟩ | ⟨C,fs,k,rfl,e,q⟩ | ⟨C,fo,k,rfl,e,q⟩
 .exact⟨v,tp,Ts,_,_,rfl,av,ua g.sub (rp.mono g.st) ha,vT X.K ha ht,q _ _ _ g (.bl _)⟩
 .exact⟨v,tp,Ts,_,_,rfl,av,tN g.sub (rp.mono g.st) (MG C k e).1,(MG C k e).2,q _ _ _ g (.bl _)⟩
 .cases e
end
section
open PySem.SeqAt (shaped noMix noMixAll)
mutual
def dat:PV->Option PyData
 | .bH=>some .none
 | .bl b=>some (.bool b)
 | .int i=>some (.int i)
 | .str x=>some (.str x)
 | .tup xs=>(gp xs).map .tuple
 | .lst xs=>(gp xs).map .list
 | .gX xs=>(gp xs).map .list
 | .obj _ _=>none
 | .exc _ _=>none
 | .emp=>none
def gp:List PV->Option (List PyData)
 | []=>some []
 | p::r=>(dat p).bind λd=>(gp r).map (d::·)
end
mutual
theorem Rep.reads{Hs:Hp}(I:Inv X J2 σ H s)(sm:aY Hs H):∀ {p:PV} {v:V} {u:Value} {d:PyData},Rep Hs p v->RelV v u->dat p=some d->∃ as,Reads s.heap u d as
 | _,_,u,d,.bH,r,e=>by
  cases e;cases (show u=Oe from r);exact⟨_,.none⟩
 | _,_,u,d,.bl b,r,e=>by
  cases e;cases (show u=OV b from r);exact⟨_,.bool b⟩
 | _,_,u,d,.int i,r,e=>by
  cases e;obtain⟨t,rfl⟩:=(show ∃ t,u=Rq i t from r);exact⟨_,.int i t⟩
 | _,_,u,d,.str i,r,e=>by
  cases e;obtain⟨t,rfl⟩:=(show ∃ t,u=Rr i t from r);exact⟨_,.str i t⟩
 | _,_,u,d,.tup (a:=a) ha hx,r,e=>by
  obtain⟨ds,e2,rfl⟩:=N4.mp (show (gp _).map PyData.tuple=some d from e);cases (show u=NQ a from r);obtain⟨J6,r1,⟨o,ho,hc,n,hd⟩,_⟩:=I.tuple (gx.of (sm _ _ ha));obtain⟨as,ra⟩:=aE.reads I sm hx r1 e2;exact⟨_,.tuple ho hc hd (by simpa using ra)⟩
 | _,_,u,d,.lst (a:=a) ha hx,r,e=>by
  obtain⟨ds,e2,rfl⟩:=N4.mp (show (gp _).map TV=some d from e);cases (show u=NQ a from r);obtain⟨J6,r1,⟨o,n,ho,hc,_,hd⟩,_⟩:=I.list (gK.of (sm _ _ ha));obtain⟨as,ra⟩:=aE.reads I sm hx r1 e2;exact⟨_,.list ho hc hd (by simpa using ra)⟩
 | _,_,u,d,.gX (a:=a) (o:=ob) ha hx,r,e=>by
  obtain⟨ds,e2,rfl⟩:=N4.mp (show (gp _).map TV=some d from e);cases (show u=NQ a from r);obtain⟨J6,r1,⟨o,n,ho,hc,_,hd⟩,_⟩:=I.list (.inl (.inr ⟨ob,sm _ _ ha⟩));obtain⟨as,ra⟩:=aE.reads I sm hx r1 e2;exact⟨_,.list ho hc hd (by simpa using ra)⟩
 | _,_,u,d,.obj _ _,r,e=>by cases e
 | _,_,u,d,.t_ _,r,e=>by cases e
 | _,_,u,d,.sJ _ _ _,r,e=>by cases e
 | _,_,u,d,.emp _,r,e=>by cases e
theorem aE.reads{Hs:Hp}(I:Inv X J2 σ H s)(sm:aY Hs H):∀ {p:List PV} {v:List V} {u:List Value} {d:List PyData},aE Hs p v->Vals v u->gp p=some d->∃ as,ReadsAll s.heap u d as
 | _,_,_,_,.nil,.nil,e=>by cases e;exact⟨_,.nil⟩
 | _,_,_,d,.cons (p:=p) (ps:=ps) h hr,.cons r rr,e=>by
  obtain⟨d1,e1,e2⟩:=PM.mp (show (dat p).bind (λd=>(gp ps).map (d::·))=some d from e);obtain⟨ds,e3,rfl⟩:=N4.mp e2;obtain⟨as,ra⟩:=Rep.reads I sm h r e1;obtain⟨bs,rb⟩:=aE.reads I sm hr rr e3;exact⟨_,.cons ra rb⟩
end
def wW(d e:PyData):M Bool:=bG (shaped d=true/\shaped e=true/\noMix d e=true) (M.ok (same d e))
def kD(o:Bool->PV)(p q:PV):M PV:=match dat p,dat q with
 | some d,some e=>(wW d e).bind λb=>M.ok (o b)
 | _,_=>none
def gu:PV->PV->M PV:=kD λb=>.bl b
def oR:PV->PV->M PV:=kD λb=>.bl (!b)
def Ak(o:Bool->Bool):R2:=λx y H Q=>∃ Hs p q d e,aY Hs H/\Rep Hs p x/\Rep Hs q y/\dat p=some d/\dat q=some e/\shaped d=true/\shaped e=true/\noMix d e=true/\Q (.bl (o (same d e))) H
theorem zH(hu:X.A.units+64<cLine):fF X (compareOp .Eq) (Ak id):=by
 intro J2 s σ H x y v u Q I rx ry h;obtain⟨Hs,p,q,d,e,sm,rp,rq,hd,he,h1,h2,h3,hq⟩:=h;obtain⟨as,ra⟩:=Rep.reads I sm rp rx hd;obtain⟨bs,rb⟩:=Rep.reads I sm rq ry he;exact eq_dataH_same ra rb h1 h2 hu h3 (nI I hq rfl)
theorem Ac(hu:X.A.units+64<cLine):fF X (compareOp .NotEq) (Ak not):=by
 intro J2 s σ H x y v u Q I rx ry h;obtain⟨Hs,p,q,d,e,sm,rp,rq,hd,he,h1,h2,h3,hq⟩:=h;obtain⟨as,ra⟩:=Rep.reads I sm rp rx hd;obtain⟨bs,rb⟩:=Rep.reads I sm rq ry he;exact ne_dataH_same ra rb h1 h2 hu h3 (nI I hq rfl)
theorem zB{o:Bool->Bool}:jl E (Ak o) (kD λb=>.bl (o b)):=by
 intro σ Hs H p q v u Q s rp rq h;unfold kD at h
 split at h
 .rename_i d e hd he;have h':=au.bind h;obtain⟨⟨h1,h2,h3⟩,h⟩:=au.bG h';exact⟨Hs,p,q,d,e,s,rp,rq,hd,he,h1,h2,h3,cj.flat h s (.bl _)⟩
 .exact h.elim
theorem CD:jl E (Ak id) gu:=zB
theorem Cm:jl E (Ak not) oR:=zB
def jj(xs:List PV)(lo hi:Option Int):List PV:=(xs.drop (HT.dc xs.length 0 lo)).take (HT.dc xs.length xs.length hi-HT.dc xs.length 0 lo)
theorem aE.cut(r:aE H xs vs)(lo hi:Option Int):aE H (jj xs lo hi) (sL vs lo hi):=by
 unfold jj sL;rw[r.length];exact(r.drop _).take _
abbrev FC(Q:Option Int->Hp->Prop):Hp->Hp->Option Int->Prop:=λHs H k=>∀ J7 H',bx Hs H J7 H'->Q k H'
def Fn(E:St->XK)(g:ae->M (Option Int)):TO:=fun σ H Q=>tG E g (FC Q) σ H
theorem PO.imp{e:Option Expr}{t t':TO}(h:PO X e t)(i:∀ σ H Q,t' σ H Q->t σ H Q):PO X e t':=λJ2 s σ H Q I q=>h J2 s σ H Q I (i σ H Q q)
def oP:PV->M (Option Int)
 | .int i=>M.ok (some i)
 | _=>none
def et:ae->M (Option Int):=λ_=>M.ok none
def bo(f:ae->M PV):ae->M (Option Int):=λenv=>(f env).bind oP
section
variable{lo hi:Option Expr}{p2:Pos}{f:ae->M PV}{gl gh:ae->M (Option Int)}
theorem FC.g{Q:Option Int->Hp->Prop}:KG (FC Q):=λHs H J7 H' b k g Ka H2 g2=>k Ka H2 (g.trans g2)
theorem cD:PO X none (Fn E et):=AE.imp fun σ H Q q=>by
 obtain⟨B,H₀,Hs,env,sr,q⟩:=q;exact q Hs H (.refl sr.gr.sub)
theorem bW(he:PE X e (tE E f)):PO X (some e) (Fn E (bo f)):=(BR he).imp fun σ H Q q=>bw (K:=FC Q) FC.g q λB H₀ Hs H1 env p v sr rp hp=>by
 cases rp with
 | int i=>exact⟨i,rfl,hp Hs H1 (.refl sr.gr.sub)⟩
 | _=>exact hp.elim
end
def gD(xs:List PV):List PV:=xs.mapIdx λi x=>.tup [.int (i:Nat),x]
section
variable{K:PySem.W.Frag}{fs:ae->M (List PV)}
theorem oY(hq:∀ J7 H',aY J9 J7->aY J7 H'->gK K H' a vs)(hr:aE J9 xs vs):jC (Ff K a) J9 (gD xs) where
 stop:=λi Hs H s1 s2 hi=>by
  unfold gD at hi;rw[Pk,hr.length] at hi;exact⟨vs,hq Hs H s1 s2,hi⟩
 go:=λi Hs H s1 s2 hi=>by
  unfold gD at hi;rw[Pk] at hi;obtain⟨v,e,_⟩:=hr.get (NG hi);exact⟨vs,v,hq Hs H s1 s2,e⟩
 rD:=λi Hs H x H2 s1 s2 hi y=>by
  unfold gD at hi;rw[Pk] at hi;obtain⟨v,e,r⟩:=hr.get (NG hi);obtain⟨pa,v',hn,rfl,rfl,y1⟩:=y;have z1:=y1 vs (hq Hs H s1 s2);rw[e] at z1;cases z1;have gr:=bx.new (o:=.tup [.int (i:Nat),v]) s2 hn;refine⟨.tup [.int (i:Nat),xs[i]],_,?_,gr,.tup av (.cons (.int _) (.cons ((r.mono s1).mono gr.st) .nil))⟩;unfold gD;rw[R4,NG hi];rfl
end
end
section
variable{K:PySem.W.Frag}{fs:ae->M (List PV)}
theorem aE.three{q r:PV}(h:aE H [p,q,r] vs):∃ v u w,vs=[v,u,w]/\Rep H p v/\Rep H q u/\Rep H r w:=by
 cases h with
 | cons h r=>obtain⟨u,w,rfl,h2,h3⟩:=r.two;exact⟨_,_,_,rfl,h,h2,h3⟩
end
section
variable{K:PySem.W.Frag}{fs:ae->M (List PV)}
end
def zW(i j k:Nat):PV->ae->M ae
 | .tup [p,q,r],env=>M.ok (((env.set i (some (.sh p))).set j (some (.sh q))).set k (some (.sh r)))
 | _,_=>none
theorem Bi{E:XK}{K:PySem.W.Frag}:u9 E (nR K 3 (cV (aM i) (cV (aM j) (cV (aM k) nr)))) (zW i j k):=by
 intro B H₀ Hs H σ env p v Q Z sr r h;cases r with
 | @tup a xs vs ha hx =>
  match xs,hx with
  | [p,q,r],hx =>
   obtain⟨v,u,w,rfl,rp,rq,rr⟩:=hx.three;exact⟨a,[v,u,w],rfl,gx.of (sr.gr.sub _ _ ha),rfl,v,[u,w],rfl,u,[w],rfl,w,[],rfl,rfl,h _ (((sr.set rp).set rq).set rr)⟩
  | [],_=>exact h.elim
  | [_],_=>exact h.elim
  | [_,_],_=>exact h.elim
  | _::_::_::_::_,_=>exact h.elim
 | _=>exact h.elim
def ED(set:PV->ae->M ae)(f:ae->M PV):ae->M Out:=λenv=>(f env).bind λp=>(set p env).bind λJ5=>M.ok (.nx J5)
section
variable{E:XK}{px:Pos}{fs:ae->M (List PV)}{f h:ae->M PV}
theorem Et{g:TG}{set:PV->ae->M ae}(hg:PG X tg g)(LI:u9 E g set)(he:PE X e (tE (λ_=>E) f))(hs:autoParam (swapsWithSole [tg] e pos.line X.env=pure false) aR._auto_1)(hw:autoParam (swappedStores [tg] e X.env=pure none) aR._auto_1)
  (h1:autoParam ((assignEach [tg] X.env).map (·.2)=[assign tg X.env]) aR._auto_1):PS X (.Assign [tg] e pos) (tS E (ED set f)):=by
 refine(zx he hg hs hw h1).imp λD σ H q=>hR q λB H₀ Hs H1 env p v sr rp hp=>?_;exact LI B H₀ Hs H1 σ env p v _ _ sr rp ((au.bind hp).imp (λJ5 he' σ' Li=>he' σ' Hs H1 Li) λ_ z=>z)
def ownAt(i:Nat)(env:ae):M (List PV):=match env[i]? with
 | some (some (.ow xs))=>M.ok xs
 | _=>none
theorem au.own{env:ae}{Q:List PV->Prop}{F:EX->Prop}(h:au (ownAt i env) Q F):∃ xs,env[i]?=some (some (.ow xs))/\Q xs:=by
 unfold ownAt at h
 split at h
 .exact⟨_,by assumption,h⟩
 .exact h.elim
def xQ(i:Nat)(xs:List PV)(p:PV)(env:ae):PV->M Out
 | .int n=>match qV xs.length n with
  | some j=>M.ok (.nx (env.set i (some (.ow (xs.set j p)))))
  | none=>none
 | _=>none
def EL(i:Nat)(g f:ae->M PV):ae->M Out:=λenv=>(f env).bind λp=>(ownAt i env).bind λxs=>(g env).bind (xQ i xs p env)
theorem zo{ie:Expr}(hi:X.N[i]?=some x)(hv:yW X.env.scope x)(hk:PE X ie (tE (λ_=>E) h))(he:PE X e (tE (λ_=>E) f))(hd:autoParam ((x==("__debug__" : Str))=false) aD._auto_1)(K5:autoParam ((x==("__classdict__" : Str))=false) aD._auto_1)
  (ha:autoParam (∀ v,assign (.Subscript (.Name x px) ie pos') X.env v=(do
   let ov <- holding [v] (eval (.Name x px) X.env)
   let iv <- holding [v,ov] (eval ie X.env)
   standAt pos'
   holding [v,ov,iv] (setItem ov iv v)
   release [v,ov,iv] [])) aI._auto_1)
  (hs:autoParam (swapsWithSole [.Subscript (.Name x px) ie pos'] e pos.line X.env=pure false) aR._auto_1) (hw:autoParam (swappedStores [.Subscript (.Name x px) ie pos'] e X.env=pure none) aR._auto_1)
  (h1:autoParam ((assignEach [.Subscript (.Name x px) ie pos'] X.env).map (·.2)=[assign (.Subscript (.Name x px) ie pos') X.env]) aR._auto_1):PS X (.Assign [.Subscript (.Name x px) ie pos'] e pos) (tS E (EL i h f)):=by
 refine(zx he (Fj (ll hi hv hd K5) hk set_list ha) hs hw h1).imp λD σ H q=>hR q λB H₀ Hs H1 env p v sr rp hp=>?_;obtain⟨xs,ex,hp⟩:=au.own (au.bind hp);obtain⟨a,vs,h1,h2,h3,h4,h5⟩:=sr.ow i xs ex;refine⟨.ref a,h1,B,H₀,Hs,env,sr,(au.bind hp).imp (λk hk w Ka H2 g2 rk=>?_) λe he=>he.grow sr.gr⟩;have Km:=sr.grow g2;cases rk with
 | int n =>
  have Nj:au (match qV xs.length n with | some j=>M.ok (Out.nx (env.set i (some (.ow (xs.set j p))))) | none=>none) (KS D B H₀) (XW E B H₀):=hk
  split at Nj
  .rename_i j ej;exact⟨a,vs,n,j,rfl,rfl,g2.al _ _ h2,by rw[<- h5.length];exact ej,Nj σ Ka _ (Km.put ex h1 ((h5.mono g2.st).set (rp.mono g2.st) j))⟩
  .exact Nj.elim
 | _=>exact hk.elim
end
theorem KO.gr{Q:VK}:KG (KO Q):=λHs H J7 H' b k g vs p Ka H2 g2 r n=>k vs p Ka H2 (g.trans g2) r n
section
variable{sem:List PV->M (List PV)}{p:Pos}{fs:ae->M (List PV)}{g:ae->M PV}
end
mutual
def rR:PV->Bool
 | .bH=>true
 | .bl _=>true
 | .int _=>true
 | .str _=>true
 | .tup xs=>qD xs
 | _=>false
def qD:List PV->Bool
 | []=>true
 | p::r=>rR p&&qD r
end
mutual
theorem Rep.away{Hs:Hp}{a:Addr}{ws:List V}(ha:Hs a=some (.lst ws)):∀ {p:PV} {v:V},Rep Hs p v->rR p=true->Rep (rem Hs a) p v
 | _,_,.bH,_=>.bH
 | _,_,.bl b,_=>.bl b
 | _,_,.int b,_=>.int b
 | _,_,.str b,_=>.str b
 | _,_,.tup (a:=c) h r,n=>by
  have nc:c≠a:=λz=>by subst z;rw[ha] at h;cases h
  exact .tup (by unfold rem;rw[if_neg nc];exact h) (r.away ha n)
 | _,_,.lst _ _,n=>by cases n
 | _,_,.gX _ _,n=>by cases n
 | _,_,.obj _ _,n=>by cases n
 | _,_,.t_ _,n=>by cases n
 | _,_,.sJ _ _ _,n=>by cases n
theorem aE.away{Hs:Hp}{a:Addr}{ws:List V}(ha:Hs a=some (.lst ws)):∀ {p:List PV} {v:List V},aE Hs p v->qD p=true->aE (rem Hs a) p v
 | _,_,.nil,_=>.nil
 | _,_,.cons h r,n=>by
  have n':=Pz.mp (show (rR _&&qD _)=true from n);exact .cons (h.away ha n'.1) (r.away ha n'.2)
end
def uf:M PV->M PV
 | some (.ok p)=>bG (rR p=true) (M.ok p)
 | _=>none
theorem au.uf{r:M PV}{Q:PV->Prop}{E:EX->Prop}(h:au (L2.uf r) Q E):au r (λp=>rR p=true/\Q p) (λ_=>False):=by
 cases r with
 | none=>exact h
 | some r=>cases r with
  | error e=>exact h
  | ok p =>
   obtain⟨n,h⟩:=au.bG h;exact⟨n,h⟩
theorem bx.back{J7 H':Hp}{ws:List V}(h1:Hs a=none)(hH:H a=some (.lst ws))(s:aY Hs H)(g:bx (upd Hs a (.lst ws)) H J7 H'):bx Hs H (rem J7 a) H'/\J7 a=some (.lst ws):=by
 have e:J7 a=some (.lst ws):=g.st _ _ av;refine⟨⟨λc u q=>?_,g.al,λc u q=>?_,λc u q1 q2=>?_⟩,e⟩
 .have nc:c≠a:=λz=>by subst z;rw[h1] at q;cases q
  unfold rem;rw[if_neg nc];exact g.st c u (by rw[ar nc];exact q)
 .unfold rem at q
  split at q
  .cases q
  .exact g.sub c u q
 .unfold rem
  by_cases nc:c=a
  .rw[if_pos nc]
  .rw[if_neg nc];exact g.nw c u (by rw[ar nc];exact q1) q2
theorem SR.lend{B:Hp}{env:ae}(r:SR B H₀ Hs H σ env)(e:env[i]?=some (some (.ow xs))):∃ a vs,Hs a=none/\H a=some (.lst vs)/\SR B H₀ (upd Hs a (.lst vs)) H σ (sM i env):=by
 obtain⟨a,vs,h1,h2,h3,h4,h5⟩:=r.ow i xs e;refine⟨a,vs,h3,h2,?_⟩;have ne:∀ c u,Hs c=some u->c≠a:=λc u q z=>by rw[z,h3] at q;cases q
 have Ke:aY Hs (upd Hs a (.lst vs)):=λc u q=>by rw[ar (ne c u q)];exact q
 unfold sM;rw[e];refine⟨⟨λc u q=>Ke c u (r.gr.st c u q),r.gr.al,λc u q=>?_,λc u q1 q2=>?_⟩,by rw[OJ];exact r.len,λj q ej=>?_,λj ys ej=>?_,λj k ys zs b nj e1 e2 e3 e4=>?_,λj ba C fs ej=>?_,λj k _ _ C D fs gs e1 e2=>?_⟩
 .by_cases z:c=a
  .subst z;rw[av] at q;cases q;exact h2
  .rw[ar z] at q;exact r.gr.sub c u q
 .have z:c≠a:=λz=>by rw[z,h4] at q2;cases q2
  rw[ar z];exact r.gr.nw c u q1 q2
 .rw[NL] at ej
  by_cases z:i=j
  .subst z;rw[if_pos rfl] at ej
   split at ej
   .cases ej;exact⟨.ref a,h1,.lst av (h5.mono Ke)⟩
   .cases ej
  .rw[if_neg z] at ej;obtain⟨v,q1,q2⟩:=r.sh j q ej;exact⟨v,q1,q2.mono Ke⟩
 .rw[NL] at ej
  by_cases z:i=j
  .subst z;rw[if_pos rfl] at ej
   split at ej <;> cases ej
  .rw[if_neg z] at ej;obtain⟨b,us,q1,q2,q3,q4,q5⟩:=r.ow j ys ej;have nb:b≠a:=λw=>by subst w;exact r.sep i j xs ys b z e ej h1 q1
   exact⟨b,us,q1,q2,by rw[ar nb];exact q3,q4,q5.mono Ke⟩
 .rw[NL] at e1 e2
  by_cases z:i=j
  .subst z;rw[if_pos rfl] at e1
   split at e1 <;> cases e1
  .by_cases z2:i=k
   .subst z2;rw[if_pos rfl] at e2
    split at e2 <;> cases e2
   .rw[if_neg z] at e1;rw[if_neg z2] at e2;exact r.sep j k ys zs b nj e1 e2 e3 e4
 .rw[NL] at ej
  by_cases z:i=j
  .subst z;rw[if_pos rfl] at ej
   split at ej <;> cases ej
  .rw[if_neg z] at ej;obtain⟨dx,us,q1,q2,q3,q4,q5⟩:=r.bd j ba C fs ej;have nb:ba≠a:=λw=>by subst w;rw[h2] at q2;cases q2
   exact⟨dx,us,q1,q2,by rw[ar nb];exact q3,q4,q5.mono Ke⟩
 .rw[NL] at e1 e2
  by_cases z:i=j
  .subst z;rw[if_pos rfl] at e1
   split at e1 <;> cases e1
  .by_cases z2:i=k
   .subst z2;rw[if_pos rfl] at e2
    split at e2 <;> cases e2
   .rw[if_neg z] at e1;rw[if_neg z2] at e2;exact r.one j k _ _ C D fs gs e1 e2
def g8(i:Nat)(f:ae->M PV):ae->M PV:=λenv=>(ownAt i env).bind λ_=>uf (f (sM i env))
section
variable{f:ae->M PV}{u:ae->M Bool}
theorem mB(i:Nat)(he:PE X e (tE E f)):PE X e (tE E (g8 i f)):=he.imp fun σ H Q q=>by
 obtain⟨B,H₀,Hs,env,sr,q⟩:=q;obtain⟨xs,ex,q⟩:=au.own (au.bind q);obtain⟨a,vs,h3,h2,Km⟩:=sr.lend ex;refine⟨B,H₀,_,_,Km,(au.uf q).imp (λp hp v J7 H' g r=>?_) λ_ z=>z.elim⟩;obtain⟨g2,ea⟩:=bx.back h3 h2 sr.gr.sub g;exact hp.2 v _ _ g2 (r.away ea hp.1)
end
def dM:PV->PV->M PV:=uT (λ_ j=>decide (j≠0/\j.natAbs.log2<9000)) λi j=>i.fdiv j
def cC:PV->PV->M PV:=uT (λ_ j=>decide (j≠0)) λi j=>i.fmod j
def xu:PV->PV->M PV:=uT (λi j=>decide (0<=j/\j<=1000000/\i.natAbs<2^64)) λi j=>i^j.toNat
def Fx:PV->PV->M PV:=yQ λi j=>decide (i<j)
def xE:PV->PV->M PV:=yQ λi j=>decide (i<=j)
def wD:PV->PV->M PV:=yQ λi j=>decide (j<i)
def Fs:PV->PV->M PV:=yQ λi j=>decide (j<=i)
theorem Ao:jl E (rI zI λi j=>.int (i.fdiv j)) dM:=AM
theorem BE:jl E (rI (λ_ j=>j≠0) λi j=>.int (i.fmod j)) cC:=Dt
theorem Bt:jl E (rI DA λi j=>.int (i^j.toNat)) xu:=EG
theorem Aj:jl E (v7 λi j=>.bl (decide (i<j))) Fx:=qK
theorem gO:jl E (v7 λi j=>.bl (decide (i<=j))) xE:=qK
theorem zr:jl E (v7 λi j=>.bl (decide (j<i))) wD:=qK
theorem yI:jl E (v7 λi j=>.bl (decide (j<=i))) Fs:=qK
def bq(n:Nat)(s:List PV->M PV):List PV->M PV:=λps=>bG (ps.length=n) (s ps)
theorem sQ{s:List PV->M PV}{ps:List PV}(h:bq n s ps≠none):ps.length=n:=by
 unfold bq bG at h
 split at h
 .assumption
 .exact(h rfl).elim
variable{dv:Value}
section
variable{K:PySem.W.Frag}
theorem yG{s:List PV->M PV}(F:aP P w K mg base (cu P w) k f fd ps (fE n s)):aP P w K mg base (cu P w) k f fd ps (fE n (bq n s)) where
 len:=λvs H Q E h=>by
  obtain⟨h0,Hs,qs,sm,r,h⟩:=h;exact F.len vs H Q E ⟨h0,Hs,qs,sm,r,(au.bG h).2⟩
 run:=λA outer s H args us vs Q E hr e hb rv h=>by
  obtain⟨h0,Hs,qs,sm,r,h⟩:=h;exact F.run A outer s H args us vs Q E hr e hb rv ⟨h0,Hs,qs,sm,r,(au.bG h).2⟩
structure e8 (P:Program) (w:World) (K:PySem.W.Frag) (mg:Str->Option Value) (base:Heap) (n:Nat) (x:Str) (m:Nat) (sem:List PV->M PV):Prop where
 ex:∃ (f:Addr) (fd:FuncData) (ps:List Str),mg x=some (.ref f)/\PySem.W.keepIn K (.ref f)=true/\ps.length=m/\Binds K fd ps []/\aP P w K mg base (cu P w) n f fd ps (fE m (bq m sem))
theorem bB.JS{st:Stmt}{g:ae->M Out}(F:bB K x qual st dv f fd)(S:cB N ps (aQ st))
  (hb:∀ (Kj:Value) (A:Around) (outer:List Env) (s:Shared) (H:Hp) (E:XK),bU k (A.deeper (envOfC qual (aQ st) s.heap.objs.size f Kj))->eA ((ko (cu P w) P w K mg base N qual (aQ st) f Kj A outer s H E).out λ_=>E) (λ_=>E)->jy ((ko (cu P w) P w K mg base N qual (aQ st) f Kj A outer s H E).out λ_=>E) (dP st) (tS E g)) :
  aP P w K mg base (cu P w) (k+1) f fd ps (fE ps.length (bq ps.length (az N.length g))):=by
 obtain⟨oc,od,kV,doc,pm,an,Kj,ct,Mv,rfl,lk,K5⟩:=F.ex;exact yG (C7 lk K5 S λA outer s H E hr=>hb Kj A outer s H E hr (yJ rfl rfl))
end
section
variable{m:Nat}{sem:List PV->M PV}{fs:ae->M (List PV)}{p:Pos}
theorem e8.call(F:e8 X.prog X.w X.K X.mg X.base n x m sem)(hr:bU k X.A)(hn:n<=k)(hg:Gl X x)(O:eA X E)(ha:PA X (e::es) (tL E fs))(KP:autoParam ((x==("__debug__" : Str))=false) aD._auto_1)(he:autoParam (starEach (e::es) X.env=(false,eval e X.env)::starEach es X.env) aR._auto_1)(Kp:autoParam ((backTo pos (starEach es X.env)).any (·.1)=false) aR._auto_1) :
  PE X (.Call (.Name x p) (e::es) [] pos) (tE E (ah (bq m sem) fs)):=by
 obtain⟨f,fd,ps,h1,h2,h3,h4,h5⟩:=F.ex;have:=Br (p:=p) (Lj:=[]) h5 (hr.mono hn) hg h1 h2 h4 .nil (λ_=>.nil) O (λLO hp=>by rw[Oh] at hp;exact sQ hp) ha KP he Kp;refine this.imp fun σ H Q q=>?_;have e:(λps=>bq m sem (ps++[]))=bq m sem:=by funext ps;rw[Oh]
 rw[e];exact q
structure ym (P:Program) (w:World) (K:PySem.W.Frag) (mg:Str->Option Value) (base:Heap) (C:Addr) (n:Nat) (x:Str) (m:Nat) (sem:List PV->M PV):Prop where
 ex:∃ (f:Addr) (fd:FuncData) (ps:List Str),oU K C/\Meth K C x f/\Binds K fd ps []/\aP P w K mg base (cu P w) n f fd ps (fE m (bq m sem))
theorem ym.FG{g:ae->M PV}(F:ym X.prog X.w X.K X.mg X.base C n x m sem)(hr:bU k X.A)(hn:n<=k)(O:eA X E)(ho:PE X o (tE E g))
  (ht:autoParam (eval (.Call (.Attribute o x apos) [] [] pos) X.env=(do
   let ov <- eval o X.env
   standAt apos.atName
   let (f,first) <- holding [ov] (getMethod ov x pl)
   callWith pos f first (backTo pos (starEach [] X.env)) (backToKw pos (keywordEach [] X.env)))) aR._auto_1) :
  PE X (.Call (.Attribute o x apos) [] [] pos) (tE E (dD C x (bq m sem) g ao)):=by
 obtain⟨f,fd,ps,h1,h2,h3,h4⟩:=F.ex;exact yO ho h1 h2 h4 (hr.mono hn) h3 O (λLO hp=>sQ hp) ht
end
structure Ft (P:Program) (w:World) (K:PySem.W.Frag) (mg:Str->Option Value) (base:Heap) (C:Addr) (n:Nat) (x:Str) (m:Nat) (Lj:List PV) (sem:Addr->List PV->M (List (Str×PV))):Prop where
 ex:∃ (f:Addr) (fd:FuncData) (ps:List Str) (ds:List Value) (Kz:List V),mg x=some (.ref C)/\Mk K C f/\Binds K fd ps ds/\Vals Kz ds/\(∀ H,aE H Lj Kz)/\aP P w K mg base (cu P w) n f fd ps (Fd m C sem)
def n6(m:Nat)(sem:Addr->List PV->M (List (Str×PV))):Addr->List PV->M (List (Str×PV)):=λa ps=>bG (ps.length+1=m) (sem a ps)
theorem xq{K:PySem.W.Frag}{s:Addr->List PV->M (List (Str×PV))}(F:aP P w K mg base (cu P w) k f fd ps (Fd n C s)):aP P w K mg base (cu P w) k f fd ps (Fd n C (n6 n s)) where
 len:=λvs H Q E h=>by
  obtain⟨h0,a,dx,us,Hs,H1,qs,e1,e2,e3,e4,e5,sm,r,h⟩:=h;exact F.len vs H Q E ⟨h0,a,dx,us,Hs,H1,qs,e1,e2,e3,e4,e5,sm,r,(au.bG h).2⟩
 run:=λA outer s H args us vs Q E hr e hb rv h=>by
  obtain⟨h0,a,dx,us',Hs,H1,qs,e1,e2,e3,e4,e5,sm,r,h⟩:=h;exact F.run A outer s H args us vs Q E hr e hb rv ⟨h0,a,dx,us',Hs,H1,qs,e1,e2,e3,e4,e5,sm,r,(au.bG h).2⟩
theorem bB.JZ{K:PySem.W.Frag}{st:Stmt}{g:ae->M Out}(F:bB K x qual st dv f fd)(S:cB N ps (aQ st))(hN:0<N.length)
  (hb:∀ (Kj:Value) (A:Around) (outer:List Env) (s:Shared) (H:Hp) (E:XK),bU k (A.deeper (envOfC qual (aQ st) s.heap.objs.size f Kj))->eA ((ko (cu P w) P w K mg base N qual (aQ st) f Kj A outer s H E).out λ_=>E) (λ_=>E)->jy ((ko (cu P w) P w K mg base N qual (aQ st) f Kj A outer s H E).out λ_=>E) (dP st) (tS E g)) :
  aP P w K mg base (cu P w) (k+1) f fd ps (Fd ps.length C (n6 ps.length (ug N.length g C))):=by
 obtain⟨oc,od,kV,doc,pm,an,Kj,ct,Mv,rfl,lk,K5⟩:=F.ex;exact xq <| Bo lk K5 S hN λA outer s H E hr=>hb Kj A outer s H E hr (yJ rfl rfl)
section
variable{m:Nat}{fs:ae->M (List PV)}{p:Pos}
theorem Ft.make{sem:Addr->List PV->M (List (Str×PV))}(F:Ft X.prog X.w X.K X.mg X.base C n x m Lj (n6 m sem))(hr:bU k X.A)(hn:n+1<=k)(hg:Gl X x)(O:eA X E)(ha:PA X (e::es) (tL E fs))(KP:autoParam ((x==("__debug__" : Str))=false) aD._auto_1)(he:autoParam (starEach (e::es) X.env=(false,eval e X.env)::starEach es X.env) aR._auto_1)(Kp:autoParam ((backTo pos (starEach es X.env)).any (·.1)=false) aR._auto_1) :
  PE X (.Call (.Name x p) (e::es) [] pos) (tE E (ah (fJ C (n6 m sem) Lj) fs)):=by
 obtain⟨f,fd,ps,ds,Kz,h1,h2,h4,h5,h6,h7⟩:=F.ex;refine Bq (p:=p) h2 h7 (hr.mono hn) hg h1 h4 h5 h6 O (λa LO hp=>?_) ha KP he Kp;unfold n6 bG at hp
 split at hp
 .rename_i h;rwa [NW] at h
 .exact(hp rfl).elim
end
def jq:Addr->Option Bool:=λ_=>none
theorem gq{P:Addr->Bool->Prop}:∀ C b,jq C=some b->P C b:=λ_ _ h=>by cases h
theorem vr(i:Nat)(hN:autoParam (X.N[i]?=some x) aR._auto_1)(hv:yW X.env.scope x:=by first | exact .inl rfl | exact .inr (.inl rfl) | exact .inr (.inr rfl))(hd:autoParam ((x==("__debug__" : Str))=false) aD._auto_1)(K5:autoParam ((x==("__classdict__" : Str))=false) aD._auto_1):PE X (.Name x pos) (tE E (af i)):=Dw hN hv hd K5
theorem Ca{env:Env}(h:(match e with | .Starred ..=>true | _=>false)=false):starEach (e::es) env=(false,eval e env)::starEach es env:=by
 cases e <;> first | rfl | cases h
def je:List Expr->Option (List Int)
 | []=>some []
 | .Constant (.int i) _ _::r=>(je r).map (i::·)
 | _=>none
theorem vP:∀ {es:List Expr} {ns:List Int},je es=some ns->PA X es (tL E λ_=>M.ok (ns.map PV.int))
 | [],_,h=>by cases h;exact xV
 | e::r,ns,h=>by
  obtain⟨i,j,p,rfl,h⟩:∃ i j p,e=.Constant (.int i) j p/\(je r).map (i::·)=some ns:=by
   cases e <;> first
    | (cases h;done)
    | (rename_i c j p;cases c <;> first | (cases h;done) | exact⟨_,_,_,rfl,h⟩)
  obtain⟨ms,h1,rfl⟩:=N4.mp h;exact u6 zh (vP h1) (Ca rfl)
theorem BC(ns:List Int)(h:autoParam (je es=some ns) aR._auto_1)(hz:autoParam (ns.length<=1000) aD._auto_1):PE X (.List es pos) (tE E λ_=>M.ok (.lst (ns.map PV.int))):=by
 refine(zv (E:=E) (vP h)).imp fun σ H Q q=>?_;have e:(g_ λ_=>M.ok (ns.map PV.int))=λ_=>M.ok (.lst (ns.map PV.int)):=by
  funext env
  show bG _ _=_;unfold bG;rw[if_pos (by rw[ND];exact N3 hz (by decide))]
 rw[e];exact q
section
variable{a b:Expr}{f g:ae->M PV}
end
structure zX (K:PySem.W.Frag) (mg:Str->Option Value) (C:Addr) (x:Str):Prop where
 hc:PySem.W.excIn K C eO "ValueError.__new__" = true
 c:ez K C
 ht:PySem.W.typeIn K (.ref C)=some (.type "type")
 kp:PySem.W.keepIn K (.ref C)=true
 m:mg x=some (.ref C)
structure pU (P:Program) (w:World) (K:PySem.W.Frag) (mg:Str->Option Value) (base:Heap) (C:Addr) (x fl:Str):Prop where
 ex:∃ (f:Addr) (fd:FuncData) (ps:List Str),mP K C "ValueError.__new__" f=true/\PySem.W.isFn K (.ref f)=true/\aP P w K mg base (cu P w) 1 f fd ps (wy K C fl)/\Binds K fd ps []
 c:ez K C
 ht:PySem.W.typeIn K (.ref C)=some (.type "type")
 kp:PySem.W.keepIn K (.ref C)=true
 m:mg x=some (.ref C)
section
variable{E:XK}{p:Pos}{fl:Str}{fs:ae->M (List PV)}
theorem zX.raise(F:zX X.K X.mg C x)(O:eA X λ_=>E)(J8:X.calm=true)(hg:Gl X x)(ha:PA X (e::es) (tL (λ_=>E) fs))
  (KP:autoParam ((x==("__debug__" : Str))=false) aD._auto_1) (he:autoParam (starEach (e::es) X.env=(false,eval e X.env)::starEach es X.env) aR._auto_1) (Kp:autoParam ((backTo J_ (starEach es X.env)).any (·.1)=false) aR._auto_1) :
  PS X (.Raise (some (.Call (.Name x p) (e::es) [] J_)) none pos) (tS E (eR C fs)):=we O J8 F.hc F.c F.ht F.kp hg F.m ha KP he Kp
theorem pU.raise(F:pU X.prog X.w X.K X.mg X.base C x fl)(hr:bU k X.A)(hn:2<=k)(O:eA X λ_=>E)(J8:X.calm=true)(hg:Gl X x)(ha:PA X [e] (tL (λ_=>E) fs))
  (KP:autoParam ((x==("__debug__" : Str))=false) aD._auto_1) (he:autoParam (starEach [e] X.env=(false,eval e X.env)::starEach [] X.env) aR._auto_1) (Kp:autoParam ((backTo J_ (starEach [] X.env)).any (·.1)=false) aR._auto_1) :
  PS X (.Raise (some (.Call (.Name x p) [e] [] J_)) none pos) (tS E (fI C fl fs)):=by
 obtain⟨f,fd,ps,h1,h2,h3,h4⟩:=F.ex;exact wu O J8 h1 h2 F.c F.ht F.kp h3 (hr.mono hn) h4 hg F.m ha KP he Kp
end
theorem cj.emp{Hs H:Hp}{Q:VK}(h:cj Hs H Q .emp)(s:aY Hs H):∀ p,H p=none->Q (.ref p) (upd H p (.dK [])) :=
 λp n=>h _ (upd Hs p (.dK [])) _ (bx.new s n) (.emp av)
theorem EZ:PE X (.Dict [] [] pos) (tE E λ_=>M.ok .emp):=by
 refine zV.imp fun σ H Q q=>?_;obtain⟨B,H₀,Hs,env,sr,q⟩:=q;exact cj.emp q sr.gr.sub
section
variable{cl:List (Str×Addr)}{wi:TI}{it:ae->M (List PV)}{g:TG}{set:PV->ae->M ae}{f:ae->M PV}{fs:List Str}
variable{E:XK}{py Lv:Pos}
theorem p5(J8:X.calm=true)
  (Kb:closureFor scope X.env=pure cl) (hk:scope.kind=.function) (nc:dw scope.names=true) (lo:d_ scope.names=true) (fh:dY cl scope.names=true) (ag:c6 X cl) (fr:eB X scope cl fs js)
  (hi:PI X tg iter wi) (hv:uY (λ_=>E) wi it) (hg:∀ C s₀ H₀ ex J2,PG (kO X scope cl (ts++fs) C s₀ H₀ ex J2) tg g) (LI:∀ E,u9 E g set) (so:jx set) (he:∀ C s₀ H₀ ex J2,PE (kO X scope cl (ts++fs) C s₀ H₀ ex J2) elt (tE EF f))
  (hN:X.N.Nodup) (Ni:X.N[i]?=some y) (hy:Loc X.env.scope y)
  (hs:autoParam (∀ x,foldedSetIterable iter X.env x=pure x) aI._auto_1) (MO:autoParam (swapsWith (.ListComp elt [⟨tg,iter,[],0⟩] scope pos) (some (.Name y py)) Lv.line X.env=pure true) aR._auto_1)
  (hf:autoParam (X.fn y=true\/X.env.scope.names.lookup y=some .local) aF._auto_1) :
  PS X (.Assign [.Name y py] (.ListComp elt [⟨tg,iter,[],0⟩] scope pos) Lv) (tS E (bc i (ck (cF it set none f ts.length js)))):=by
 refine(AH hN Ni hy J8 Kb hk nc lo fh ag fr hi hg he hs MO hf).imp λD σ H q=>?_;refine rP hv LI so ?_;obtain⟨B,H₀,Hs,env,sr,q⟩:=q;refine⟨B,H₀,Hs,env,sr,(au.bind (au.bind q)).imp (λps hp vs p J7 H' g r n=>?_) λe he=>he.grow sr.gr⟩;have gn:=bx.new (o:=.lst vs) g.sub n;exact hp _ _ _ ((sr.grow (g.trans gn)).set (.lst av (r.mono gn.st)))
end
section
variable{a:Expr}{ta:TA}{p:Pos}
end
section
variable{fs:ae->M (List PV)}{a:Expr}{p p2 pos2:Pos}
end
section
open AutoSeq1 (wpAny_loadPart')
theorem xh(l:Addr)(J3:Array Value)(n:Nat)(dct:Option Addr)(sl:Array (Option Value)) :
  Meets (Builtin.«enumerate.__new__» ⟨[.type "enumerate", .ref l],[]⟩) (λ_ R s=>s.heap.get? l=some { cls:=.type "tuple", dict:=dct,data:=.seq J3 n,slots:=sl } ∧
   R (.ok (.ret (.ref (s.heap.push { cls:=.type "tuple_iterator", data:=.fields #[.ref l,.int 0 0] }).objs.size)))
    { s with heap:=(s.heap.push { cls:=.type "tuple_iterator", data:=.fields #[.ref l,.int 0 0] }).push { cls:=.type "enumerate", data:=.fields #[.none,.bool false,.ref s.heap.objs.size,rawInt 0,.none,.none] } }) :=
 .of_wp λprog w A R s h=>by
  obtain⟨hp,g,d,tk,os⟩:=s;obtain⟨hl,h⟩:=h;have hsub:=sub_enumerate;have hL:Heap.IsTuple (Tc ⟨hp,g,d,tk,os⟩) l J3:=⟨_,hl,rfl,n,rfl⟩
  wp_walk using QO hl
  refine wpAny_stack_any λst=>NH ?_
  split
  .rename_i c _ _ _ _ _;cases (c==OW "enumerate")
   .wp_walk using QO hl,PN hL
    exact⟨_,rfl,h⟩
   .wp_walk using QO hl,PN hL
    exact⟨_,rfl,h⟩
  .wp_walk using QO hl,PN hL
   exact⟨_,rfl,h⟩
section
variable{E:Value->Shared->Prop}
theorem tM(hL:s.heap.IsTuple l J3)
  (h:∀ h',IsEnum h' (s.heap.objs.size+1) s.heap.objs.size 0 .none->h'.IsTupleIter s.heap.objs.size l 0->h'.objs.size=s.heap.objs.size+2 ->
   (∀ b o,s.heap.get? b=some o->h'.get? b=some o)->Q (.ref (s.heap.objs.size+1)) { s with heap:=h' }) :
  wpAny (model prog w) A (call (.type "enumerate") [.ref l]) Q E s:=by
 obtain⟨⟨c,dct,dt,sl⟩,hl,hc,n,hd⟩:=hL
 replace hc:c=.type "tuple" := hc
 replace hd:dt=.seq J3 n:=hd
 subst hc hd;refine callType_new F.called_enumerate (by decide) (F.typeCall_enumerate_1 _) (F.newCall_enumerate_1 _) (λobj=>F.args_object_init_2 obj _) F.entry_enumerate_new
  (xh l J3 n dct sl) ⟨hl,?_⟩
 have hz:(s.heap.push { cls:=.type "tuple_iterator", data:=.fields #[.ref l,.int 0 0] }).objs.size=s.heap.objs.size+1:=Ow ..;show _/\_;rw[hz];have he:IsEnum ((s.heap.push { cls:=.type "tuple_iterator", data:=.fields #[.ref l,.int 0 0] }).push
   { cls:=.type "enumerate", data:=.fields #[.none,.bool false,.ref s.heap.objs.size,rawInt 0,.none,.none] }) (s.heap.objs.size+1) s.heap.objs.size 0 .none:=by
  have:=NO (s.heap.push { cls:=.type "tuple_iterator", data:=.fields #[.ref l,.int 0 0] })
   (o:={ cls:=.type "enumerate", data:=.fields #[.none,.bool false,.ref s.heap.objs.size,rawInt 0,.none,.none] }) rfl
  rw[hz] at this;exact this
 refine⟨⟨_,he,rfl⟩,h _ he ⟨_,NF _ (NO _ rfl),rfl,rfl⟩ (by rw[Ow,hz]) λb o x=>NF _ (NF _ x)⟩
end
theorem EB(hh:A.handled=none)(it t:Addr)(J3:Array Value) :
  Draws prog w A it [it,t] J3.size (λi v=>J3[i]?=some v) (λi h=>h.IsTupleIter it t i/\h.IsTuple t J3) where
 live:=λ_ _ st=>let ⟨⟨o,ho,_⟩,_⟩:=st;⟨o,ho⟩
 frame:=λ_ _ _ st hk=>by
  obtain⟨⟨o,ho,r⟩,⟨o2,L9,r2⟩⟩:=st;exact⟨⟨o,hk it (by simp) o ho,r⟩,⟨o2,hk t (by simp) o2 L9,r2⟩⟩
 item:=λi s Q E hi st hQ=>by
  obtain⟨st,tt⟩:=st;refine gM st tt (x:=J3[i]) (by simp[hi]) λh' MK LK=>?_;refine hQ _ h' s.toks (by simp[hi]) ⟨MK,?_⟩ LK;obtain⟨o,ho,c1,_⟩:=st;obtain⟨o2,L9,c2,r2⟩:=tt;refine⟨o2,(LK.2 t λz=>?_).trans L9,c2,r2⟩;rw[z,ho] at L9;cases L9;rw[c1] at c2;exact absurd c2 (by decide)
 done:=λs Q E st hE=>eG hh st.1 st.2 (by simp) hE
def DU (K : PySem.W.Frag) (a : Addr) : It :=
  ⟨λi H => ∃ xs x, gx K H a xs /\ xs[i]? = some x,
   λi H y H' => ∃ p x, H p = none /\ y = .ref p /\ H' = upd H p (.tup [.int i, x]) /\ ∀ xs, gx K H a xs -> xs[i]? = some x,
   λi H => ∃ xs, gx K H a xs /\ xs.length <= i⟩
theorem tX{K:PySem.W.Frag}{tp:Pos}(a e it:Addr)(Me:e≠it):Turn P w K (.Tuple elts x1 tp) (DU K a) [e,it] e (λi h=>(∃ old,IsEnum h e it i old)/\h.IsTupleIter it a i) where
 mem:=by simp
 obj:=λi h st b hb=>by
  obtain⟨⟨old,he⟩,⟨o,e1,c,d⟩⟩:=st;rcases NU.mp hb with z | z
  .subst z;exact⟨_,he,λv z=>by cases z⟩
  .have z':b=it:=by simpa using z
   subst z';exact⟨o,e1,λv z=>by rw[d] at z;cases z⟩
 keep:=λi h h' st k=>by
  obtain⟨⟨old,he⟩,⟨o,ho,r⟩⟩:=st;exact⟨⟨old,k e (by simp) _ he⟩,⟨o,k it (by simp) o ho,r⟩⟩
 item:=by
  intro X hP hw hK hc i J2 s σ H E I hf st hg;subst hP hw hK;obtain⟨xs,x,hq,hx⟩:=hg;obtain⟨J6,rv,p,hz⟩:=I.tuple hq;obtain⟨u,hu,ru⟩:=rv.get hx;obtain⟨⟨old,he⟩,hit⟩:=st;have Mm:e<s.heap.objs.size:=NN he;have MJ:it<s.heap.objs.size:=by obtain⟨_,z,_⟩:=hit;exact NN z
  have hea:e ∉ [it,a]:=λz=>by
   rcases NU.mp z with z | z
   .exact Me z
   .obtain⟨o,ho,c,_⟩:=p;rw[<- N9.mp z,he] at ho;cases ho;exact absurd (show OW "enumerate" = OW "tuple" from c) (by decide)
  have hi':i<J6.toArray.size:=by
   have:=(ON.mp hu).1;simpa using this
  refine wpAny_pyNext_enum_itemD (EB (A:=X.A.in1) (I.ok.hd hc) it a J6.toArray) he ⟨hit,p⟩ hi' Me hea λu' h' tk hu' ho Ke hT Lh hk=>⟨_,rfl,?_⟩
  have eu:u'=u:=by
   rw[List.getElem?_toArray,hu] at hu';exact(NX hu').symm
  subst eu;refine Q8 (s:={ s with heap:=h',toks:=tk+1 }) ho λh2 he2 LQ=>?_;have Mq:∀ b o,b ∉ [e,it]->s.heap.get? b=some o->h2.get? b=some o:=λb o hb q=>by
   have n1:b≠e:=λz=>hb (by simp[z]);have n2:b≠it:=λz=>hb (by simp[z]);exact(LQ.2 b n1).trans (hk b o n1 n2 q)
  have Mz:h2.get? s.heap.objs.size=some { cls:=.type "tuple", data:=.seq #[.int i tk,u'] }:=(LQ.2 _ (Py Mm)).trans hT;have I2:Inv X J2 σ (upd H s.heap.objs.size (.tup [.int i,x])) { s with heap:=h2,toks:=tk+1 } :=
   I.kZ (ch:=[e,it]) Mq hf (NK _) (λb hb=>by
    rcases NU.mp hb with z | z
    .subst z;exact⟨_,he⟩
    .have z':b=it:=by simpa using z
     subst z';obtain⟨o,z,_⟩:=hit;exact⟨o,z⟩)
    ⟨by show 2<=sizeLine;decide,[.int i tk,u'],.cons ⟨_,rfl⟩ (.cons ru .nil),⟨_,Mz,rfl,_,rfl⟩⟩
  have Lk:H s.heap.objs.size=none:=I.bg.fresh (NK _);obtain⟨oi,hoi,ri⟩:=Ke.1;refine⟨.ref s.heap.objs.size,_,I2,rfl,⟨_,x,Lk,rfl,rfl,λys hy=>by rw[I.kL hy hq];exact hx⟩,⟨⟨u',by simpa using he2⟩,⟨oi,(LQ.2 it (O4 Me)).trans hoi,ri⟩⟩,λb hb=>?_⟩;have nb:b≠s.heap.objs.size:=by
   rcases NU.mp hb with z | z
   .rw[z];exact NR Mm
   .have z':b=it:=by simpa using z
    rw[z'];exact NR MJ
  rw[ar nb];exact(hf b hb).1
 done:=by
  intro X hP hw hK hc i J2 s σ H E I hf st hg;subst hP hw hK;obtain⟨xs,hq,hx⟩:=hg;obtain⟨J6,rv,p,hz⟩:=I.tuple hq;have hl:=rv.length;obtain⟨⟨old,he⟩,hit⟩:=st;obtain⟨f0,f1,f2,f3,f4,f5⟩:=hf it (by simp);have hT:s.TypeIs (.ref e) "enumerate" := ⟨_,he,rfl⟩
  unfold pyNext;refine NB (Qf (OH (name:=NC "__next__") hT F.slot_enumerate_next
   (Pb F.slot_enumerate_next hT F.entry_enumerate_next ?_ (F.args_enumerate_next_1 _))))
  show wpAny _ _ (field (.ref e) 2 >>= _) _ _ _;refine NB (N_ he rfl (x:=.ref it) rfl ?_);refine NB (eG (I.ok.hd hc) hit p (by simp;lia) λh' x he' Nr=>?_);obtain⟨o,ho,LY⟩:=Nr;refine NB (wpAny_isInstance (T := "StopIteration") (b:=true) ⟨o,ho,LY⟩ isSubtype_stop ?_);exact NH ⟨rfl,I.turned (t':=s.toks) (λb o hb e=>he' b o hb e) f0 f1 f3 f4 f5⟩
 self:=λ_ _ _ _ _ st h=>by
  obtain⟨⟨old,he⟩,_⟩:=st;exact Qy he h
def FO(K:PySem.W.Frag)(tl:TA):TI:=fun σ H R=>tl σ H λvs H1=>∃ a,vs=[.ref a]/\(((∃ xs,gK K H1 a xs)/\R (Ff K a) H1)\/((∃ xs,gx K H1 a xs)/\R (DU K a) H1))
theorem yb{tp:Pos}{l:Expr}{p:Pos}(hg:Gl X "enumerate")(hm:X.mg "enumerate" = none)(hl:PA X [l] tl)(hs:autoParam (starEach [l] X.env=[(false,eval l X.env)]) aR._auto_1) :
  PI X (.Tuple elts x1 tp) (.Call (.Name "enumerate" p) [l] [] pos) (FO X.K tl):=by
 intro J2 s σ H R I h;refine Call_ (kR I hg hm PyProof.Rows.boot_enumerate (O7 (b_ (hl pos J2 s σ H _ I h) λus s1 ⟨vs,H1,I1,r1,q1⟩=>?_) hs rfl));obtain⟨a,e,q⟩:=q1;subst e;cases r1 with
 | cons r rr =>
  cases rr;cases (show _=NQ a from r);have fp:∀ b∈[s1.heap.objs.size+1,s1.heap.objs.size],jk X J2 H1 b:=λb hb=>by
   rcases NU.mp hb with z | z
   .subst z;exact I1.om (P4 _) (I1.bg.fresh (P4 _))
   .have z':b=s1.heap.objs.size:=by simpa using z
    subst z';exact I1.om (NK _) (I1.bg.fresh (NK _))
  rcases q with ⟨⟨xs,hq⟩,q⟩ | ⟨⟨xs,hq⟩,q⟩
  .obtain⟨J6,rv,pl,hz⟩:=I1.list hq;refine call_enumerate_list pl.isList λh' he hit Lh hk=>?_;refine Qy (s:={ s1 with heap:=h' }) he ?_;exact⟨s1.heap.objs.size+1,[s1.heap.objs.size+1,s1.heap.objs.size],_,_,H1,rfl,I1.kept (t':=s1.toks) hk,wG a _ _ (S2 _),⟨⟨_,he⟩,hit⟩,fp,q⟩
  .obtain⟨J6,rv,pl,hz⟩:=I1.tuple hq;refine tM pl λh' he hit Lh hk=>?_;refine Qy (s:={ s1 with heap:=h' }) he ?_;exact⟨s1.heap.objs.size+1,[s1.heap.objs.size+1,s1.heap.objs.size],_,_,H1,rfl,I1.kept (t':=s1.toks) hk,tX a _ _ (S2 _),⟨⟨_,he⟩,hit⟩,fp,q⟩
def Ja(p:PV):M (List PV):=match bR p with
 | some xs=>M.ok (gD xs)
 | none=>none
def Fo:List PV->M (List PV)
 | [p]=>Ja p
 | _=>none
section
variable{K:PySem.W.Frag}{fs:ae->M (List PV)}
theorem yt(hq:∀ J7 H',aY J9 J7->aY J7 H'->gx K H' a vs)(hr:aE J9 xs vs):jC (DU K a) J9 (gD xs) where
 stop:=λi Hs H s1 s2 hi=>by
  unfold gD at hi;rw[Pk,hr.length] at hi;exact⟨vs,hq Hs H s1 s2,hi⟩
 go:=λi Hs H s1 s2 hi=>by
  unfold gD at hi;rw[Pk] at hi;obtain⟨v,e,_⟩:=hr.get (NG hi);exact⟨vs,v,hq Hs H s1 s2,e⟩
 rD:=λi Hs H x H2 s1 s2 hi y=>by
  unfold gD at hi;rw[Pk] at hi;obtain⟨v,e,r⟩:=hr.get (NG hi);obtain⟨pa,v',hn,rfl,rfl,y1⟩:=y;have z1:=y1 vs (hq Hs H s1 s2);rw[e] at z1;cases z1;have gr:=bx.new (o:=.tup [.int (i:Nat),v]) s2 hn;refine⟨.tup [.int (i:Nat),xs[i]],_,?_,gr,.tup av (.cons (.int _) (.cons ((r.mono s1).mono gr.st) .nil))⟩;unfold gD;rw[R4,NG hi];rfl
theorem v5:uY E (FO K (tL E fs)) (oH Fo fs):=by
 intro σ H R q;refine fx (K:=KI R) KI.g q λB H₀ Hs H1 env ps v sr rp hp=>?_
 match ps,rp,hp with
 | [],_,hp=>exact hp.elim
 | _::_::_,_,hp=>exact hp.elim
 | [p],rp,hp =>
  obtain⟨w,rfl,LW⟩:=rp.one;cases LW with
  | lst ha hx=>exact⟨_,rfl,.inl ⟨⟨_,gK.of (sr.gr.sub _ _ ha)⟩,hp _ Hs H1 (.refl sr.gr.sub) (oY (λJ7 H' s1 s2=>gK.of (s2 _ _ (s1 _ _ ha))) hx)⟩⟩
  | gX ha hx=>exact⟨_,rfl,.inl ⟨⟨_,.inl (.inr ⟨_,sr.gr.sub _ _ ha⟩)⟩,hp _ Hs H1 (.refl sr.gr.sub) (oY (λJ7 H' s1 s2=>.inl (.inr ⟨_,s2 _ _ (s1 _ _ ha)⟩)) hx)⟩⟩
  | tup ha hx=>exact⟨_,rfl,.inr ⟨⟨_,gx.of (sr.gr.sub _ _ ha)⟩,hp _ Hs H1 (.refl sr.gr.sub) (yt (λJ7 H' s1 s2=>gx.of (s2 _ _ (s1 _ _ ha))) hx)⟩⟩
  | _=>exact hp.elim
end
end
def IS(E:St->XK)(f:ae->M Out):TS:=λD σ H=>∃ B H₀ Hs env,SR B H₀ Hs H σ env/\au (f env) (KS D B H₀) (XW (E σ) Hs H)
theorem xy{f:ae->M PV}{g:ae->PV->M Out}{D:Ends}{R:VK}(h:IS E (λenv=>(f env).bind (g env)) D σ H)
  (k:∀ B H₀ Hs H1 env p v,SR B H₀ Hs H1 σ env->Rep Hs p v->au (g env p) (KS D B H₀) (λ_=>True)->R v H1):tE E f σ H R:=by
 obtain⟨B,H₀,Hs,env,sr,h⟩:=h;refine⟨B,H₀,Hs,env,sr,(au.bind h).imp (λp hp v J7 H' g r=>?_) λe he=>he⟩;exact k B H₀ J7 H' env p v (sr.grow g) r (hp.imp (λ_ z=>z) λ_ _=>trivial)
section
variable{f:ae->M PV}
end
theorem SR.unset{B:Hp}{env:ae}(r:SR B H₀ Hs H σ env):SR B H₀ Hs H (σ.set i none) (env.set i none):=by
 have key:∀ (j:Nat) (q:SV),(env.set i none)[j]?=some (some q)->env[j]?=some (some q)/\i≠j:=λj q e=>by
  rw[NL] at e
  by_cases z:i=j
  .rw[if_pos z] at e
   split at e <;> cases e
  .rw[if_neg z] at e;exact⟨e,z⟩
 have old:∀ j,i≠j->(σ.set i none)[j]?=σ[j]?:=λj z=>by rw[NL,if_neg z]
 refine⟨r.gr,by rw[OJ,OJ];exact r.len,λj q e=>?_,λj xs e=>?_,λj k xs ys a n e1 e2 e3=>?_,λj a C fs e=>?_,λj k a b C D fs gs e1 e2=>?_⟩
 .obtain⟨e,z⟩:=key j _ e;rw[old j z];exact r.sh j q e
 .obtain⟨e,z⟩:=key j _ e;rw[old j z];exact r.ow j xs e
 .obtain⟨e1,z1⟩:=key j _ e1;obtain⟨e2,z2⟩:=key k _ e2;rw[old j z1] at e3;rw[old k z2];exact r.sep j k xs ys a n e1 e2 e3
 .obtain⟨e,z⟩:=key j _ e;rw[old j z];exact r.bd j a C fs e
 .exact r.one j k a b C D fs gs (key j _ e1).1 (key k _ e2).1
section
variable{f:ae->M PV}
theorem Ew(hN:X.N.Nodup)(hi:X.N[i]?=some x)(hx:Loc X.env.scope x)(he:PE X e (tE E f))(hs:autoParam (swapsWith e (some (.Name x pos')) pos.line X.env=pure false) aR._auto_1)(hf:autoParam (X.fn x=true\/X.env.scope.names.lookup x=some .local) aF._auto_1) :
  jy X [.Assign [.Name x pos'] e pos] (IS E (bc i f)):=by
 intro J2 s σ H D I q;exact rM (uh hN hi hx he hs hf) vq J2 s σ H D I (xy q λB H₀ Hs H1 env p v sr rp hp=>hp _ Hs H1 (sr.set rp))
end
abbrev Cx.mE(X:Cx)(pn:List (Addr×Obj)):Cx:={ X with pn:=pn }
abbrev Cx.hand(X:Cx)(ea:Addr):Cx:={ X with A:=X.A.mark (some (.ref ea)),calm:=false,xe:=λ_ _=>False }
section
variable{LB:List (Addr×Obj)}{ea:Addr}
theorem Cx.Ok.mE(ok:X.Ok)(pn:List (Addr×Obj)):(X.mE pn).Ok:=⟨ok.mod,ok.kind,ok.glob,ok.blt,ok.above,ok.inj,ok.has,ok.CB,ok.hd,ok.frames,ok.Fm,ok.E3,ok.bs,ok.xD,ok.oM,ok.qI,ok.jW,ok.Ar⟩
theorem Cx.Ok.nQ{pn:List (Addr×Obj)}(ok:(X.mE pn).Ok):X.Ok:=⟨ok.mod,ok.kind,ok.glob,ok.blt,ok.above,ok.inj,ok.has,ok.CB,ok.hd,ok.frames,ok.Fm,ok.E3,ok.bs,ok.xD,ok.oM,ok.qI,ok.jW,ok.Ar⟩
theorem Cx.Ok.hand(ok:X.Ok)(ea:Addr):(X.hand ea).Ok:=⟨ok.mod,ok.kind,ok.glob,ok.blt,ok.above,ok.inj,ok.has,ok.CB,(λz=>nomatch z),ok.frames,ok.Fm,ok.E3,ok.bs,ok.xD,ok.oM,ok.qI,ok.jW,ok.Ar⟩
theorem Inv.mE(I:Inv X J2 σ H s):Inv (X.mE (X.pn++J2)) [] σ H s:=⟨I.ok.mE _,I.os,I.bare,I.base,I.loc,I.cell,I.free,I.fm,(λp hp=>I.pin p (by rw[Oh] at hp;exact hp)),I.bg,I.len⟩
theorem Inv.nQ(I:Inv (X.mE (X.pn++J2)) LB σ H s):Inv X J2 σ H s:=⟨I.ok.nQ,I.os,I.bare,I.base,I.loc,I.cell,I.free,I.fm,(λp hp=>I.pin p (OI _ hp)),I.bg,I.len⟩
theorem Inv.hand(I:Inv X J2 σ H s)(ea:Addr):Inv (X.hand ea) J2 σ H s:=⟨I.ok.hand ea,I.os,I.bare,I.base,I.loc,I.cell,I.free,I.fm,I.pin,I.bg,I.len⟩
theorem Inv.gP(I:Inv (X.hand ea) J2 σ H s)(ok:X.Ok):Inv X J2 σ H s:=⟨ok,I.os,I.bare,I.base,I.loc,I.cell,I.free,I.fm,I.pin,I.bg,I.len⟩
theorem Inv.ye(I:Inv X J2 σ (iw Hc ea T C dd fl) s)(h1:Hc ea=some (dU C dd ea))(h2:Hc T=none)(h3:T≠ea):Inv X J2 σ Hc s:=by
 have no:∀ b,iw Hc ea T C dd fl b=none->Hc b=none:=λb e=>by
  by_cases z:b=ea
  .rw[z,kn] at e;cases e
  .by_cases z2:b=T
   .rw[z2];exact h2
   .rw[eP z z2] at e;exact e
 have so:∀ b o,iw Hc ea T C dd fl b=some o->(∀ φ,o≠.ext φ)->Hc b=some o:=λb o e n=>by
  by_cases z:b=ea
  .rw[z,kn] at e;cases e;exact absurd rfl (n _)
  .by_cases z2:b=T
   .rw[z2,j6 h3] at e;cases e;exact absurd rfl (n _)
   .rw[eP z z2] at e;exact e
 refine⟨I.ok,I.os,I.bare,⟨I.base.keep,I.base.slot,λb o e n hx=>no b (I.base.free b o e n hx),I.base.there,λb xs e=>so b _ (I.base.lB b xs e) (λ_ z=>nomatch z),λb o u e=>so b _ (I.base.iX b o u e) (λ_ z=>nomatch z),λb ps e=>?_⟩,I.loc,I.cell,no _ I.free,λx c e=>no _ (I.fm x c e),λp hp=>?_,λb o e=>?_,I.len⟩
 .obtain⟨more,q⟩:=I.base.kY b ps e;exact⟨more,so b _ q λ_ z=>nomatch z⟩
 .obtain⟨e,n,r⟩:=I.pin p hp;exact⟨e,no _ n,r⟩
 .by_cases z:b=ea
  .subst z;rw[h1] at e;cases e;obtain⟨vs,_,_,hx,_⟩:=I.qS h3;exact AY hx
  .by_cases z2:b=T
   .rw[z2,h2] at e;cases e
   .refine(I.bg b o (by rw[eP z z2];exact e)).jU (λ_ _ _ q=>q) (λc q=>so c _ q λ_ z=>nomatch z) λc xs q=>so c _ q λ_ z=>nomatch z
theorem Inv.gone{E:Value->Shared->Prop}{n:Str}{Q:Unit->Shared->Prop}(I:Inv X J2 σ H s)(hN:X.N.Nodup)(hi:X.N[i]?=some n)(hx:X.env.scope.names.lookup n=some .local)
  (h:∀ s',Inv X J2 (σ.set i none) H s'->Q () s'):wpAny (model X.prog X.w) A (do bindName X.env n .none;unbindBehindTheSuite X.env n pos) Q E s:=by
 obtain⟨m,hn,hl⟩:=id I.loc;have zp:=I.zp;refine wpAny_nameGoes_keeps hx hn (by rw[I.ok.kind];rfl) λh' v Nm hs=>?_;obtain⟨oL,_,_,hoL,_⟩:=id hn;have tracked:kI X.prog X.w H h':=λb ob e=>by
  refine(I.bg b ob e).jU (λc w' hc q=>(hs.2 c ?_).trans q) (λ_ q=>q) λ_ _ q=>q;rintro rfl;rcases hc with z | hc
  .rw[<- z,I.free] at e;cases e
  .rw[I.free] at hc;cases hc
 refine h _ ⟨I.ok,I.os,I.bare,⟨λb o e n hb hx=>?_,λb o e n hb hx=>?_,I.base.free,λb o e hx=>?_,I.base.lB,I.base.iX,I.base.kY⟩,⟨_,Nm,λj y v' e1 e2 e3=>?_⟩,λy c e=>?_,I.free,I.fm,λp hp=>?_,tracked,by simpa using I.len⟩
 .exact(hs.2 b (NR (NP (NN e) I.ok.above))).trans (I.base.keep b o e n hb hx)
 .obtain⟨sl,e1⟩:=I.base.slot b o e n hb hx;exact⟨sl,(hs.2 b (NR (NP (NN e) I.ok.above))).trans e1⟩
 .obtain⟨o',e1⟩:=I.base.there b o e hx;exact⟨o',(hs.2 b (NR (NP (NN e) I.ok.above))).trans e1⟩
 .have hj:i≠j:=λz=>by
   subst z;rw[NL,if_pos rfl] at e2
   split at e2 <;> cases e2
  rw[QI hj] at e2;obtain⟨u',r',q⟩:=hl j y v' e1 e2 e3;refine⟨u',r',?_⟩;rcases q with ⟨k,e⟩ | ⟨k,c,e,z⟩
  .refine .inl ⟨k,?_⟩;have:y≠n:=λe=>hj (nh hN hi (e▸e1));simp[this,e]
  .exact .inr ⟨k,c,e,z.sameBut hs (zp y c e)⟩
 .obtain⟨w',z⟩:=I.cell y c e;exact⟨w',z.sameBut hs (zp y c e)⟩
 .obtain⟨e,n,ne,nf,d⟩:=I.pin p hp;exact⟨(hs.2 p.1 ne).trans e,n,ne,nf,d⟩
end
abbrev Hd:=(Addr->Option Bool)×Option Nat×(ae->M Out)
def zy(i:Nat):Out->Out
 | .nx e=>.nx (e.set i none)
 | .bk e=>.bk (e.set i none)
 | .ct e=>.ct (e.set i none)
 | .rt p=>.rt p
def tK(o:Option Nat)(h:ae->M Out)(x:EX)(env:ae):M Out:=match o with
 | none=>Au (h env)
 | some i=>(Au (h (env.set i (some (.sh (.exc x.1 x.2)))))).bind λout=>M.ok (zy i out)
def uR(b:Option Bool)(x y:M Out):M Out:=match b with
 | some true=>x
 | some false=>y
 | none=>none
def gi:List Hd->EX->ae->M Out
 | [],_,_=>none
 | (t,o,h)::r,x,env=>uR (t x.1) (tK o h x env) (gi r x env)
def jV(r:M Out)(k:EX->M Out):M Out:=match r with
 | some (.error x)=>k x
 | r=>r
def pV(f:ae->M Out)(hs:List Hd):ae->M Out:=λenv=>jV (f env) λx=>gi hs x env
inductive Cj (X:Cx) (E:XK):List ExceptHandler->List Hd->Prop where
 | nil:Cj X E [] []
 | Fz {x:Str} {np pos:Pos} {b₀:Stmt} {Lf:List Stmt} {rest:List ExceptHandler} {t:Addr->Option Bool} {h:ae->M Out} {hs:List Hd} {D:Addr} (hg:Gl X x) (hm:X.mg x=some (.ref D)) (hd:(x==("__debug__" : Str))=false)
   (ht:∀ C b,t C=some b->PySem.W.exmOne X.K (.ref C) (.ref D)=some b) (hb:∀ ea,jy (X.hand ea) (b₀::Lf) (tS E h)) (r:Cj X E rest hs):Cj X E (.ExceptHandler (some (.Name x np)) none (b₀::Lf) pos::rest) ((t,none,h)::hs)
 | Cv {x n:Str} {i:Nat} {np pos:Pos} {b₀:Stmt} {Lf:List Stmt} {rest:List ExceptHandler} {t:Addr->Option Bool} {h:ae->M Out} {hs:List Hd} {D:Addr} (hg:Gl X x) (hm:X.mg x=some (.ref D)) (hd:(x==("__debug__" : Str))=false)
   (hN:X.N.Nodup) (hi:X.N[i]?=some n) (hx:X.env.scope.names.lookup n=some .local)
   (ht:∀ C b,t C=some b->PySem.W.exmOne X.K (.ref C) (.ref D)=some b) (hb:∀ ea,jy (X.hand ea) (b₀::Lf) (tS E h)) (r:Cj X E rest hs):Cj X E (.ExceptHandler (some (.Name x np)) (some n) (b₀::Lf) pos::rest) ((t,some i,h)::hs)
variable{hd:List Hd}{hls:List ExceptHandler}
section
variable{B:Hp}{ea:Addr}{E:XK}{env:ae}{fo:Option (List (Str×PV))}{D:Ends}{F:Value->Shared->Prop}
theorem SP.gP{D:Ends}{f:Flow}{s':Shared}(h:SP (X.hand ea) J2 D f s')(ok:X.Ok):SP X J2 D f s':=by
 cases f with
 | next=>obtain⟨σ',H',I,q⟩:=h;exact⟨σ',H',I.gP ok,q⟩
 | brk=>obtain⟨σ',H',I,q⟩:=h;exact⟨σ',H',I.gP ok,q⟩
 | cont=>obtain⟨σ',H',I,q⟩:=h;exact⟨σ',H',I.gP ok,q⟩
 | ret u=>obtain⟨v,σ',H',I,r,q⟩:=h;exact⟨v,σ',H',I.gP ok,r,q⟩
theorem au.err{r:M α}{Q:α->Prop}(h:au r Q (λ_=>False)):au r Q E':=h.imp (λ_ z=>z) λ_ z=>z.elim
def Ends.gone(D:Ends)(i:Nat):Ends:=⟨fun σ H=>D.nx (σ.set i none) H,D.rt,fun σ H=>D.bk (σ.set i none) H,fun σ H=>D.ct (σ.set i none) H⟩
theorem KS.gone{i:Nat}{o:Out}(h:KS D B H₀ (zy i o)):KS (D.gone i) B H₀ o:=by
 cases o with
 | nx e=>exact fun σ Hs H sr=>h _ Hs H sr.unset
 | bk e=>exact fun σ Hs H sr=>h _ Hs H sr.unset
 | ct e=>exact fun σ Hs H sr=>h _ Hs H sr.unset
 | rt p=>exact h
theorem ya{M:Model}{o:Obj}(hx:s.heap.get? ea=some o):PySem.W.Looks M s.heap (typeOf (.ref ea)) o.cls:=by
 intro A Q E s' k q;exact zk (k _ _ hx) q
theorem Cj.run(hh:Cj X E hls hd):∀ {s:Shared},Inv X J2 σ (iw Hc ea T C dd .none) s->Hc ea=some (dU C dd ea)->Hc T=none->T≠ea->SR B H₀ Hs Hc σ env->Rep Hs (.exc C fo) (.ref ea) ->
  au (gi hd (C,fo) env) (KS D B H₀) Z->wpAny (model X.prog X.w) X.A (handleBy (.ref ea) X.env hls) (SP X J2 D) F s:=by
 induction hh with
 | nil=>intro s I h1 h2 h3 sr rp q;exact q.elim
 | @Fz x np pos b₀ Lf rest t h hs Dc hg hm hd ht hb r ih =>
  intro s I h1 h2 h3 sr rp q;obtain⟨vs,oT,ts,hx,_⟩:=I.qS h3;refine Sf (RU (hW (I.hand ea) hg hm ?_ hd)) (λq=>nomatch q);have LT:=ya (M:=model X.prog X.w) hx;cases e:t C with
  | none=>simp only[gi,e,uR] at q;exact q.elim
  | some b =>
   refine(PySem.W.exm_one I.iH LT (ht C b e)).here ?_;cases b with
   | false =>
    simp only[gi,e,uR] at q;exact ih I h1 h2 h3 sr rp q
   | true =>
    simp only[gi,e,uR,tK] at q;refine codeAny_handlers_suite ((I.hand ea).jT (fr:=none) h3 λh' I2=>?_);refine N8 (hb ea J2 _ σ Hc D (I2.ye h1 h2 h3) ⟨B,H₀,Hs,env,sr,(au.Au q).err⟩) (λf s' z=>z.gP I.ok) λ_ _ z=>z.elim
 | @Cv x n i np pos b₀ Lf rest t h hs Dc hg hm hd hN hi hxn ht hb r ih =>
  intro s I h1 h2 h3 sr rp q;obtain⟨vs,oT,ts,hx,_⟩:=I.qS h3;refine Sf (RU (hW (I.hand ea) hg hm ?_ hd)) (λq=>nomatch q);have LT:=ya (M:=model X.prog X.w) hx;cases e:t C with
  | none=>simp only[gi,e,uR] at q;exact q.elim
  | some b =>
   refine(PySem.W.exm_one I.iH LT (ht C b e)).here ?_;cases b with
   | false =>
    simp only[gi,e,uR] at q;exact ih I h1 h2 h3 sr rp q
   | true =>
    simp only[gi,e,uR,tK] at q;refine codeAny_handlers_suite_as ((I.hand ea).jT (fr:=none) h3 λh' I2=>?_);refine mT (X:=X.hand ea) (v:=.ref ea) (i:=i) (I2.ye h1 h2 h3) hN hi (.inl hxn) rfl (λs3 I3=>?_) (.inr hxn);refine N8 (hb ea J2 _ _ Hc (D.gone i) I3 ⟨B,H₀,Hs,_,sr.set rp,(au.Au (E:=Z) ?_).err⟩) (λf s' z=>?_) λ_ _ z=>z.elim
    .exact(au.bind q).imp (λo z=>KS.gone z) λ_ z=>z
    .cases f with
     | next=>obtain⟨σ',H',I4,d⟩:=z;exact(I4.gP I.ok).gone hN hi hxn λs5 I5=>⟨_,H',I5,d⟩
     | brk=>obtain⟨σ',H',I4,d⟩:=z;exact(I4.gP I.ok).gone hN hi hxn λs5 I5=>⟨_,H',I5,d⟩
     | cont=>obtain⟨σ',H',I4,d⟩:=z;exact(I4.gP I.ok).gone hN hi hxn λs5 I5=>⟨_,H',I5,d⟩
     | ret u=>obtain⟨v,σ',H',I4,rv,d⟩:=z;exact(I4.gP I.ok).gone hN hi hxn λs5 I5=>⟨v,_,H',I5,rv,d⟩
theorem Ds{h₀:ExceptHandler}{f:ae->M Out}(Ke:X.stack=X.env::X.outer)(hf:X.env.frame=some X.env.locals)
  (hb:∀ (pn:List (Addr×Obj)) (E2:St->XK),eA ((X.mE pn).out E2) E2->jy ((X.mE pn).out E2) body (IS E2 f)) (hh:Cj X E (h₀::hls) hd):PS X (.Try body (h₀::hls) [] [] pos) (tS E (pV f hd)):=by
 intro J2 s σ H D I q;obtain⟨B,H₀,Hs,env,sr,q⟩:=q;refine wpAny_Try_except ?_
 let E2:St->XK:=fun σ v _ Hc=>∃ Hs C fo ea,v=.ref ea/\SR B H₀ Hs Hc σ env/\Rep Hs (.exc C fo) (.ref ea)/\au (gi hd (C,fo) env) (KS D B H₀) (XW E B H₀)
 have q1:au (f env) (KS D B H₀) (XW (E2 σ) Hs H):=by
  unfold pV at q;cases e:f env with
  | none=>rw[e] at q;exact q
  | some r =>
   rw[e] at q;cases r with
   | ok o=>exact q
   | error x=>exact λea J7 H' g rp=>⟨J7,x.1,x.2,ea,rfl,sr.grow g,rp,q⟩
 refine N8 (hb (X.pn++J2) E2 (yJ Ke hf) [] s σ H D (I.mE.kK _) ⟨B,H₀,Hs,env,sr,q1⟩) (λfl s1 hq=>?_) (λe s1 z=>?_)
 .cases fl with
  | next=>obtain⟨σ',H',I',d⟩:=hq;exact Qk ⟨σ',H',I'.cL.nQ,d⟩
  | brk=>obtain⟨σ',H',I',d⟩:=hq;exact⟨σ',H',I'.cL.nQ,d⟩
  | cont=>obtain⟨σ',H',I',d⟩:=hq;exact⟨σ',H',I'.cL.nQ,d⟩
  | ret u=>obtain⟨v,σ',H',I',r,d⟩:=hq;exact⟨v,σ',H',I'.cL.nQ,r,d⟩
 .refine Zx.note (X:=X.mE (X.pn++J2)) z Ke hf λs' ea C dd LB σ' Hc T he I2 h1 h2 h3 h4=>?_;subst he;refine I2.jT (fr:=none) h3 λh' I3=>?_;obtain⟨J7,C',fo,ea',ee,Li,rp,hp⟩:=h4;cases ee;have I4:=I3.ye h1 h2 h3;have eC:C'=C:=by
   obtain⟨vs,hx⟩:=I4.m9 h1;cases rp with
   | t_ hr =>
    obtain⟨vs2,Lb⟩:=I4.m9 (Li.gr.sub _ _ hr);rw[hx] at Lb;injection Lb with Lb;injection Lb with Lb;injection Lb with Lb;exact Lb.symm
   | sJ hr _ _ =>
    obtain⟨vs2,Lb⟩:=I4.m9 (Li.gr.sub _ _ hr);rw[hx] at Lb;injection Lb with Lb;injection Lb with Lb;injection Lb with Lb;exact Lb.symm
  subst eC;exact hh.run I3.nQ h1 h2 h3 Li rp hp
end
def md(ys ns:List Addr)(C:Addr):Option Bool:=if ys.contains C=true then some true else if ns.contains C=true then some false else none
variable{ns:List Addr}
theorem nA{ys:List Addr}(h:md ys ns C=some b):(b=true/\C∈ys)\/(b=false/\C∈ns):=by
 unfold md at h
 by_cases h1:ys.contains C=true
 .rw[if_pos h1] at h;cases h;exact .inl ⟨rfl,by simpa using h1⟩
 .rw[if_neg h1] at h
  by_cases h2:ns.contains C=true
  .rw[if_pos h2] at h;cases h;exact .inr ⟨rfl,by simpa using h2⟩
  .rw[if_neg h2] at h;cases h
def tD(f:Addr->Option Bool)(ys ns:List Addr):Bool:=ys.all (λC=>f C==some true)&&ns.all λC=>f C==some false
theorem ue{f:Addr->Option Bool}{ys:List Addr}(h:tD f ys ns=true)(e:md ys ns C=some b):f C=some b:=by
 unfold tD at h;rw[Oz,NY,NY] at h;rcases nA e with ⟨rfl,m⟩ | ⟨rfl,m⟩
 .exact eq_of_beq (h.1 C m)
 .exact eq_of_beq (h.2 C m)
structure IY (K:PySem.W.Frag) (mg:Str->Option Value) (x:Str) (D:Addr) (ys ns:List Addr):Prop where
 mg:mg x=some (.ref D)
 ok:∀ C b,md ys ns C=some b->PySem.W.exmOne K (.ref C) (.ref D)=some b
theorem IY.of{K:PySem.W.Frag}{ys:List Addr}(h1:mg x=some (.ref D))(h2:tD (λC=>PySem.W.exmOne K (.ref C) (.ref D)) ys ns=true):IY K mg x D ys ns:=⟨h1,λ_ _ e=>ue h2 e⟩
theorem gv{p:α->Prop}:∀ x∈([]:List α),p x:=λ_ h=>nomatch h
theorem kG{p:α->Prop}{a:α}{l:List α}(h:p a)(r:∀ x∈l,p x):∀ x∈a::l,p x:=λx m=>by
 rcases NU.mp m with rfl | m
 .exact h
 .exact r x m
def uB:List String:=["NoneType", "bool", "int", "str", "tuple", "list", "dict"]
theorem Bx{a:String}(h:B1 p=some a):a∈uB:=by
 cases p <;> first | (cases h;decide) | cases h
structure A1 (K:PySem.W.Frag) (mg:Str->Option Value) (x:Str) (D:Addr) (ys ns yo no:List Addr):Prop where
 mg:mg x=some (.ref D)
 ty:∀ p a,B1 p=some a->PySem.W.kitOne K (.type a) (.ref D)=some false
 ob:∀ C b,md yo no C=some b->tW K C/\PySem.W.kitOne K (.ref C) (.ref D)=some b
 oe:∀ C b,md ys ns C=some b->ez K C/\PySem.W.kitOne K (.ref C) (.ref D)=some b
theorem A1.of{K:PySem.W.Frag}{ys yo no:List Addr}(h1:mg x=some (.ref D))(h2:(uB.all λa=>PySem.W.kitOne K (.type a) (.ref D)==some false)=true)
  (h3:tD (λC=>PySem.W.kitOne K (.ref C) (.ref D)) yo no=true) (h4:tD (λC=>PySem.W.kitOne K (.ref C) (.ref D)) ys ns=true) (o1:∀ C∈yo,tW K C) (o2:∀ C∈no,tW K C) (e1:∀ C∈ys,ez K C) (e2:∀ C∈ns,ez K C):A1 K mg x D ys ns yo no where
 mg:=h1
 ty:=λp a h=>by
  rw[NY] at h2;exact eq_of_beq (h2 a (Bx h))
 ob:=λC b h=>⟨by rcases nA h with ⟨_,m⟩ | ⟨_,m⟩ <;> first | exact o1 C m | exact o2 C m,ue h3 h⟩
 oe:=λC b h=>⟨by rcases nA h with ⟨_,m⟩ | ⟨_,m⟩ <;> first | exact e1 C m | exact e2 C m,ue h4 h⟩
section
variable{p px pt:Pos}{f:ae->M PV}{ys yo no:List Addr}
theorem A1.is(c:A1 X.K X.mg x D ys ns yo no)(hg:Gl X "isinstance")(hm:X.mg "isinstance" = none)(hx:Gl X x)(he:PE X e (tE E f))(hd:autoParam ((x==("__debug__" : Str))=false) aD._auto_1)
  (h1:autoParam (starEach [e,.Name x pt] X.env=(false,eval e X.env)::starEach [.Name x pt] X.env) aR._auto_1) (h2:autoParam (starEach [.Name x pt] X.env=(false,eval (.Name x pt) X.env)::starEach [] X.env) aR._auto_1) (Kp:autoParam ((backTo pos (starEach [.Name x pt] X.env)).any (·.1)=false) aR._auto_1) :
  PE X (.Call (.Name "isinstance" p) [e,.Name x pt] [] pos) (tE E (lu (λ_=>false) (md yo no) (md ys ns) f)) :=
 DK hg hm (vE hx c.mg rfl hd) c.ty c.ob c.oe he h1 h2 Kp
end
section
variable{f g:ae->M PV}
def Cz:List V->Hp->VK->Prop:=λxs H Q=>∃ b,xs=[.bl b]/\Q (.int (if b then 1 else 0)) H
theorem xp:cO X (.type "int") Cz:=by
 intro J2 s σ H xs us Q I r h;obtain⟨b,rfl,q⟩:=h;obtain⟨u,rfl,rx⟩:=vals1 r;cases rx;exact call_int_bool ⟨.int _,H,I.kept (t':=s.toks+1) λ_ _ z=>z,⟨_,rfl⟩,q⟩
def FY:PV->M PV
 | .bl b=>M.ok (.int (if b then 1 else 0))
 | _=>none
def yu:List PV->M PV
 | [p]=>FY p
 | _=>none
theorem BD:jr E Cz yu:=by
 intro σ Hs H ps vs Q s rp h
 match ps,rp,h with
 | [],_,h=>exact h.elim
 | _::_::_,_,h=>exact h.elim
 | [p],rp,h =>
  obtain⟨w,rfl,LW⟩:=rp.one;cases LW with
  | bl b=>exact⟨b,rfl,cj.flat h s (.int _)⟩
  | _=>exact h.elim
end
section
open PySem PySem.Spec PyProof.Rows _root_.HT
section
variable{E:Value->Shared->Prop}
theorem ku{t sl:Addr}{vl vu:Value}{lo hi:Option Int}(ht:IsTup s.heap t J3)(hs:s.heap.IsSliceOf sl vl vu .none)(pl:IsPart vl lo)(pu:IsPart vu hi)
  (hw:dc J3.size 0 lo=0/\dc J3.size J3.size hi=J3.size) (h:Q (.ref t) s):wpAny (model prog w) A (getItem (.ref t) (.ref sl)) Q E s:=by
 obtain⟨os,ML,Mx,MI⟩:=id hs;have hTs:s.TypeIs (.ref sl) "slice" := ⟨os,ML,Mx⟩
 unfold getItem
 try with_reducible refine Ou ?_
 first | refine NB (NH ?_) | skip
 refine NB (SG ht.typeIs (by decide) ?_);refine NB (OH (name:=NC "__getitem__") ht.typeIs Ov
  (Pb Ov ht.typeIs Sa ?_ (Sn _ _)))
 show wpAny _ _ (Q6 (.ref t) >>= _) _ _ s;refine NB (tupleItemsOf_ ht ?_);refine NB (SH hTs ?_);rw[if_pos (by decide)];refine NB (gZ hs pl pu ?_);have hyes:(((dc J3.size 0 lo:Nat):Int)==0&&(1:Int)==1&&(dc J3.size J3.size hi-dc J3.size 0 lo)==J3.size)=true:=by
  rw[hw.1,hw.2];simp
 show wpAny _ _ (if (((dc J3.size 0 lo:Nat):Int)==0&&(1:Int)==1&&(dc J3.size J3.size hi-dc J3.size 0 lo)==J3.size)=true then _ else _) _ _ s;rw[if_pos hyes];unfold Builtin.Tuple.tupleIsExact;refine NB (NB (SH ht.typeIs (NH ?_)));rw[if_pos (show ((OW "tuple" == OW "tuple")=true) from beq_self_eq_true _)];refine NB (RH ?_)
 first
  | exact NB (NH (NH ⟨_,rfl,NH h⟩))
  | exact NB (NH ⟨_,rfl,NH h⟩)
  | exact NH ⟨_,rfl,NH h⟩
end
section
variable{lo hi:Option Expr}{p2:Pos}{f:ae->M PV}{gl gh:ae->M (Option Int)}
def HR(K:PySem.W.Frag):V->Option Int->Option Int->Hp->VK->Prop:=λx lo hi H Q=>∃ a xs,x=.ref a/\gx K H a xs/\(dc xs.length 0 lo=0/\dc xs.length xs.length hi=xs.length)/\Q (.ref a) H
theorem Aw:Ae X (HR X.K):=by
 intro J2 s σ H x v vl vu lo hi sl Q I rx hs pl pu h;obtain⟨a,xs,rfl,hx,hw,q⟩:=h;cases rx;obtain⟨J6,r,ht,hz⟩:=I.tuple hx;have hlen:J6.toArray.size=xs.length:=by rw[NT];exact r.length.symm
 refine⟨"tuple", _,Ov.lookup,ht.typeIs,?_⟩;exact ku ht hs pl pu (by rw[hlen];exact hw) ⟨.ref a,H,I,rfl,q⟩
def De(p:PV)(lo hi:Option Int):M PV:=match p with
 | .tup xs=>M.ok (.tup (jj xs lo hi))
 | .lst xs=>M.ok (.lst (jj xs lo hi))
 | .gX xs=>M.ok (.lst (jj xs lo hi))
 | _=>none
def fH(f:ae->M PV)(lo hi:ae->M (Option Int)):ae->M PV:=λenv=>(f env).bind λp=>(lo env).bind λl=>(hi env).bind λh=>De p l h
theorem eD(he:PE X e (tE E f))(hl:PO X lo (Fn E gl))(hh:PO X hi (Fn E gh)):PE X (.Subscript e (.Slice lo hi none p2) pos) (tE E (fH f gl gh)):=by
 refine(rT (Ae.or EK (Ae.or Aw AQ)) he hl hh).imp fun σ H Q q=>bw (K:=il Q) il.g q λB H₀ Hs H1 env p v sr rp hp=>?_;refine⟨B,H₀,Hs,env,sr,(au.bind hp).imp (λl hl Ka H2 g2=>?_) λe he=>he⟩;have Km:=sr.grow g2;refine⟨B,H₀,Ka,env,Km,(au.bind hl).imp (λh hh K_ H3 g3=>?_) λe he=>he.grow g2⟩;have LH:=Km.grow g3;have hz:au (De p l h) (cj K_ H3 Q) (λ_=>True):=hh.imp (λz hz w M1 H4 g4 r=>hz w M1 H4 ((g2.trans g3).trans g4) r) λ_ _=>trivial;have rp3:=(rp.mono g2.st).mono g3.st;cases rp3 with
 | @tup a xs vs ha hx =>
  by_cases hn:dc xs.length 0 l=0/\dc xs.length xs.length h=xs.length
  .refine .inr (.inl ⟨_,_,rfl,gx.of (LH.gr.sub _ _ ha),by rw[<- hx.length];exact hn,?_⟩);have e:jj xs l h=xs:=by
    unfold jj;rw[hn.1,hn.2,R5,Nat.sub_zero,List.take_length]
   have Ma:cj K_ H3 Q (.tup xs):=by
    have z:cj K_ H3 Q (.tup (jj xs l h)):=hz;rw[e] at z;exact z
   exact cj.flat Ma LH.gr.sub (.tup ha hx)
  .exact .inl ⟨_,_,rfl,gx.of (LH.gr.sub _ _ ha),by rw[<- hx.length];exact hn,cj.tup hz LH.gr.sub (hx.cut l h)⟩
 | lst ha hx=>exact .inr (.inr ⟨_,_,rfl,gK.of (LH.gr.sub _ _ ha),cj.lst hz LH.gr.sub (hx.cut l h)⟩)
 | gX ha hx=>exact .inr (.inr ⟨_,_,rfl,.inl (.inr ⟨_,LH.gr.sub _ _ ha⟩),cj.lst hz LH.gr.sub (hx.cut l h)⟩)
 | _=>exact hz.elim
end
end
def JE(ys:List Addr)(f:Str):PV->M PV
 | .exc C (some fs)=>bG (ys.contains C=true) (eN (fs.lookup f))
 | _=>none
def Ha(ys:List Addr)(f:Str)(g:ae->M PV):ae->M PV:=λenv=>(g env).bind (JE ys f)
theorem yX{g:ae->M PV}{ys:List Addr}{f:Str}(he:PE X e (tE E g))(hy:∀ C∈ys,ez X.K C/\bP X.K C f)(hb:attributeBase e f X.env (eval e X.env)=eval e X.env):PE X (.Attribute e f pos) (tE E (Ha ys f g)):=by
 refine(BS he hb).imp fun σ H Q q=>bw (K:=il Q) il.g q λB H₀ Hs H1 env p v sr rp hp=>?_;cases p with
 | exc C fo =>
  cases fo with
  | none=>exact hp.elim
  | some fs =>
   obtain⟨m,hp⟩:=au.bG hp;obtain⟨x,ex,hp⟩:=au.opt hp;have m':C∈ys:=by simpa using m
   cases rp with
   | @sJ a _ d _ vs h1 h2 h3 =>
    obtain⟨u,h4,h5⟩:=h3.look ex;exact⟨a,C,vs,u,rfl,⟨d,sr.gr.sub _ _ h1,sr.gr.sub _ _ h2⟩,(hy C m').1,(hy C m').2,h4,cj.flat hp sr.gr.sub h5⟩
 | _=>exact hp.elim
section
variable{g:ae->M PV}{fs:ae->M (List PV)}{L:List (Addr×(List PV->M PV))}{K:PySem.W.Frag}
end
section
open PySem.SeqAt (shaped EqAt RcAt RcNeAt)
section
variable{b:Addr}
end
end
end L2
namespace HT
open PySem PyProof.Rows
variable{E:Value->Shared->Prop}{A:Around}{w:World}{prog:Program}
section
variable{a b v:Value}{k:Bool}{I S ax:Addr}{t:Shared}{n:Nat}{R:Result->Shared->Prop}
end
section
open PySem.SeqAt
open PySem.AutoSeq1 (wpAny_loadPart')
open PySem.MeetsSeq PySem.MeetsSeq2 PySem.MeetsSeq3
end
section
variable{s:Shared}
end
end HT
namespace L2
open PySem PySem.Spec PyProof.Rows
variable{E:St->XK}{X:Cx}
variable{js:List Nat}{ts:List Str}{wi:TI}{pos:Pos}{scope:Scope}{tg elt iter:Expr}
variable{y:Str}{i:Nat}
section
variable{c:Expr}{cl:List (Str×Addr)}{it:ae->M (List PV)}{g:TG}{set:PV->ae->M ae}{f:ae->M PV}{fs:List Str}
variable{E:XK}{py Lv:Pos}
end
section
variable{c:Expr}{cl:List (Str×Addr)}{it:ae->M (List PV)}{g:TG}{set:PV->ae->M ae}{f:ae->M PV}{u:ae->M Bool}{fs:List Str}
variable{E:XK}{py Lv:Pos}
end
variable{apos J_:Pos}{o:Expr}
section
variable{f:ae->M PV}
end
variable{A:Around}{k:Nat}
theorem bU.JH(r:bU k A):A.units+65<cLine:=by have:=r.un;lia
variable{s:Shared}
section
open PySem.SeqAt (shaped)
def Fw(s:Shared)(d:PyData)(w:Value):Bool:=@decide (∃ d' as,Reads s.heap w d' as/\d'.canLay0=true/\PR d' d=true) (Qq _)
theorem yB{d d':PyData}{w:Value}{as:List Addr}(r:Reads s.heap w d' as)(h:d'.canLay0=true):Fw s d w=PR d' d:=by
 unfold Fw;cases e:PR d' d with
 | true=>exact @decide_eq_true _ (Qq _) ⟨d',as,r,h,e⟩
 | false =>
  refine @decide_eq_false _ (Qq _) ?_;rintro⟨d2,as2,r2,h2,e2⟩;rw[SeqAt.Reads.unique d' d2 w as as2 h r r2,e2] at e;cases e
def FW(K:PySem.W.Frag):R2:=λx y H Q=>∃ Hs p ps vs a d ds,aY Hs H/\Rep Hs p x/\y=.ref a/\gK K H a vs/\aE Hs ps vs/\dat p=some d/\gp ps=some ds/\shaped d=true/\ds.all shaped=true/\Q (.bl (ds.any λe=>PR e d)) H
theorem vg{J2:List (Addr×Obj)}{σ:St}{H Hs:Hp}{s:Shared}(I:Inv X J2 σ H s)(sm:aY Hs H){d:PyData}:∀ {ps:List PV} {vs:List V} {us:List Value} {ds:List PyData},aE Hs ps vs->Vals vs us->gp ps=some ds->ds.all shaped=true->us.any (Fw s d)=(ds.any λe=>PR e d)/\∀ w∈us,∃ d' as,Reads s.heap w d' as/\shaped d'=true
 | [],_,_,_,.nil,.nil,e,_=>by cases e;exact⟨rfl,by simp⟩
 | p::r,_,_,_,.cons h t,.cons h2 t2,e,hs=>by
  obtain⟨d1,e1,e2⟩:=PM.mp e;obtain⟨ds,e3,rfl⟩:=N4.mp e2;obtain⟨as,rd⟩:=Rep.reads I sm h h2 e1;rw[PF,Oz] at hs;obtain⟨a,b⟩:=vg I sm t t2 e3 hs.2;refine⟨by rw[Qh,Qh,a,yB rd (PU hs.1)],λw hw=>?_⟩;rcases NU.mp hw with rfl | hw
  .exact⟨_,_,rd,hs.1⟩
  .exact b w hw
theorem ER(hu:X.A.units+65<cLine):fF X (compareOp .In) (FW X.K):=by
 intro J2 s σ H x y v u Q I rx ry h;obtain⟨Hs,p,ps,vs,a,d,ds,sm,rp,rfl,hq,rl,hd,MI,h1,h2,q⟩:=h;cases ry;obtain⟨J6,r,pl,hz⟩:=I.list hq;obtain⟨as,rv⟩:=Rep.reads I sm rp rx hd;obtain⟨e1,e2⟩:=vg (d:=d) I sm rl r MI h2;refine SeqAt.in_listAt (Fw s d) pl.isList (λw hw=>?_) ⟨.bl _,H,I,rfl,?_⟩
 .obtain⟨d',as',rd,hs⟩:=e2 w (by simpa using hw);rw[yB rd (PU hs)];exact SeqAt.eqAt_reads d' d _ _ _ _ _ _ rd rv (PU hs) (PU h1) (SeqAt.room_of_shaped hs (show X.A.units+1+64<cLine by lia))
 .rw[show J6.toArray.any (Fw s d)=J6.any (Fw s d) by simp,e1];exact q
def inD(p q:PV):M PV:=match dat p,q with
 | some d,.lst ps=>(match gp ps with
  | some ds=>bG (shaped d=true/\ds.all shaped=true) (M.ok (.bl (ds.any λe=>PR e d)))
  | none=>none)
 | _,_=>none
theorem C8{K:PySem.W.Frag}:jl E (FW K) inD:=by
 intro σ Hs H p q v u Q s rp rq h;unfold inD at h
 split at h
 .rename_i d ps e1
  split at h
  .rename_i ds e2;obtain⟨⟨h1,h2⟩,h⟩:=au.bG h;cases rq with
   | lst ha hx=>exact⟨Hs,p,ps,_,_,d,ds,s,rp,rfl,gK.of (s _ _ ha),hx,e1,e2,h1,h2,cj.flat h s (.bl _)⟩
  .exact h.elim
 .exact h.elim
end
variable{H:Hp}{σ:St}{J2:List (Addr×Obj)}
variable{Q:Unit->Shared->Prop}{dd:Option Addr}{C L:Addr}{Hc:Hp}{Kd:List Env}
theorem Inv.CG{bQ:Env}{e:Addr}{to:Option Addr}{vs:Array Value}{φ:Heap->Prop}{E:Value->Shared->Prop}(I:Inv X J2 σ H s)(Ke:X.stack=bQ::Kd)(hf:bQ.frame=some L)
  (he:H e=some (.ext φ)) (hx:s.heap.get? e=some ⟨.ref C,dd,.fields vs,#[]⟩) (lies:Lies s.heap e vs to) (hT:∀ T,to=some T->(∃ ψ,H T=some (.ext ψ))/\Hc T=none) (hc:∀ b,b≠e->(∀ T,to=some T->b≠T)->Hc b=H b)
  (h:∀ h' T,Hc T=none->T≠e->Inv X J2 σ (iw Hc e T C dd (rawInt L)) { s with heap:=h' }->Q () { s with heap:=h' }) :
  wpAny (model X.prog X.w) X.A (noteFrame (.ref e) bQ) Q E s:=by
 have hl:=I.stack;have LZ:=I.ok.frames;have sf:=I.j3;rw[Ke] at hl LZ sf;refine pB (base:=X.base) LZ hl hf hx rfl lies λh' T oT ts a1 a2 a3 a4 a5 a6 a7 a8 a9=>?_;have M_:H T=none:=I.bg.fresh a2;have nT:∀ b u,H b=some u->b≠T:=λb u q z=>by rw[z,M_] at q;cases q
 have La:∀ b u,H b=some u->(∀ ψ,u≠.ext ψ)->b≠e/\∀ T0,to=some T0->b≠T0:=by
  intro b u q hu;refine⟨λz=>?_,λT0 z w=>?_⟩
  .rw[z,he] at q;exact hu _ (NX q).symm
  .obtain⟨⟨ψ,q2⟩,_⟩:=hT T0 z;rw[w,q2] at q;exact hu _ (NX q).symm
 have old:∀ b u,H b=some u->(∀ ψ,u≠.ext ψ)->iw Hc e T C dd (rawInt L) b=some u:=λb u q hu=>by
  obtain⟨n1,n2⟩:=La b u q hu;rw[eP n1 (nT b u q),hc b n1 n2];exact q
 have MB:Hc T=none:=by
  by_cases z:∃ T0,to=some T0/\T=T0
  .obtain⟨T0,z1,z2⟩:=z;rw[z2];exact(hT T0 z1).2
  .rw[hc T a3 λT0 z1 z2=>z ⟨T0,z1,z2⟩];exact M_
 have un:∀ b o,s.heap.get? b=some o->H b=none->b≠e/\(∀ T0,to=some T0->b≠T0)/\b≠T:=by
  intro b o q n;refine⟨λz=>?_,λT0 z w=>?_,NR (NP (NN q) a2)⟩
  .rw[z,he] at n;cases n
  .obtain⟨⟨ψ,q2⟩,_⟩:=hT T0 z;rw[w,q2] at n;cases n
 refine h h' T MB a3 ?_;have U:Un (qW X.stack) [] H (iw Hc e T C dd (rawInt L)) s.heap h':=by
  rw[Ke];refine⟨λb o q n nf _=>?_,λb o q n _ _=>?_,λb o q n _=>?_,λb o q _=>a9 b o q,λb xs q=>old b _ q (λ_ z=>nomatch z),λb ob u q=>old b _ q (λ_ z=>nomatch z),λb ps q=>⟨#[],?_⟩⟩
  .obtain⟨n1,n2,_⟩:=un b o q n;exact a7 b o n1 n2 nf q
  .obtain⟨n1,n2,_⟩:=un b o q n;exact a8 b o n1 n2 q
  .obtain⟨n1,n2,n3⟩:=un b o q n;rw[eP n1 n3,hc b n1 n2];exact n
  .rw[old b _ q (λ_ z=>nomatch z)];simp
 have ok:kI X.prog X.w (iw Hc e T C dd (rawInt L)) h':=λb u q=>by
  by_cases z:b=e
  .subst z;rw[kn] at q;cases q;refine⟨⟨_,a1,?_⟩,⟨_,a1⟩,λh1 h2 ⟨ws,q1,q2⟩ k=>⟨ws,k _ q1,q2⟩⟩;have Lh:1<vs.size:=by
    cases to with
    | none=>exact(Oj.mp (show vs[1]?=some .none from lies)).1
    | some T0=>exact(Oj.mp lies.1).1
   simp[Lh]
  .by_cases z2:b=T
   .subst z2;rw[j6 a3] at q;cases q;exact⟨⟨oT,ts,a4,a5,a6⟩,⟨_,a4⟩,λh1 h2 ⟨o1,t1,q1,q2,q3⟩ k=>⟨o1,t1,k _ q1,q2,q3⟩⟩
   .rw[eP z z2] at q;have z3:∀ T0,to=some T0->b≠T0:=λT0 w w2=>by rw[w2,(hT T0 w).2] at q;cases q
    rw[hc b z z3] at q;have nf:∀ c u',H c=some u'->c ∉ qW (bQ::Kd):=λc u' q' hm=>by have:=sf c hm;rw[q'] at this;cases this
    refine(I.bg b u q).jU (λc v LY q'=>?_) (λc q'=>old c _ q' (λ_ z=>nomatch z)) λc xs q'=>old c _ q' (λ_ z=>nomatch z);rcases LY with rfl | LY
    .exact a7 c v z z3 (nf c u q) q'
    .obtain⟨n1,n2⟩:=La c _ LY (λ_ z=>nomatch z);exact a7 c v n1 n2 (nf c _ LY) q'
 exact I.call (ch:=[]) U ok I.bare (λb z=>absurd z (by simp))
theorem Inv.DC{bQ:Env}{e T:Addr}{fl:Value}{E:Value->Shared->Prop}(I:Inv X J2 σ (iw Hc e T C dd fl) s)(Ng:fl=.none\/fl=rawInt L)(n:T≠e)(MB:Hc T=none)(Ke:X.stack=bQ::Kd)(hf:bQ.frame=some L)
  (h:∀ h' T,Hc T=none->T≠e->Inv X J2 σ (iw Hc e T C dd (rawInt L)) { s with heap:=h' }->Q () { s with heap:=h' }) :
  wpAny (model X.prog X.w) X.A (noteFrame (.ref e) bQ) Q E s:=by
 obtain⟨vs,oT,ts,hx,h1,hT,hd,h3⟩:=I.qS n;rcases Ng with rfl | rfl
 .refine I.CG (Hc:=Hc) (to:=some T) Ke hf kn hx ⟨h1,n,oT,ts,hT,hd,h3⟩ (λT0 z=>?_) (λb n1 n2=>(eP n1 (n2 T rfl)).symm) h;cases z;exact⟨⟨_,j6 n⟩,MB⟩
 .unfold noteFrame;simp only[hf];refine NB (N_ hx rfl h1 ?_);rw[if_pos (show (NQ T != Oe)=true from by simp)];refine NB (N_ hT hd h3 ?_);rw[if_pos (show (rawInt L==rawInt L)=true from by simp)];exact NH (h s.heap T MB n I)
theorem Inv.CZ{bQ:Env}{e:Addr}{E:Value->Shared->Prop}(I:Inv X J2 σ H s)(he:H e=some (iE C dd e))(Ke:X.stack=bQ::Kd)(hf:bQ.frame=some L)
  (h:∀ h' T,upd H e (dU C dd e) T=none->T≠e->Inv X J2 σ (iw (upd H e (dU C dd e)) e T C dd (rawInt L)) { s with heap:=h' }->Q () { s with heap:=h' }) :
  wpAny (model X.prog X.w) X.A (noteFrame (.ref e) bQ) Q E s:=by
 obtain⟨t,hx⟩:=(I.bg e _ he).1;exact I.CG (Hc:=upd H e (dU C dd e)) (to:=none) Ke hf he hx rfl (λ_ z=>by cases z) (λb n1 _=>ar n1) h
variable{e:Value}
theorem uE{env bQ:Env}(h:env.frame=bQ.frame):noteFrame e env=noteFrame e bQ:=by
 unfold noteFrame PySem.frameOf;rw[h]
def ZL (X : Cx) (L : Addr) (E : XK) (e : Value) (s : Shared) : Prop := ∃ (ea C : Addr) (dd : Option Addr) (J2 : List (Addr × Obj)) (σ : St), e = .ref ea ∧
  ((∃ H, Inv X J2 σ H s /\ H ea = some (iE C dd ea) /\ E (.ref ea) none (upd H ea (dU C dd ea))) ∨
   (∃ Hc T fl, Inv X J2 σ (iw Hc ea T C dd fl) s /\ (fl = .none \/ fl = rawInt L) /\ Hc ea = some (dU C dd ea) /\ Hc T = none /\ T ≠ ea /\ E (.ref ea) none Hc))
theorem ZL.note{E:XK}{bQ:Env}{F:Value->Shared->Prop}(z:ZL X L E e s)(Ke:X.stack=bQ::Kd)(hf:bQ.frame=some L)(hx:X.env.frame=bQ.frame)
  (h:∀ s' ea C dd J2 σ Hc T,e=.ref ea->Inv X J2 σ (iw Hc ea T C dd (rawInt L)) s'->Hc ea=some (dU C dd ea)->Hc T=none->T≠ea->E (.ref ea) none Hc->Q () s') :
  wpAny (model X.prog X.w) X.A (noteFrame e X.env) Q F s:=by
 rw[uE hx];obtain⟨ea,C,dd,J2,σ,rfl,⟨H,I,h1,h2⟩ | ⟨Hc,T,fl,I,h1,h2,h3,h4,h5⟩⟩:=z
 .exact I.CZ h1 Ke hf λh' T q1 q2 I2=>h _ ea C dd J2 σ _ T rfl I2 av q1 q2 h2
 .exact I.DC h1 h4 h3 Ke hf λh' T q1 q2 I2=>h _ ea C dd J2 σ _ T rfl I2 h2 q1 q2 h5
theorem Cb{E:XK}{bQ:Env}(Ke:X.stack=bQ::Kd)(hf:bQ.frame=some L)(hx:X.env.frame=bQ.frame):eA (X.kK (ZL X L E)) (λ_=>E) where
 pass:=by
  intro J2 σ H s e s' I h;obtain⟨ea,T,C,dd,Hc,rfl,os,bare,un,bg,h1,h2,h3,hE⟩:=h;have I':=I.cL.o8 (ch:=[]) os un bg bare (λb z=>absurd z (by simp));exact⟨ea,C,dd,J2,σ,rfl,.inr ⟨Hc,T,.none,I',.inl rfl,h1,h2,h3,hE⟩⟩
 new:=λJ2 σ H s e C dd I he hE=>⟨e,C,dd,J2,σ,rfl,.inl ⟨H,I.cL,he,hE⟩⟩
 own:=by
  intro e s z;have z:ZL X L E e s:=z;show wpAny (model X.prog X.w) X.A (noteFrame e X.env) _ _ s;refine z.note Ke hf hx λs' ea C dd J2 σ Hc T he I h1 h2 h3 h4=>?_;subst he;obtain⟨vs,oT,ts,Nr,q1,_⟩:=I.qS h3;show wpAny _ _ _ _ _ _;refine NB (N_ Nr rfl q1 ?_);rw[if_neg (show ¬ ((NQ T==Oe)=true) from by simp)];show wpAny _ _ (setFlight (.ref ea) X.env.frame) _ _ _;rw[hx,hf];refine I.jT h3 λh' I2=>⟨ea,C,dd,J2,σ,rfl,.inr ⟨Hc,T,_,I2,.inr rfl,h1,h2,h3,h4⟩⟩
variable{w:World}{prog:Program}
variable{ifs:List Expr}
section
variable{R:Result->Shared->Prop}
theorem uj{target:Expr}{it acc:Value}{env:Env}(I:Nat->Shared->Prop)
  (turn:∀ n s,I n s->wpAny (model prog w) A (pyNext it) (λr s₁=>match r with
   | none=>R (.ok .next) s₁
   | some v=>wpAny (model prog w) A (letOwnedTupleGo target it v) (λ_ s₂=>wpAny (model prog w) A (assign target env v) (λ_ s₃ =>
     wpAny (model prog w) A (forIn ifs true λc r=>if r=true then do let ok <- isTrue c env (eval c env);pure (QN ok) else pure (QN r)) (λok s₄ =>
      if ok=true then wpAny (model prog w) A (eval elt env) (λx s₅ =>
       wpAny (model prog w) A (call (.builtin "list.append") [acc,x]) (λ_ s₆=>∃ m,m<n/\I m s₆) (notedBy (model prog w) A env λx s'=>R (.error x) s') s₅) (notedBy (model prog w) A env λx s'=>R (.error x) s') s₄
      else ∃ m,m<n/\I m s₄) (notedBy (model prog w) A env λx s'=>R (.error x) s') s₃) (notedBy (model prog w) A env λx s'=>R (.error x) s') s₂) (notedBy (model prog w) A env λx s'=>R (.error x) s') s₁) (notedBy (model prog w) A env λx s'=>R (.error x) s') s)
  (n:Nat) (h:I n s) :
  codeAny (model prog w) A (.compLoop (.ListComp elt [⟨target,iter,ifs,0⟩] scope pos) 0 it acc env) R s:=by
 refine codeAny_loop rfl I (λn s hI=>?_) n h;show wpAny _ A ((compTurn (.ListComp elt [⟨target,iter,ifs,0⟩] scope pos) 0 it acc env).onRaise (λx=>do noteFrame x env;theTreesLotGoes x)) _ _ s;refine wpAny_noted ?_;rw[compTurn_list];refine NB (PB (NB (N8 (turn n s hI) (λr s₁ h₁=>?_) λ_ _ h'=>h')));cases r with
 | none=>exact NH h₁
 | some v =>
  refine NB (N8 h₁ (λ_ s₂ h₂=>NB (N8 h₂ (λ_ s₃ h₃=>NB (N8 h₃ (λok s₄ h₄=>?_) λ_ _ h'=>h')) λ_ _ h'=>h')) λ_ _ h'=>h');cases ok with
  | false=>exact NH ⟨rfl,h₄⟩
  | true =>
   exact NB (NB (N8 h₄ (λx s₅ h₅=>NB (N8 h₅ (λ_ s₆ h₆=>NH (NH ⟨rfl,h₆⟩)) λ_ _ h'=>h')) λ_ _ h'=>h'))
end
def kE(M:Model)(A:Around)(E:Value->Shared->Prop)(use:Option (Value->Sem Unit))(Q:Value->Shared->Prop)(acc:Value)(cenv:Env)(r:Result)(s':Shared):Prop:=match r with
 | .ok _=>(match use with
  | none=>∃ m,s'.heap.Ns cenv.locals m/\∀ h',Px cenv.locals s'.heap h'->Q acc { s' with heap:=h' }
  | some u=>wpAny M A (u acc) (λ_ Mw=>∃ m,Mw.heap.Ns cenv.locals m/\∀ h',Px cenv.locals Mw.heap h'->Q .none { Mw with heap:=h' }) E s')
 | .error x=>∃ m,s'.heap.Ns cenv.locals m/\∀ h',Px cenv.locals s'.heap h'->wpAny M A (passOn "comprehension.variables-let-go" x cenv:Sem Value) (λ_ _=>False) E { s' with heap:=h' }
theorem tY{M:Model}{E:Value->Shared->Prop}{env:Env}{e:Expr}{Ms first:Sem Value}{g:Comprehension}{gs:List Comprehension}{cl:List (Str×Addr)}{use:Option (Value->Sem Unit)}{Q:Value->Shared->Prop}
  (hcl:clausesOf e=g::gs) (hs:∀ x,foldedSetIterable g.iter env x=pure x) (Kb:closureFor scope env=pure cl)
  (hk:scope.kind=.function) (hn:∀ x∈scope.names,x.2=.local->scope.names.lookup x.1=some .local)
  (h:wpAny M A first (λx s₁=>wpAny M A (pyIter x) (λit s₂=>wpAny M A Ms (λacc s₃ =>
   wpAny M A (newFunctionEnv scope env.globals cl [] env.qual none .none (some env)) (λcenv s₄ =>
    codeAny M A (.compStart e 0 it acc { cenv with scope:=relabel scope env }) (kE M A E use Q acc { cenv with scope:=relabel scope env }) s₄) E s₃) E s₂) E s₁) E s) :
  wpAny M A (comprehension e scope env pos Ms false first use) Q E s:=by
 unfold comprehension;rw[Kb,hcl];refine NB (N8 h (λx s₁ h₁=>NB (PB (NB (S9 (hs x) (NB (Ou (N8 h₁ (λit s₂ h₂ =>
  wpAny_standIf (NB (N8 h₂ (λacc s₃ h₃=>NB (NH (NB (N8 h₃ (λcenv s₄ h₄=>?_) λ_ _ q=>q)))) λ_ _ q=>q)))
   λ_ _ q=>q))))))) λ_ _ q=>q)
 dsimp only;have hv:∀ x∈(scope.names.filter λx=>(x.2==.local||x.2==.cell)&&x.1 != (".0" : Str)).reverse,x.2=.local ->
   Env.kindOf { cenv with scope:=relabel scope env } x.1=some .local:=λx hx hl=>lookup_relabel_local (hn x (PX.mp (List.mem_reverse.mp hx)).1 hl)
 have MD:∀ x∈(scope.names.filter λx=>(x.2==.local||x.2==.cell)&&x.1 != (".0" : Str)).reverse.drop 1++(scope.names.filter λx=>(x.2==.local||x.2==.cell)&&x.1 != (".0" : Str)).reverse.take 1,
   x.2=.local->Env.kindOf { cenv with scope:=relabel scope env } x.1=some .local:=λx hx hl=>by
  rcases OZ.mp hx with h1 | h1
  .exact hv x (P5 h1) hl
  .exact hv x (P6 h1) hl
 refine Ou (NB (Qf (Ou (wpAny_run (Qx h₄ λr s' hr=>?_)))));cases r with
 | ok f =>
  cases use with
  | some u =>
   refine NB (RH (NB (Ou (N8 hr (λ_ Mw MM=>?_) λ_ _ h'=>h'))));obtain⟨m,q,MM⟩:=MM;exact NB (Rw (cenv:={ cenv with scope:=relabel scope env }) hk _ Mw m MD q λh' m' _ LK=>NH (MM h' LK))
  | none =>
  obtain⟨m,q,hr⟩:=hr;exact NB (Ou (Rw (cenv:={ cenv with scope:=relabel scope env }) hk _ s' m hv q λh' m' _ LK=>NH (hr h' LK)))
 | error x =>
  obtain⟨m,q,hr⟩:=hr;exact NB (Ou (Rw (cenv:={ cenv with scope:=relabel scope env }) hk _ s' m hv q λh' m' _ LK=>N8 (hr h' LK) (λ_ _ f=>f.elim) λ_ _ y=>y))
abbrev Aq(X:Cx)(Ex:XK)(scope:Scope)(cl:List (Str×Addr))(N:List Str)(C:Addr)(s₀:Shared)(H₀:Hp)(ex:List Addr)(J2:List (Addr×Obj)):Cx:=(kO X scope cl N C s₀ H₀ ex J2).kK (ZL (kO X scope cl N C s₀ H₀ ex J2) X.env.locals Ex)
theorem pC{Ex:XK}{cl:List (Str×Addr)}{g:TG}{tt:Option TT}{te:TE}{fs:List Str}(J8:X.calm=true)(Ke:X.stack=X.env::Kd)(hf:X.env.frame=some X.env.locals)
  (Kb:closureFor scope X.env=pure cl) (hk:scope.kind=.function) (nc:dw scope.names=true) (lo:d_ scope.names=true) (fh:dY cl scope.names=true) (ag:c6 X cl) (fr:eB X scope cl fs js)
  (hi:PI X tg iter wi) (hg:∀ C s₀ H₀ ex J2,PG (Aq X Ex scope cl (ts++fs) C s₀ H₀ ex J2) tg g)
  (ht:∀ C s₀ H₀ ex J2,match ifs,tt with | [],none=>True | [c],some t=>PT (Aq X Ex scope cl (ts++fs) C s₀ H₀ ex J2) c t | _,_=>False)
  (he:∀ C s₀ H₀ ex J2,PE (Aq X Ex scope cl (ts++fs) C s₀ H₀ ex J2) elt te)
  (hs:∀ x,foldedSetIterable iter X.env x=pure x) {Q:VK} (I:Inv X J2 σ H s) (h:vy wi g tt te ts js σ H Q)
  (use:Option (Value->Sem Unit)) (Qv:Value->Shared->Prop)
  (x9:∀ (D:Addr) (H':Hp) (s':Shared) (C:Addr),Inv X J2 σ H' s'->Q (.ref D) H'->(∃ m,s'.heap.Ns C m)->jk X J2 H' C->kE (model X.prog X.w) X.A X.xe use Qv (.ref D) (compEnvC scope cl C X.env) (.ok .next) s')
  (hout:∀ (ea T:Addr) (Cc:Addr) (dd:Option Addr) (Hc:Hp) (s':Shared),Inv X J2 σ (iw Hc ea T Cc dd (rawInt X.env.locals)) s'->Hc ea=some (dU Cc dd ea)->Hc T=none->T≠ea->Ex (.ref ea) none Hc->X.xe (.ref ea) s') :
  wpAny (model X.prog X.w) X.A (comprehension (.ListComp elt [⟨tg,iter,ifs,0⟩] scope pos) scope X.env J_ (newList []) false (eval iter X.env) use) Qv X.xe s:=by
 have Lw:∀ y∈scope.names,y.2≠.cell:=λy hy=>by
  have:=NY.mp nc y hy;simpa using this
 have LS:∀ y∈scope.names,y.2=.local->scope.names.lookup y.1=some .local:=λy hy hl=>by
  have:=NY.mp lo y hy;rw[hl] at this;simpa using this
 refine tY rfl hs Kb hk LS (b_ (hi J2 s σ H _ I h) λv s1 h1=>b_ h1 λitv s2 h2=>?_);obtain⟨it,fp,tn,J,H1,e,I2,T,Mb,f2,hJ⟩:=h2;subst e;refine OR (R0 Lw (by intro y hy;simp at hy) (λh₁ hns1 hsb1=>?_) hk);dsimp only at hns1 hsb1 ⊢;generalize hH2:s2.heap.push { cls:=.type "list", dict:=none,data:=.seq ([]:List Value).toArray }=G at hns1 hsb1 ⊢;have hC:G.objs.size=s2.heap.objs.size+1:=by rw[<- hH2,Ow]
 have old:∀ b o,s2.heap.get? b=some o->h₁.get? b=some o:=λb o e=>by
  have hb:=NN e;refine hsb1.extBut b o (NR (NP hb (Qs (by rw[hC];exact Ox _)))) (NF _ ?_);rw[<- hH2];exact NF _ e
 have MH:h₁.get? s2.heap.objs.size=some { cls:=.type "list", dict:=none,data:=.seq #[] }:=by
  refine hsb1.extBut _ _ (NR (by rw[hC];exact Ox _)) (NF _ ?_);rw[<- hH2];exact NO _ rfl
 have nD:H1 s2.heap.objs.size=none:=I2.bg.fresh (NK _);have nC:H1 G.objs.size=none:=I2.bg.fresh (by lia);obtain⟨W,⟨m0,w0⟩,turn⟩:=hJ _ nD;have Mo:∀ b∈fp,b<s2.heap.objs.size:=λb hb=>by
  obtain⟨o,e,_⟩:=T.obj _ _ Mb b hb;exact NN e
 have Nx:∀ (x:Str) (c:Addr),cl.lookup x=some c->c<s2.heap.objs.size/\H1 c=none/\(∃ v,s2.heap.IsCell c v):=λx c e=>by
  have e':=ag.at x c e;obtain⟨v,q⟩:=I2.cell x c e';exact⟨q.lt,I2.fm x c e',v,q⟩
 let X':=Aq X Ex scope cl (ts++fs) G.objs.size s2 H1 fp J2
 have MS:X'.Ok:=by
  refine⟨I2.ok.mod,hk,I2.ok.glob,I2.ok.blt,by show s2.heap.objs.size<=G.objs.size;lia,λx y c e1 e2=>I2.ok.inj x y c (ag.at x c e1) (ag.at y c e2),λx hx=>?_,λx c hf _=>(nomatch (show (false:Bool)=true from hf)),I2.ok.hd,I2.ok.frames,.inl rfl,λb hb=>⟨?_,λx c e z=>?_⟩,λb o e=>I2.bs b o e,N3 I2.ok.xD I2.sz,λb o e hb=>?_,λb hb hz=>?_,I2.stack,λb hb=>I2.j3 b hb⟩
  .have Ly:=iO (env:=X.env) hx nc;have hm:∃ y∈scope.names,y.1=x/\y.2=.free:=by
    have:∀ (l:List (Str×NameKind)),l.lookup x=some .free->∃ y∈l,y.1=x/\y.2=.free:=by
     intro l
     induction l with
     | nil=>intro h;simp at h
     | cons p r ih =>
      intro h;rw[Oq] at h;cases q:x==p.1 with
      | true =>
       rw[q] at h;exact⟨p,NJ,(by simpa using q:x=p.1).symm,NX h⟩
      | false =>
       rw[q] at h;obtain⟨y,hy,r1,r2⟩:=ih h;exact⟨y,NI _ hy,r1,r2⟩
    exact this _ Ly
   obtain⟨y,hy,r1,r2⟩:=hm;have:=NY.mp fh y hy;rw[r2] at this;have h':(cl.lookup y.1).isSome=true:=by simpa using this
   rw[r1] at h';exact PC.mp h'
  .exact NR (NP (Mo b hb) (by show s2.heap.objs.size<=G.objs.size;lia))
  .exact(f2 b hb).2.2.2.2.1 x c (ag.at x c e) z
  .obtain⟨_,_,_,f3,_,_⟩:=f2 b hb;rcases f3 with z | z
   .exact I2.ok.oM b o e z
   .exact absurd (NP (NN (I2.ok.bs b o e).1) z) (O_ _)
  .rcases NU.mp (I2.lC b hz) with z | z
   .exact(f2 b hb).2.1 z
   .exact(f2 b hb).2.2.1 z
 have Nw:∀ b o,s2.heap.get? b=some o->h₁.get? b=some o:=old;have I3:Inv X' [] (cN ts js σ) (upd H1 s2.heap.objs.size (.lst [])) { s2 with heap:=h₁,toks:=s2.toks+([]:List (Str×Value)).length }:=by
  have neD:∀ b o,s2.heap.get? b=some o->b≠s2.heap.objs.size:=λb o e=>NR (NN e);refine⟨MS,rfl,I2.bare,⟨λb o e n hb hx=>old b o e,λb o e n hb hx=>⟨o.slots,old b o e⟩,λb o e n hx=>by rw[ar (neD b o e)];exact n,λb o e hx=>⟨o,old b o e⟩,λb xs e=>?_,λb o u e=>?_,λb ps e=>?_⟩,⟨_,hns1,λi x v e1 e2 e3=>?_⟩,λx c e=>?_,?_,λx c e=>?_,λp hp=>?_,?_,?_⟩
  .rw[ar (bh e nD)];exact e
  .rw[ar (bh e nD)];exact e
  .exact⟨#[],by rw[ar (bh e nD)];exact Of e (by simp)⟩
  .
   have hlen:(ts.map (λ_=>(none:Option V))).length=ts.length:=ND _;unfold cN at e2
   by_cases Kv:i<ts.length
   .rw[Ob (by rw[hlen];exact Kv),NZ] at e2;cases q:ts[i]? <;> rw[q] at e2 <;> cases e2
   .rw[N6 (by rw[hlen];lia),hlen] at e2;have Mg:fs[i-ts.length]?=some x:=by
     have Mg:(ts++fs)[i]?=some x:=e1;rw[N6 (by lia)] at Mg;exact Mg
    have all:∀ {fs:List Str} {js:List Nat},eB X scope cl fs js->∀ k:Nat,fs[k]?=some x->(js.map λj=>(σ[j]?).join)[k]?=some (some v) ->
      ∃ (j:Nat) (c:Addr),X.N[j]?=some x/\σ[j]?=some (some v)/\(X.env.kindOf x=some .cell\/X.env.kindOf x=some .free)/\X.env.cells.lookup x=some c/\cl.lookup x=some c/\scope.names.lookup x=some .free:=by
     intro fs js r
     induction r with
     | nil=>intro k e;simp at e
     | @cons y j c fs js hN hf hv hc hl r ih =>
      intro k e e';cases k with
      | zero =>
       have e0:y=x:=by simpa using e
       subst e0;have Mf:(σ[j]?).join=some v:=by simpa using e'
       refine⟨j,c,hN,?_,hv,hc,hl,hf⟩;cases q:σ[j]? with
       | none=>rw[q] at Mf;cases Mf
       | some z=>rw[q] at Mf;cases z with
        | none=>cases Mf
        | some z =>
         have:z=v:=by simpa using Mf
         rw[this]
      | succ k=>exact ih k (by simpa using e) (by simpa using e')
    obtain⟨j,c,q1,q2,q3,q4,q5,q6⟩:=all fr (i-ts.length) Mg e2;obtain⟨m,hn,hl⟩:=I2.loc;have vis:yW X.env.scope x:=by
     rcases q3 with z | z
     .exact .inr (.inl z)
     .exact .inr (.inr z)
    obtain⟨u,ru,lk⟩:=hl j x v q1 q2 vis;refine⟨u,ru,.inr ⟨?_,c,q5,?_⟩⟩
    .rcases e3 with z | z | z
     .exfalso;have key:∀ (l:List (Str×NameKind)),(l.map λ(n,k)=>if (k==PY&&X.env.scope.kind==.function&&X.env.kindOf n==some .cell) then (n,Rn) else (n,k)).lookup x=some .local->l.lookup x=some .local:=by
       intro l
       induction l with
       | nil=>intro h;simp at h
       | cons p r ih =>
        obtain⟨n,k⟩:=p;intro h;rw[N5] at h;dsimp only at h
        by_cases hc:(k==PY&&X.env.scope.kind==.function&&X.env.kindOf n==some .cell)=true
        .rw[if_pos hc] at h;rw[Oq] at h ⊢;cases q:x==n with
         | true=>rw[q] at h;cases h
         | false=>rw[q] at h;exact ih h
        .rw[if_neg hc] at h;rw[Oq] at h ⊢;cases q:x==n with
         | true=>rw[q] at h;exact h
         | false=>rw[q] at h;exact ih h
      have:=key _ z;rw[q6] at this;cases this
     .exact .inl z
     .exact .inr z
    .rcases lk with ⟨k,_⟩ | ⟨_,c',e4,z⟩
     .rcases q3 with z | z <;> rw[z] at k <;> cases k
     .rw[q4] at e4;cases e4;obtain⟨o,ho,hd⟩:=z;exact⟨o,old c o ho,hd⟩
  .obtain⟨_,_,v,o,ho,hd⟩:=Nx x c e;exact⟨v,o,old c o ho,hd⟩
  .show upd H1 s2.heap.objs.size (.lst []) G.objs.size=none;rw[ar (Py (by rw[hC];exact Ox _))];exact nC
  .obtain⟨q1,q2,_⟩:=Nx x c e;rw[ar (NR q1)];exact q2
  .have My:p∈X.pn++J2:=by
    have:p∈(X.pn++J2)++[]:=hp
    rwa [Oh] at this
   obtain⟨e,n,ne,nf,d⟩:=I2.pin p My;have Kv:=NN e;refine⟨old _ _ e,by rw[ar (NR Kv)];exact n,?_,λhz=>?_,d⟩
   .show p.1≠G.objs.size;exact NR (RE Kv (by rw[hC];exact Ox _))
   .rcases NU.mp (I2.lC _ hz) with z | z
    .exact ne z
    .exact nf z
  .exact I2.bg.laid old (NK _) ⟨OQ _,[],0,.nil,MH⟩
  .show (cN ts js σ).length=(ts++fs).length;have frl:∀ {fs:List Str} {js:List Nat},eB X scope cl fs js->fs.length=js.length:=by
    intro fs js r
    induction r with
    | nil=>rfl
    | cons _ _ _ _ _ _ ih=>rw[NS,NS,ih]
   unfold cN;rw[NW,NW,ND,ND,frl fr]
 have Le:∀ {H':Hp},(∀ b∈fp,H' b=none)->∀ b∈fp,jk X' [] H' b:=λ{H'} hn b hb=>by
  obtain⟨_,f1,f3,_,f4,f5⟩:=f2 b hb;refine⟨hn b hb,MS.E3 b hb |>.1,MS.qI b hb,.inl hb,λx c e=>f4 x c (ag.at x c e),λp hp=>f5 p ?_⟩;have:p∈(X.pn++J2)++[]:=hp
  rwa [Oh] at this
 have fin:∀ {σ':St} {H':Hp} {s':Shared},Inv X' [] σ' H' s'->Q (.ref s2.heap.objs.size) H' ->
   kE (model X.prog X.w) X.A X.xe use Qv (.ref s2.heap.objs.size) (compEnvC scope cl G.objs.size X.env) (.ok .next) s':=by
  intro σ' H' s' I4 q;obtain⟨m,hn,_⟩:=I4.loc;have fC:H' G.objs.size=none:=I4.free;have Io:Inv X J2 σ H' s':=by
   refine I2.o8 (s':=s') (ch:=fp) I4.os ⟨λb o e n hb hx=>?_,λb o e n hb hx=>?_,λb o e n hx=>I4.base.free b o e n hx,λb o e hx=>?_,I4.base.lB,I4.base.iX,I4.base.kY⟩ I4.bg I4.bare λb hb=>?_
   .exact I4.base.keep b o e n hb hx
   .exact I4.base.slot b o e n hb hx
   .exact I4.base.there b o e hx
   .obtain⟨_,f1,_,f3,f4,f5⟩:=f2 b hb;exact⟨f3,f1,f4,f5⟩
  have M9:s2.heap.objs.size<=G.objs.size:=by rw[hC];exact P4 _
  exact x9 _ H' s' _ Io q ⟨m,hn⟩ (I2.om M9 fC)
 let NE:Value->Shared->Prop:=notedBy (model X.prog X.w) X.A (compEnvC scope cl G.objs.size X.env) λx s'=>kE (model X.prog X.w) X.A X.xe use Qv (.ref s2.heap.objs.size) (compEnvC scope cl G.objs.size X.env) (.error x) s'
 have lets:∀ x s',X'.xe x s'->NE x s':=by
  intro x s' z;have z:ZL (kO X scope cl (ts++fs) G.objs.size s2 H1 fp J2) X.env.locals Ex x s':=z;refine z.note (bQ:=X.env) (Kd:=Kd) Ke hf rfl λs' ea Cc dd LB σ' Hc T he I4 h1 h2 h3 h4=>?_;subst he;obtain⟨m,hn,_⟩:=I4.loc;have fC:iw Hc ea T Cc dd (rawInt X.env.locals) G.objs.size=none:=I4.free;have Io:Inv X J2 σ (iw Hc ea T Cc dd (rawInt X.env.locals)) s':=by
   refine I2.o8 (s':=s') (ch:=fp) I4.os ⟨λb o e n hb hx=>I4.base.keep b o e n hb hx,λb o e n hb hx=>I4.base.slot b o e n hb hx,λb o e n hx=>I4.base.free b o e n hx,λb o e hx=>I4.base.there b o e hx,I4.base.lB,I4.base.iX,I4.base.kY⟩ I4.bg I4.bare λb hb=>?_;obtain⟨_,f1,_,f3,f4,f5⟩:=f2 b hb;exact⟨f3,f1,f4,f5⟩
  have M9:s2.heap.objs.size<=G.objs.size:=by rw[hC];exact P4 _
  refine⟨m,hn,λh' LK=>?_⟩;have Ih:=Io.other (I2.om M9 fC) LK;obtain⟨vs,oT,ts',Nr,q1,_⟩:=Ih.qS h3;unfold PySem.passOn;refine NB (N_ Nr rfl q1 ?_);rw[if_neg (show ¬ ((NQ T==Oe)=true) from by simp)];show wpAny _ _ (setFlight (.ref ea) X.env.frame >>= λ_=>throw (NQ ea)) _ _ _;rw[hf];refine NB (Ih.jT h3 λh2' I5=>?_);exact wpAny_throw (hout ea T Cc dd Hc _ I5 h1 h2 h3 h4)
 have loop:∀ s3:Shared,s3={ s2 with heap:=h₁,toks:=s2.toks+([]:List (Str×Value)).length } ->
   codeAny (model X.prog X.w) X.A (.compLoop (.ListComp elt [⟨tg,iter,ifs,0⟩] scope pos) 0 (.ref it) (.ref s2.heap.objs.size) (compEnvC scope cl G.objs.size X.env))
    (kE (model X.prog X.w) X.A X.xe use Qv (.ref s2.heap.objs.size) (compEnvC scope cl G.objs.size X.env)) s3:=by
  rintro s3 rfl;refine uj (λn s'=>∃ i σ' H',Inv X' [] σ' H' s'/\tn i s'.heap/\(∀ b∈fp,H' b=none)/\W i n σ' H') ?_ m0 ⟨0,_,_,I3,T.keep _ _ _ Mb λb _ o e=>old b o e,λb hb=>?_,w0⟩
  .rintro n s3 ⟨i,σ3,H3,I3,st3,fr3,w3⟩;rcases turn i n σ3 H3 w3 with ⟨stop,qn⟩ | ⟨go,N,hN,step⟩
   .refine b_ (T.done X' rfl rfl rfl J8 i [] s3 σ3 H3 _ I3 (Le fr3) st3 stop) λr s4 ⟨hr,I4⟩=>?_;subst hr;exact fin I4 qn
   .refine b_ (T.item X' rfl rfl rfl J8 i [] s3 σ3 H3 _ I3 (Le fr3) st3 go) λr s4 ⟨u,hr,h4⟩=>?_;subst hr;refine b_ h4 λ_ s5 ⟨x,H5,I5,r5,y5,st5,fr5⟩=>?_;have M3:=I5.pinned (Le fr5) (T.obj _ _ st5);refine N8 (hg _ _ _ _ _ _ s5 σ3 H5 x u _ M3 r5 (step x H5 y5)) (λ_ s6 ⟨σ6,H6,I6,q6⟩=>?_) lets;have again:∀ {σ7:St} {H7:Hp} {s7:Shared},Inv X' ([]++iU fp s5.heap) σ7 H7 s7->N σ7 H7->∃ m,m<n/\∃ i σ' H',Inv X' [] σ' H' s7/\tn i s7.heap/\(∀ b∈fp,H' b=none)/\W i m σ' H':=λ{σ7 H7 s7} I7 n7=>by
     obtain⟨m',hm,w7⟩:=hN σ7 H7 n7;refine⟨m',hm,i+1,σ7,H7,I7.iR,T.keep _ _ _ st5 λb hb o e=>(I7.pin (b,o) (N1 _ (N1 _ (eT hb e)))).1,λb hb=>?_,w7⟩;obtain⟨o,e,d⟩:=T.obj _ _ st5 b hb;exact(I7.pin (b,o) (N1 _ (N1 _ (eT hb e)))).2.1
    have tail:∀ {H7:Hp} {s7:Shared},Inv X' ([]++iU fp s5.heap) σ6 H7 s7->(te σ6 H7 λy H4=>∃ ys,H4 s2.heap.objs.size=some (.lst ys)/\ys.length<sizeLine/\N σ6 (upd H4 s2.heap.objs.size (.lst (ys++[y])))) ->
      wpAny (model X.prog X.w) X.A (eval elt (compEnvC scope cl G.objs.size X.env)) (λx s₅=>wpAny (model X.prog X.w) X.A (call (.builtin "list.append") [.ref s2.heap.objs.size,x])
       (λ_ s₆=>∃ m,m<n/\∃ i σ' H',Inv X' [] σ' H' s₆/\tn i s₆.heap/\(∀ b∈fp,H' b=none)/\W i m σ' H') NE s₅) NE s7:=by
     intro H7 s7 I7 q7;refine N8 (he _ _ _ _ _ _ s7 σ6 H7 _ I7 q7) (λuy s8 ⟨y,H8,I8,ry,ys,hy,hl,q8⟩=>?_) lets;refine N8 (lq (X:=X') _ s8 σ6 H8 (.ref s2.heap.objs.size) [y] (.ref s2.heap.objs.size) [uy] (λ_ H9=>N σ6 H9) I8 rfl (.cons ry .nil) ⟨_,ys,y,rfl,rfl,hy,hl,q8⟩) (λ_ s9 ⟨_,H9,I9,_,q9⟩=>?_) lets;exact again I9 q9
    cases ifs with
    | nil =>
     cases tt with
     | none=>exact wpAny_tests_nil (tail I6 q6)
     | some t=>exact(ht 0 s2 H1 [] []).elim
    | cons c r =>
     cases r with
     | nil =>
      cases tt with
      | none=>exact(ht 0 s2 H1 [] []).elim
      | some t =>
       refine wpAny_tests_one (N8 (ht G.objs.size s2 H1 fp J2 _ s6 σ6 H6 _ I6 q6) (λb s7 ⟨H7,I7,q7⟩=>?_) lets);cases b with
       | true =>
        rw[if_pos rfl] at q7 ⊢;exact tail I7 q7
       | false =>
        rw[if_neg OC] at q7 ⊢;exact again I7 q7
     | cons _ _=>cases tt <;> exact(ht 0 s2 H1 [] []).elim
  .rw[ar (NR (Mo b hb))];exact(f2 b hb).1
 exact RG (loop _ rfl) (T.self _ 0 _ _ _ (T.keep _ _ _ Mb λb _ o e=>old b o e) (loop _ rfl))
variable{xs:List PV}
variable{ys:List PV}
section
variable{Z:EX->Prop}{set:PV->ae->M ae}{f:ae->M PV}{Q:VK}{J9 H1:Hp}{D:Addr}
def Jx(Z:EX->Prop)(set:PV->ae->M ae)(f:ae->M PV)(Q:VK)(J9 H1:Hp)(D:Addr)(xs:List PV)(i:Nat)(σ:St)(H:Hp):Prop:=∃ Hs env ys vs,SR J9 H1 Hs H σ env/\kc env/\H D=some (.lst vs)/\Hs D=none/\aE Hs ys vs/\ys.length<=i ∧
 au (bu set none f (xs.drop i) env) (λzs=>KO Q J9 H1 (ys++zs)) Z
theorem Jx.done(hD:H1 D=none)(j:Jx Z set f Q J9 H1 D xs i σ H)(hi:xs.length<=i):Q (.ref D) H:=by
 obtain⟨Hs,env,ys,vs,sr,n,h1,h2,r,_,h⟩:=j;rw[O8 hi] at h;have h':KO Q J9 H1 (ys++[]):=h;rw[Oh] at h';have gr:bx J9 H1 Hs (rem H D):=by
  refine⟨sr.gr.st,λc u q=>?_,λc u q=>?_,sr.gr.nw⟩
  .rw[mZ (λz=>by rw[z,hD] at q;cases q)];exact sr.gr.al c u q
  .rw[mZ (λz=>by rw[z,h2] at q;cases q)];exact sr.gr.sub c u q
 have:=h' vs D Hs (rem H D) gr r rJ;rw[vZ h1] at this;exact this
theorem Jx.put{Hs:Hp}{env:ae}{vs:List V}{y:PV}{v:V}(hD:H1 D=none)(sr:SR J9 H1 Hs H σ env)(n:kc env)(h1:H D=some (.lst vs))(h2:Hs D=none)(r:aE Hs ys vs)(hy:ys.length<=i)(hi:i<sizeLine)(rv:Rep Hs y v)
  (h:au ((bu set none f (xs.drop (i+1)) env).bind λzs=>M.ok (y::zs)) (λzs=>KO Q J9 H1 (ys++zs)) Z) :
  ∃ us,H D=some (.lst us)/\us.length<sizeLine/\Jx Z set f Q J9 H1 D xs (i+1) σ (upd H D (.lst (us++[v]))):=by
 refine⟨vs,h1,by rw[<- r.length];lia,Hs,env,ys++[y],vs++[v],sr.y9 n h2 hD,n,av,h2,r.snoc rv,by rw[NW];show ys.length+1<=i+1;lia,(au.bind h).imp (λzs hz=>?_) λ_ z=>z⟩;have Ma:KO Q J9 H1 (ys++(y::zs)):=hz;rw[Qw];exact Ma
end
theorem Zx.un{Y:Cx}(z:Zx (Y.out E) E e s):(Y.out E).xe e s:=by
 obtain⟨ea,C,dd,J2,σ,rfl,⟨H,I,h⟩ | ⟨Hc,T,fl,I,h⟩⟩:=z
 .exact⟨ea,C,dd,J2,σ,rfl,.inl ⟨H,I.cL,h⟩⟩
 .exact⟨ea,C,dd,J2,σ,rfl,.inr ⟨Hc,T,fl,I.cL,h⟩⟩
def jz(it:ae->M (List PV))(set:PV->ae->M ae)(f:ae->M PV)(n:Nat)(js:List Nat):ae->M (List PV):=λenv=>(it env).bind λxs=>bG (xs.length<=sizeLine) (bu set none f xs (i4 n js env))
section
variable{c:Expr}{cl:List (Str×Addr)}{it:ae->M (List PV)}{g:TG}{set:PV->ae->M ae}{f:ae->M PV}{u:ae->M Bool}{fs:List Str}
theorem sY{Q:VK}(hv:uY E wi it)(LI:∀ E,u9 E g set)(so:jx set)(q:tO E (jz it set f ts.length js) σ H Q):qc wi g (tE (λ_=>E σ) f) ts js σ H Q:=by
 refine hv σ H _ ?_;obtain⟨B,H₀,Hs,env,sr,q⟩:=q;refine⟨B,H₀,Hs,env,sr,(au.bind q).imp (λxs hp J J9 H1 gr ok D hD=>?_) λe he=>he⟩;obtain⟨hz,hp⟩:=au.bG hp;have ME:=sr.grow gr;refine⟨λi m σ1 H=>m=xs.length-i/\i<=xs.length/\Jx (XW (E σ) J9 H1) set f Q J9 H1 D xs i σ1 H,⟨xs.length,by simp,OQ _,J9,_,[],[],ME.block hD,dy,av,?_,.nil,NK _,hp.imp (λzs hz vs p Ka H2 g2 r n=>hz vs p Ka H2 (gr.trans g2) r n) λ_ z=>z.grow gr⟩,?_⟩
 .cases z:J9 D with
  | none=>rfl
  | some o=>have:=gr.sub _ _ z;rw[hD] at this;cases this
 rintro i m σ' H2 ⟨rfl,hi,Ka,env2,ys,vs,Km,n2,d1,d2,r2,l2,h2⟩
 by_cases Kv:i<xs.length
 .refine .inr ⟨ok.go i Ka H2 Km.gr.st Km.gr.sub Kv,Jx (XW (E σ) J9 H1) set f Q J9 H1 D xs (i+1),fun σ3 H3 j=>⟨xs.length-(i+1),by lia,rfl,Kv,j⟩,λx H3 y=>?_⟩;obtain⟨p,K_,ep,g3,r3⟩:=ok.rD i Ka H2 x H3 Km.gr.st Km.gr.sub Kv y;have hd:xs.drop i=p::xs.drop (i+1):=by
   rw[Pq Kv];rw[NG Kv] at ep;rw[NX ep]
  rw[hd] at h2;have h3:=au.bind h2;have LH:=Km.grow g3;refine LI (E σ) J9 H1 K_ H3 σ' env2 p x _ (XW (E σ) J9 H1) LH r3 ?_;cases hset:set p env2 with
  | none=>rw[hset] at h3;exact h3
  | some z=>cases z with
   | error e=>rw[hset] at h3;exact h3
   | ok e3 =>
    rw[hset] at h3;intro σ4 sr4;have n4:=so p env2 e3 hset n2;refine⟨J9,H1,K_,e3,sr4,(au.bind h3).imp (λy hy v MT H5 g5 r5=>?_) λ_ z=>z.grow sr4.gr⟩;exact Jx.put (set:=set) (f:=f) hD (sr4.grow g5) n4 (g5.al _ _ (g3.al _ _ d1)) (g5.nw _ _ (g3.nw _ _ d2 d1) (g3.al _ _ d1)) ((r2.mono g3.st).mono g5.st) l2 (by lia) r5 hy
 .refine .inl ⟨ok.stop i Ka H2 Km.gr.st Km.gr.sub (by lia),?_⟩;exact Jx.done (Z:=XW (E σ) J9 H1) (set:=set) (f:=f) (xs:=xs) (J9:=J9) (H1:=H1) (i:=i) hD ⟨Ka,env2,ys,vs,Km,n2,d1,d2,r2,l2,h2⟩ (by lia)
theorem nX(Ke:X.stack=X.env::Kd)(hf:X.env.frame=some X.env.locals)(hz:∀ e s,Zx X E e s->X.xe e s)(J8:X.calm=true)
  (Kb:closureFor scope X.env=pure cl) (hk:scope.kind=.function) (nc:dw scope.names=true) (lo:d_ scope.names=true) (fh:dY cl scope.names=true) (ag:c6 X cl) (fr:eB X scope cl fs js)
  (hi:PI X tg iter wi) (hv:uY E wi it) (hg:∀ Ex C s₀ H₀ ex J2,PG (Aq X Ex scope cl (ts++fs) C s₀ H₀ ex J2) tg g) (LI:∀ E,u9 E g set) (so:jx set) (he:∀ Ex C s₀ H₀ ex J2,eA (Aq X Ex scope cl (ts++fs) C s₀ H₀ ex J2) (λ_=>Ex)->PE (Aq X Ex scope cl (ts++fs) C s₀ H₀ ex J2) elt (tE (λ_=>Ex) f))
  (hs:autoParam (∀ x,foldedSetIterable iter X.env x=pure x) aI._auto_1):PE X (.ListComp elt [⟨tg,iter,[],0⟩] scope pos) (tO E (jz it set f ts.length js)):=by
 intro J2 s σ H Q I q;rw[eval_ListComp];refine pC (Ex:=E σ) (tt:=none) (te:=tE (λ_=>E σ) f) J8 Ke hf Kb hk nc lo fh ag fr hi (hg (E σ)) (λ_ _ _ _ _=>trivial) (λC s₀ H₀ ex J2=>he (E σ) C s₀ H₀ ex J2 (Cb (X:=kO X scope cl (ts++fs) C s₀ H₀ ex J2) (bQ:=X.env) (Kd:=Kd) Ke hf rfl)) hs I (sY hv LI so q) none _ (λD H' s' C Io q hm f=>?_) λea T Cc dd Hc s' I' h1 h2 h3 h4=>?_
 .obtain⟨m,hn⟩:=hm;exact⟨m,hn,λh' LK=>⟨.ref D,H',Io.other f LK,rfl,q⟩⟩
 .exact hz _ _ ⟨ea,Cc,dd,J2,σ,rfl,.inr ⟨Hc,T,_,I',.inr rfl,h1,h2,h3,h4⟩⟩
end
theorem zZ{E:XK}{cl:List (Str×Addr)}{Lv py:Pos}{it:ae->M (List PV)}{g:TG}{set:PV->ae->M ae}{f:ae->M PV}{fs:List Str}(Ke:X.stack=X.env::Kd)(hf0:X.env.frame=some X.env.locals)(hz:∀ e s,Zx X (λ_=>E) e s->X.xe e s)(J8:X.calm=true)
  (Kb:closureFor scope X.env=pure cl) (hk:scope.kind=.function) (nc:dw scope.names=true) (lo:d_ scope.names=true) (fh:dY cl scope.names=true) (ag:c6 X cl) (fr:eB X scope cl fs js)
  (hi:PI X tg iter wi) (hv:uY (λ_=>E) wi it) (hg:∀ Ex C s₀ H₀ ex J2,PG (Aq X Ex scope cl (ts++fs) C s₀ H₀ ex J2) tg g) (LI:∀ E,u9 E g set) (so:jx set) (he:∀ Ex C s₀ H₀ ex J2,eA (Aq X Ex scope cl (ts++fs) C s₀ H₀ ex J2) (λ_=>Ex)->PE (Aq X Ex scope cl (ts++fs) C s₀ H₀ ex J2) elt (tE (λ_=>Ex) f))
  (hN:X.N.Nodup) (Ni:X.N[i]?=some y) (hy:Loc X.env.scope y)
  (hs:autoParam (∀ x,foldedSetIterable iter X.env x=pure x) aI._auto_1) (MO:autoParam (swapsWith (.ListComp elt [⟨tg,iter,[],0⟩] scope pos) (some (.Name y py)) Lv.line X.env=pure true) aR._auto_1)
  (hf:autoParam (X.fn y=true\/X.env.scope.names.lookup y=some .local) aF._auto_1) :
  PS X (.Assign [.Name y py] (.ListComp elt [⟨tg,iter,[],0⟩] scope pos) Lv) (tS E (bc i (ck (jz it set f ts.length js)))):=by
 intro J2 s σ H D I q;have q':tO (λ_=>E) (jz it set f ts.length js) σ H (λx H1=>D.nx (σ.set i (some x)) H1):=by
  obtain⟨B,H₀,Hs,env,sr,q⟩:=q;refine⟨B,H₀,Hs,env,sr,(au.bind (au.bind q)).imp (λps hp vs p J7 H' g r n=>?_) λe he=>he.grow sr.gr⟩;have gn:=bx.new (o:=.lst vs) g.sub n;exact hp _ _ _ ((sr.grow (g.trans gn)).set (.lst av (r.mono gn.st)))
 rw[RT _ _ _ _ MO];refine NB (PB (NB ?_));show wpAny _ X.A (do let _ <- comprehension (.ListComp elt [⟨tg,iter,[],0⟩] scope pos) scope X.env _ (newList []) false (eval iter X.env) (some (assign (.Name y py) X.env))) _ _ s;refine NB (N8 (pC (Ex:=E) (tt:=none) (te:=tE (λ_=>E) f) J8 Ke hf0 Kb hk nc lo fh ag fr hi (hg E) (λ_ _ _ _ _=>trivial) (λC s₀ H₀ ex J2=>he E C s₀ H₀ ex J2 (Cb (X:=kO X scope cl (ts++fs) C s₀ H₀ ex J2) (bQ:=X.env) (Kd:=Kd) Ke hf0 rfl)) hs I (sY (E:=λ_=>E) hv LI so q') (some (assign (.Name y py) X.env)) (λ_ s'=>SP X J2 D .next s') (λDd H' s' C Io q hm f=>?_) λea T Cc dd Hc s' I' h1 h2 h3 h4=>?_) (λ_ s' hq=>NH (NH hq)) λ_ _ e=>e)
 .show wpAny _ X.A (assign (.Name y py) X.env (.ref Dd)) _ _ s';refine Ri (lD Io hN Ni hy (v:=.ref Dd) rfl (λMw I'' ⟨a,sb,ha⟩=>?_) hf);obtain⟨m,hn⟩:=hm;obtain⟨f0,f1,f2,f3,f4,f5⟩:=f;have naC:a≠C:=by
   rcases ha with z | z
   .rw[z];exact λw=>f1 w.symm
   .exact f4 y a z
  refine⟨m,hn.sameBut sb (O4 naC),λh' LK=>?_⟩;exact⟨_,H',I''.other ⟨f0,f1,f2,f3,f4,f5⟩ LK,q⟩
 .exact hz _ _ ⟨ea,Cc,dd,J2,σ,rfl,.inr ⟨Hc,T,_,I',.inr rfl,h1,h2,h3,h4⟩⟩
section
variable{E:Value->Shared->Prop}{d it:Addr}{es:Array DictEntry}{ep:Nat}
end
section
variable{iL iS ic:Nat}{a b0 b1:Addr}{B H₀ Hs:Hp}{env:ae}{vs ws:List V}
end
section
variable{E:XK}{st1 Mb:Stmt}{rest:List Stmt}{iL iS ic:Nat}{it:ae->M (List PV)}{fi fv:ae->M PV}{g:ae->M Out}
end
section
variable{κ:Type}[DecidableEq κ]
end
section
variable(sm:List Int->List Int->List Int)(z r:List Int)
end
section
variable{d p:Addr}{H':Hp}{Ky kvs':List (List Key×V)}{vs vs':List Int}
end
section
variable{K:PySem.W.Frag}{sem:List PV->M PV}{sm:List Int->List Int->List Int}{S:List Int}
end
variable{base:Heap}{mg:Str->Option Value}{P:Program}
section
variable{K:PySem.W.Frag}
end
variable{l:List (Str×Tok)}{ws:List Str}
def vo:V->List V->Hp->VK->Prop:=λx xs H Q=>∃ a b,x=.str a/\xs=[.str b]/\Q (.bl (decide (0+b.length<=a.length)&&Rl a b 0)) H
theorem xg:C5 X "str.startswith" vo:=by
 intro J2 s σ H x xs v us Q I rx rs h;obtain⟨a,b,rfl,rfl,q⟩:=h;obtain⟨t,rfl⟩:=rx;obtain⟨u,rfl,ru⟩:=vals1 rs;obtain⟨t',rfl⟩:=ru;exact call_gives F.slot_str_startswith (Qn s a t) F.entry_str_startswith (F.args_str_startswith_2 _ _) (gives_str_startswith a b t t') ⟨.bl _,H,I,rfl,q⟩
theorem k7:∀ l:List (Str×Tok),Vals ((l.map (·.1)).map V.str) (strValues l)
 | []=>.nil
 | (x,t)::r=>.cons ⟨t,rfl⟩ (k7 r)
def zF:V->List V->Hp->VK->Prop:=λx xs H Q=>∃ a b,x=.str a/\xs=[.str b]/\(b.length==0)=false/\a.length+2<=sizeLine/\∀ l,H l=none->Q (.ref l) (upd H l (.lst ((Txt.split a b).map V.str)))
theorem jI{Q:VK}(I:Inv X J2 σ H s)(e:l.map (·.1)=ws)(hl:ws.length<=sizeLine)(q:∀ l,H l=none->Q (.ref l) (upd H l (.lst (ws.map V.str)))) :
  EP X J2 σ Q (.ref s.heap.objs.size) { s with heap:=s.heap.push { cls:=.type "list", data:=.seq (strValues l).toArray },toks:=k }:=by
 subst e;refine⟨.ref s.heap.objs.size,_,I.laid (a:=s.heap.objs.size) (t':=k) (λ_ _ q=>NF _ q) (NK _) (show bF X.prog X.w _ _ _ (.lst ((l.map (·.1)).map V.str)) from ⟨by rw[ND];exact hl,strValues l,0,k7 l,NO _ rfl⟩),rfl,q _ (I.bg.fresh (NK _))⟩
theorem iP:C5 X "str.split" zF:=by
 intro J2 s σ H x xs v us Q I rx rs h;obtain⟨a,b,rfl,rfl,hy,hz,q⟩:=h;obtain⟨t,rfl⟩:=rx;obtain⟨u,rfl,ru⟩:=vals1 rs;obtain⟨t',rfl⟩:=ru;have hn:(Qi a (Oa a b 0 a.length (a.length+1)) b.length).length<=sizeLine:=by
  have e1:=StrLaws.occ_length_le a b 0 a.length (a.length+1);rw[length_partsBetween];lia
 cases h1:(decide (a.length<b.length)||decide (Sg a<Sg b))
 .cases hf:(Oa a b 0 a.length (a.length+1)).isEmpty
  .have e:Txt.split a b=Qi a (Oa a b 0 a.length (a.length+1)) b.length:=(if_neg (ne_true_of_eq_false h1)).trans (if_neg (ne_true_of_eq_false hf));refine Pe F.slot_str_split (Qn _ _ _) F.entry_str_split (F.args_str_split_2 _ _) (meets_str_split_sep a b t t' h1 hy hf (by lia) hn) ?_;show wants (EP X J2 σ Q) X.xe _ { s with toks:=_,heap:=s.heap.push { cls:=.type "list", data:=.seq (strsFrom s.toks (Qi a (Oa a b 0 a.length (a.length+1)) b.length)).toArray } };rw[strsFrom_eq];exact jI (l:=numbered s.toks _) I ((numbered_texts _ _).trans e.symm) (by rw[e];exact hn) q
  .have e:Txt.split a b=[a]:=(if_neg (ne_true_of_eq_false h1)).trans (if_pos hf);exact Pe F.slot_str_split (Qn _ _ _) F.entry_str_split (F.args_str_split_2 _ _) (meets_str_split_not_found a b t t' h1 hy hf) (jI (l:=[(a,t)]) I e.symm (by rw[e];show 1<=sizeLine;decide) q)
 .have e:Txt.split a b=[a]:=if_pos h1;exact Pe F.slot_str_split (Qn _ _ _) F.entry_str_split (F.args_str_split_2 _ _) (meets_str_split_cannot_occur a b t t' h1) (jI (l:=[(a,t)]) I e.symm (by rw[e];show 1<=sizeLine;decide) q)
theorem pj:∀ {ws:List Str} {us:List Value},Vals (ws.map V.str) us->∃ l:List (Str×Tok),us=strValues l/\l.map (·.1)=ws
 | [],_,.nil=>⟨[],rfl,rfl⟩
 | w::r,_,.cons ⟨t,e⟩ h=>by
  obtain⟨l,e1,e2⟩:=pj h;exact⟨(w,t)::l,by rw[e,e1];rfl,by rw[<- e2];rfl⟩
def rJoin(K:PySem.W.Frag):V->List V->Hp->VK->Prop:=λx xs H Q=>∃ a p ws,x=.str a/\xs=[.ref p]/\gK K H p (ws.map V.str)/\JoinOk a ws=true/\Q (.str (Txt.join a ws)) H
theorem gI:C5 X "str.join" (rJoin X.K):=by
 intro J2 s σ H x xs v us Q I rx rs h;obtain⟨a,p,ws,rfl,rfl,hq,ok,q⟩:=h;obtain⟨t,rfl⟩:=rx;obtain⟨u,rfl,ru⟩:=vals1 rs;cases ru;obtain⟨J6,r,pl,hz⟩:=I.list hq;obtain⟨l,rfl,e⟩:=pj r;exact SC.join pl.isList e ok λt' k=>⟨.str _,H,I.kept (t':=k) λ_ _ e=>e,⟨_,rfl⟩,q⟩
def Cq:List V->Hp->VK->Prop:=λxs H Q=>∃ a n,xs=[.str a]/\intText? a=some n/\a.length<=640/\Q (.int n) H
theorem pG:cO X (.type "int") Cq:=by
 intro J2 s σ H xs us Q I r h;obtain⟨a,n,rfl,hn,hl,q⟩:=h;obtain⟨u,rfl,ru⟩:=vals1 r;obtain⟨t,rfl⟩:=ru;exact PySem.W.KIN.call_text hn hl ⟨.int n,H,I.tok _,⟨_,rfl⟩,q⟩
def GY(a:Str):It:=⟨λi _=>i<a.length,λi H x H'=>H'=H/\∃ c,a.cps[i]?=some c/\x=.str ⟨#[c]⟩,λi _=>a.length<=i⟩
variable{x:Str}
theorem IsStrIter.at{h h':Heap}{it:Addr}{ty:String}{t:Tok}(y:h.IsStrIter it ty x t i)(k:∀ o,h.get? it=some o->h'.get? it=some o):h'.IsStrIter it ty x t i:=by
 obtain⟨o,e,r⟩:=y;exact⟨o,k o e,r⟩
theorem uP{K:PySem.W.Frag}(it:Addr)(a:Str)(t:Tok):Turn P w K tg (GY a) [it] it (λi h=>h.IsStrIter it "str_ascii_iterator" a t i) where
 mem:=by simp
 obj:=λi h st b hb=>by
  have e:b=it:=by simpa using hb
  subst e;obtain⟨o,e,c,d⟩:=st;exact⟨o,e,λv z=>by rw[d] at z;cases z⟩
 keep:=λi h h' st k=>IsStrIter.at st λo e=>k it (by simp) o e
 item:=by
  intro X hP hw hK hc i J2 s σ H E I hf st hg;subst hP hw hK;obtain⟨f0,f1,f2,f3,f4,f5⟩:=hf it (by simp);have hx:a.cps[i]?=some (a.cps[i]'hg):=Rf hg;refine wpAny_pyNext_ascii_item st hx λh' L6 sb=>?_;have I1:Inv X J2 σ H { s with heap:=h',toks:=s.toks+1 }:=I.turned (t':=s.toks+1) (λb o hb e=>(sb.2 b hb).trans e) f0 f1 f3 f4 f5;obtain⟨o,e,c,d⟩:=id L6;exact⟨_,rfl,sX (s:={ s with heap:=h',toks:=s.toks+1 }) e c d (by decide) ⟨.str _,H,I1,⟨_,rfl⟩,⟨rfl,_,hx,rfl⟩,L6,λb hb=>(hf b hb).1⟩⟩
 done:=by
  intro X hP hw hK hc i J2 s σ H E I hf st hg;subst hP hw hK;obtain⟨f0,f1,f2,f3,f4,f5⟩:=hf it (by simp);exact wpAny_pyNext_ascii_end (I.ok.hd hc) st (RI hg) λh' eb=>⟨rfl,I.turned (t':=s.toks) (λb o hb e=>eb b o hb e) f0 f1 f3 f4 f5⟩
 self:=λ_ _ _ _ _ st h=>wpAny_pyIter_striter_ascii st h
theorem wc{K:PySem.W.Frag}(it:Addr)(a:Str)(t:Tok):Turn P w K tg (GY a) [it] it (λi h=>h.IsStrIter it "str_iterator" a t i) where
 mem:=by simp
 obj:=λi h st b hb=>by
  have e:b=it:=by simpa using hb
  subst e;obtain⟨o,e,c,d⟩:=st;exact⟨o,e,λv z=>by rw[d] at z;cases z⟩
 keep:=λi h h' st k=>IsStrIter.at st λo e=>k it (by simp) o e
 item:=by
  intro X hP hw hK hc i J2 s σ H E I hf st hg;subst hP hw hK;obtain⟨f0,f1,f2,f3,f4,f5⟩:=hf it (by simp);have hx:a.cps[i]?=some (a.cps[i]'hg):=Rf hg;refine wpAny_pyNext_wide_item st hx λh' L6 sb=>?_;have I1:Inv X J2 σ H { s with heap:=h',toks:=s.toks+1 }:=I.turned (t':=s.toks+1) (λb o hb e=>(sb.2 b hb).trans e) f0 f1 f3 f4 f5;obtain⟨o,e,c,d⟩:=id L6;exact⟨_,rfl,sX (s:={ s with heap:=h',toks:=s.toks+1 }) e c d (by decide) ⟨.str _,H,I1,⟨_,rfl⟩,⟨rfl,_,hx,rfl⟩,L6,λb hb=>(hf b hb).1⟩⟩
 done:=by
  intro X hP hw hK hc i J2 s σ H E I hf st hg;subst hP hw hK;obtain⟨f0,f1,f2,f3,f4,f5⟩:=hf it (by simp);exact wpAny_pyNext_wide_end (I.ok.hd hc) st (RI hg) λh' eb=>⟨rfl,I.turned (t':=s.toks) (λb o hb e=>eb b o hb e) f0 f1 f3 f4 f5⟩
 self:=λ_ _ _ _ _ st h=>wpAny_pyIter_striter_wide st h
def GB(tl:TE):TI:=fun σ H R=>tl σ H λx H1=>∃ a,x=.str a/\R (GY a) H1
theorem z7{l:Expr}{tl:TE}(hl:PE X l tl):PI X tg l (GB tl):=by
 intro J2 s σ H R I h;refine b_ (hl J2 s σ H _ I h) λv s1 ⟨x,H1,I1,r1,q1⟩=>?_;obtain⟨a,e,q⟩:=q1;subst e;obtain⟨t,rfl⟩:=r1;have fp:∀ (h':Heap) b,b∈[s1.heap.objs.size]->jk X J2 H1 b:=λh' b hb=>by
  have e:b=s1.heap.objs.size:=by simpa using hb
  subst e;exact I1.om (NK _) (I1.bg.fresh (NK _))
 cases ha:a.cps.all (·<128)
 .refine wpAny_pyIter_wide ha ?_;exact⟨s1.heap.objs.size,[s1.heap.objs.size],_,_,H1,rfl,I1.kept (t':=s1.toks) λb o e=>NF _ e,wc _ a t,⟨_,NO _ rfl,rfl,rfl⟩,fp s1.heap,q⟩
 .refine wpAny_pyIter_ascii ha ?_;exact⟨s1.heap.objs.size,[s1.heap.objs.size],_,_,H1,rfl,I1.kept (t':=s1.toks) λb o e=>NF _ e,uP _ a t,⟨_,NO _ rfl,rfl,rfl⟩,fp s1.heap,q⟩
def eI(x:Str)(lo hi:Option Int):Str:=if ((N7 lo hi 1 x.length).length==x.length)=true then x else ⟨((N7 lo hi 1 x.length).filterMap (x.cps[·]?)).toArray⟩
def HA:V->Option Int->Option Int->Hp->VK->Prop:=λx lo hi H Q=>∃ a,x=.str a/\(eI a lo hi).length<=sizeLine/\Q (.str (eI a lo hi)) H
theorem part_of{v:Value}{o:Option Int}(p:IsPart v o):∃ l:Option (Int×Tok),v=partValue l/\l.map (·.1)=o:=by
 cases p with
 | none=>exact⟨none,rfl,rfl⟩
 | int i t=>exact⟨some (i,t),rfl,rfl⟩
theorem EA:Ae X HA:=by
 intro J2 s σ H x v vl vu lo hi sl Q I rx hs pl pu h;obtain⟨a,rfl,hz,q⟩:=h;obtain⟨t,rfl⟩:=rx;obtain⟨l,rfl,el⟩:=part_of pl;obtain⟨u,rfl,eu⟩:=part_of pu;refine⟨"str", _,slot_str_getitem.lookup,Qn s a t,?_⟩;refine wpAny_getItem_str_slice (l:=l) (u:=u) (st:=none) hs rfl ?_;unfold sliceMade slicePicked;rw[el,eu];unfold eI at hz q
 by_cases z:((N7 lo hi 1 a.length).length==a.length)=true
 .rw[if_pos z] at hz q;rw[if_pos (by simpa using z)];exact⟨.str a,H,I,⟨t,rfl⟩,q⟩
 .rw[if_neg z] at hz q;rw[if_neg (by simpa using z)];exact⟨hz,⟨.str _,H,I.tok _,⟨_,rfl⟩,q⟩⟩
def BO(i j:Str):Bool:=!(Oa j i 0 j.length 1).isEmpty
def A7:PV->PV->M PV
 | .str i,.str j=>M.ok (.bl (BO i j))
 | _,_=>none
def vd:PV->PV->M PV
 | .str i,.str j=>M.ok (.bl (!BO i j))
 | _,_=>none
def ju:List PV->M PV
 | [.int i]=>bG (i.natAbs.log2<1920) (M.ok (.str (toString i)))
 | _=>none
def v8:List PV->M PV
 | [.str a]=>bG (a.length<=640) (eN ((intText? a).map .int))
 | _=>none
theorem Dj:jl E (λx y H Q=>∃ i j,x=.str i/\y=.str j/\Q (.bl (!(Oa j i 0 j.length 1).isEmpty)) H) A7:=by
 intro σ Hs H p q v u Q s rp rq h;cases rp with
 | str i=>cases rq with
  | str j=>exact⟨i,j,rfl,rfl,cj.flat h s (.bl _)⟩
  | _=>exact h.elim
 | _=>exact h.elim
theorem BQ:jl E (λx y H Q=>∃ i j,x=.str i/\y=.str j/\Q (.bl (!(!(Oa j i 0 j.length 1).isEmpty))) H) vd:=by
 intro σ Hs H p q v u Q s rp rq h;cases rp with
 | str i=>cases rq with
  | str j=>exact⟨i,j,rfl,rfl,cj.flat h s (.bl _)⟩
  | _=>exact h.elim
 | _=>exact h.elim
theorem mD:jr E (λxs H Q=>∃ i,xs=[.int i]/\i.natAbs.log2<1920/\Q (.str (toString i)) H) ju:=by
 intro σ Hs H ps vs Q s r h
 match ps,r with
 | [],_=>exact h.elim
 | _::_::_,r=>cases r with | cons a r=>cases a <;> exact h.elim
 | [p],r =>
  obtain⟨v,rfl,rp⟩:=r.one;cases rp with
  | int i =>
   obtain⟨hz,h⟩:=au.bG h;exact⟨i,rfl,hz,cj.flat h s (.str _)⟩
  | _=>exact h.elim
theorem vj:jr E Cq v8:=by
 intro σ Hs H ps vs Q s r h
 match ps,r with
 | [],_=>exact h.elim
 | _::_::_,r=>cases r with | cons a r=>cases a <;> exact h.elim
 | [p],r =>
  obtain⟨v,rfl,rp⟩:=r.one;cases rp with
  | str a =>
   obtain⟨hz,h⟩:=au.bG h;cases e:intText? a with
   | none=>rw[e] at h;exact h.elim
   | some n =>
    rw[e] at h;exact⟨a,n,rfl,e,hz,cj.flat h s (.int _)⟩
  | _=>exact h.elim
def i6(op:Str->PV->M PV)(f g:ae->M PV):ae->M PV:=λenv=>(f env).bind λp=>match p with
 | .str a=>(g env).bind (op a)
 | _=>none
def mr(a:Str):PV->M PV
 | .str b=>M.ok (.bl (decide (0+b.length<=a.length)&&Rl a b 0))
 | _=>none
def jJ(a:Str):PV->M PV
 | .str b=>bG ((b.length==0)=false/\a.length+2<=sizeLine) (M.ok (.lst ((Txt.split a b).map .str)))
 | _=>none
def strsOf:List PV->Option (List Str)
 | []=>some []
 | .str a::r=>(strsOf r).map (a::·)
 | _::_=>none
theorem pE:∀ {xs:List PV} {ws:List Str},strsOf xs=some ws->xs=ws.map .str
 | [],_,e=>by cases e;rfl
 | x::r,ws,e=>by
  cases x with
  | str a =>
   obtain⟨w,e1,rfl⟩:=N4.mp (show (strsOf r).map (a::·)=some ws from e);rw[pE e1];rfl
  | _=>cases e
theorem jB:∀ ws:List Str,strsOf (ws.map .str)=some ws
 | []=>rfl
 | a::r=>by show (strsOf (r.map .str)).map (a::·)=_;rw[jB r];rfl
def fk(a:Str):PV->M PV
 | .lst xs=>match strsOf xs with
  | some ws=>bG (JoinOk a ws=true) (M.ok (.str (Txt.join a ws)))
  | none=>none
 | _=>none
section
variable{a:Expr}{f g:ae->M PV}{name:Str}{id:String}{r:V->List V->Hp->VK->Prop}{op:Str->PV->M PV}
theorem gc(slot:Slot "str" name id)(hty:typeOf (.builtin id)=pure (.type "method_descriptor"))(hm:C5 X id r)
  (hv:∀ (σ:St) (Hs H:Hp) (x:Str) (q:PV) (u:V) (Q:VK),aY Hs H->Rep Hs q u->au (op x q) (cj Hs H Q) (XW (E σ) Hs H)->r (.str x) [u] H Q) (ho:PE X o (tE E f)) (ha:PE X a (tE E g))
  (KQ:autoParam (attributeBase o name X.env (eval o X.env)=eval o X.env) aR._auto_1)
  (LG:autoParam (((backTo J_ (starEach [a] X.env)).all (λx=>!x.1)&&(backToKw J_ (keywordEach [] X.env)).all (λx=>x.1.isSome)
   && decide (([a]:List Expr).length+([]:List Keyword).length+(if ([]:List Keyword).isEmpty then 0 else 1)<30))=true) aR._auto_1)
  (KR:autoParam ((apos.endLine==J_.line)=true) aR._auto_1) (hs:autoParam (starEach [a] X.env=(false,eval a X.env)::starEach [] X.env) aR._auto_1) (Kt:autoParam ((backTo J_ (starEach [] X.env)).any (·.1)=false) aR._auto_1) :
  PE X (.Call (.Attribute o name apos) [a] [] J_) (tE E (i6 op f g)):=by
 refine(v_ PySem.F.plainAttrs_str slot hty hm ho (bZ ha gk hs) KQ LG KR hs Kt).imp fun σ H Q q=>mC q λB H₀ Hs H1 env p v sr rp hp=>?_;cases rp with
 | str x =>
  refine⟨rfl,B,H₀,Hs,env,sr,(au.bind hp).imp (λz hz u J7 H' g r'=>?_) λe he=>he⟩;exact hv σ J7 H' x z u Q g.sub r' (hz.imp (λz' Ma w Ka H2 g2 r2=>Ma w Ka H2 (g.trans g2) r2) λe he=>he.grow g)
 | _=>exact hp.elim
theorem wd(σ:St)(Hs H:Hp)(x:Str)(q:PV)(u:V)(Q:VK)(s:aY Hs H)(rq:Rep Hs q u)(h:au (mr x q) (cj Hs H Q) (XW (E σ) Hs H)):vo (.str x) [u] H Q:=by
 cases rq with
 | str b=>exact⟨x,b,rfl,rfl,cj.flat h s (.bl _)⟩
 | _=>exact h.elim
theorem kl{Hs:Hp}:∀ ws:List Str,aE Hs (ws.map .str) (ws.map V.str)
 | []=>.nil
 | a::r=>.cons (.str a) (kl r)
theorem kB(σ:St)(Hs H:Hp)(x:Str)(q:PV)(u:V)(Q:VK)(s:aY Hs H)(rq:Rep Hs q u)(h:au (jJ x q) (cj Hs H Q) (XW (E σ) Hs H)):zF (.str x) [u] H Q:=by
 cases rq with
 | str b =>
  obtain⟨⟨h1,h2⟩,h⟩:=au.bG h;exact⟨x,b,rfl,rfl,h1,h2,cj.lst h s (kl _)⟩
 | _=>exact h.elim
theorem gH{K:PySem.W.Frag}(σ:St)(Hs H:Hp)(x:Str)(q:PV)(u:V)(Q:VK)(s:aY Hs H)(rq:Rep Hs q u)(h:au (fk x q) (cj Hs H Q) (XW (E σ) Hs H)):rJoin K (.str x) [u] H Q:=by
 cases rq with
 | @lst p xs vs ha hx =>
  cases e:strsOf xs with
  | none=>simp only[fk,e] at h;exact h.elim
  | some ws =>
   simp only[fk,e] at h;obtain⟨ok,h⟩:=au.bG (show au (bG (JoinOk x ws=true) (M.ok (PV.str (Txt.join x ws)))) _ _ from h);have e2:=pE e;subst e2;exact⟨x,p,ws,rfl,rfl,gK.of (by rw[<- hx.strs];exact s _ _ ha),ok,cj.flat h s (.str _)⟩
 | _=>exact h.elim
end
def signsOf(f:ae->M PV):ae->M (List PV):=λenv=>(f env).bind λp=>match p with
 | .str a=>M.ok (a.cps.toList.map λc=>.str ⟨#[c]⟩)
 | _=>none
variable{a:Str}
theorem yc{J9:Hp}:jC (GY a) J9 (a.cps.toList.map λc=>PV.str ⟨#[c]⟩) where
 stop:=λi Hs H s1 s2 hi=>show a.length<=i by simpa [Th] using hi
 go:=λi Hs H s1 s2 hi=>show i<a.length by simpa [Th] using hi
 rD:=λi Hs H x H2 s1 s2 hi y=>by
  obtain⟨rfl,c,hc,rfl⟩:=y;exact⟨.str ⟨#[c]⟩,Hs,by rw[NZ,RV,hc];rfl,.refl s2,.str _⟩
theorem wa{f:ae->M PV}:uY E (GB (tE E f)) (signsOf f):=by
 intro σ H R q;refine bw (K:=KI R) KI.g q λB H₀ Hs H1 env p v sr rp hp=>?_;cases rp with
 | str a=>exact⟨a,rfl,hp (GY a) Hs H1 (.refl sr.gr.sub) yc⟩
 | _=>exact hp.elim
def Ei(p:PV)(lo hi:Option Int):M PV:=match p with
 | .str a=>bG ((eI a lo hi).length<=sizeLine) (M.ok (.str (eI a lo hi)))
 | _=>none
def cM(f:ae->M PV)(lo hi:ae->M (Option Int)):ae->M PV:=λenv=>(f env).bind λp=>(lo env).bind λl=>(hi env).bind λh=>Ei p l h
theorem c7{e:Expr}{lo hi:Option Expr}{p2:Pos}{f:ae->M PV}{gl gh:ae->M (Option Int)}(he:PE X e (tE E f))(hl:PO X lo (Fn E gl))(hh:PO X hi (Fn E gh)):PE X (.Subscript e (.Slice lo hi none p2) pos) (tE E (cM f gl gh)):=by
 refine(rT EA he hl hh).imp fun σ H Q q=>bw (K:=il Q) il.g q λB H₀ Hs H1 env p v sr rp hp=>?_;refine⟨B,H₀,Hs,env,sr,(au.bind hp).imp (λl hl Ka H2 g2=>?_) λe he=>he⟩;have Km:=sr.grow g2;refine⟨B,H₀,Ka,env,Km,(au.bind hl).imp (λh hh K_ H3 g3=>?_) λe he=>he.grow g2⟩;have LH:=Km.grow g3;have hz:au (Ei p l h) (cj K_ H3 Q) (λ_=>True):=hh.imp (λz hz w M1 H4 g4 r=>hz w M1 H4 ((g2.trans g3).trans g4) r) λ_ _=>trivial;cases rp with
 | str a =>
  obtain⟨MP,hz⟩:=au.bG hz;exact⟨a,rfl,MP,cj.flat hz LH.gr.sub (.str _)⟩
 | _=>exact hz.elim
theorem tf(hg:Gl X x)(hm:∃ u,X.mg x=some u/\RelV (.str a) u)(hd:autoParam ((x==("__debug__" : Str))=false) aD._auto_1):PE X (.Name x pos) (tE E λ_=>M.ok (.str a)):=jh (Cn hg hm hd) λ_=>.str a
variable{ps:List Str}{fd:FuncData}{f:Addr}
theorem aP.no{K:PySem.W.Frag}{m:Nat}:aP P w K mg base (cu P w) k f fd ps (fE m (bq m λ_=>none)) where
 len:=λvs H Q E h=>by
  obtain⟨_,Hs,qs,sm,r,h⟩:=h;exact(au.bG h).2.elim
 run:=λA outer s H args us vs Q E hr e hb rv h=>by
  obtain⟨_,Hs,qs,sm,r,h⟩:=h;exact(au.bG h).2.elim
def zE(a b:Str):List Str:=[(Txt.partition a b).1,(Txt.partition a b).2.1,(Txt.partition a b).2.2]
def CC:V->List V->Hp->VK->Prop:=λx xs H Q=>∃ a b,x=.str a/\xs=[.str b]/\(b.length==0)=false/\a.length<=sizeLine/\∀ l,H l=none->Q (.ref l) (upd H l (.tup ((zE a b).map V.str)))
theorem oX{Q:VK}(I:Inv X J2 σ H s)(e:l.map (·.1)=ws)(hl:ws.length<=sizeLine)(q:∀ l,H l=none->Q (.ref l) (upd H l (.tup (ws.map V.str)))) :
  EP X J2 σ Q (.ref s.heap.objs.size) { s with heap:=s.heap.push { cls:=.type "tuple", data:=.seq (strValues l).toArray },toks:=k }:=by
 subst e;refine⟨.ref s.heap.objs.size,_,I.laid (a:=s.heap.objs.size) (t':=k) (λ_ _ q=>NF _ q) (NK _) (show bF X.prog X.w _ _ _ (.tup ((l.map (·.1)).map V.str)) from ⟨by rw[ND];exact hl,strValues l,k7 l,?_⟩),rfl,q _ (I.bg.fresh (NK _))⟩;exact⟨_,NO _ rfl,rfl,0,rfl⟩
theorem vn:C5 X "str.partition" CC:=by
 intro J2 s σ H x xs v us Q I rx rs h;obtain⟨a,b,rfl,rfl,hy,hz,q⟩:=h;obtain⟨t,rfl⟩:=rx;obtain⟨u,rfl,ru⟩:=vals1 rs;obtain⟨t',rfl⟩:=ru;refine Pe F.slot_str_partition (Qn _ _ _) F.entry_str_partition (F.args_str_partition_2 _ _) (meets_str_partition a b t t' hy hz) ?_;unfold zE at q;unfold Txt.partition at q;cases e:Oa a b 0 a.length 1 with
 | nil =>
  rw[e] at q;exact oX (l:=[(a,t),(TH,s.toks),(TH,s.toks)]) I rfl (show 3<=sizeLine by decide) q
 | cons i r =>
  rw[e] at q;exact oX (l:=[(Ss a 0 i,s.toks),(b,t'),(Ss a (i+b.length) a.length,s.toks+1)]) I rfl (show 3<=sizeLine by decide) q
def vS(a:Str):PV->M PV
 | .str b=>bG ((b.length==0)=false/\a.length<=sizeLine) (M.ok (.tup ((zE a b).map .str)))
 | _=>none
theorem vb(σ:St)(Hs H:Hp)(x:Str)(q:PV)(u:V)(Q:VK)(s:aY Hs H)(rq:Rep Hs q u)(h:au (vS x q) (cj Hs H Q) (XW (E σ) Hs H)):CC (.str x) [u] H Q:=by
 cases rq with
 | str b =>
  obtain⟨⟨h1,h2⟩,h⟩:=au.bG h;exact⟨x,b,rfl,rfl,h1,h2,cj.tup h s (kl _)⟩
 | _=>exact h.elim
def vH(a:Str):PV->M (List PV)
 | .str b=>bG ((b.length==0)=false/\a.length+2<=sizeLine) (M.ok ((Txt.split a b).map .str))
 | _=>none
def gQ(f g:ae->M PV):ae->M (List PV):=λenv=>(f env).bind λp=>match p with
 | .str a=>(g env).bind (vH a)
 | _=>none
section
variable{a:Expr}{f g:ae->M PV}
theorem xF(ho:PE X o (tE E f))(ha:PE X a (tE E g))
  (KQ:autoParam (attributeBase o "split" X.env (eval o X.env)=eval o X.env) aR._auto_1)
  (LG:autoParam (((backTo J_ (starEach [a] X.env)).all (λx=>!x.1)&&(backToKw J_ (keywordEach [] X.env)).all (λx=>x.1.isSome)
   && decide (([a]:List Expr).length+([]:List Keyword).length+(if ([]:List Keyword).isEmpty then 0 else 1)<30))=true) aR._auto_1)
  (KR:autoParam ((apos.endLine==J_.line)=true) aR._auto_1) (hs:autoParam (starEach [a] X.env=(false,eval a X.env)::starEach [] X.env) aR._auto_1) (Kt:autoParam ((backTo J_ (starEach [] X.env)).any (·.1)=false) aR._auto_1) :
  PE X (.Call (.Attribute o "split" apos) [a] [] J_) (tO E (gQ f g)):=by
 refine(v_ PySem.F.plainAttrs_str PySem.F.slot_str_split PySem.F.type_str_split iP ho (bZ ha gk hs) KQ LG KR hs Kt).imp fun σ H Q q=>bw (K:=KO Q) KO.gr q λB H₀ Hs H1 env p v sr rp hp=>?_;cases rp with
 | str x =>
  refine⟨rfl,B,H₀,Hs,env,sr,(au.bind hp).imp (λz hz u J7 H' g r'=>?_) λe he=>he⟩;cases r' with
  | str b =>
   obtain⟨⟨h1,h2⟩,hz⟩:=au.bG hz;exact⟨x,b,rfl,rfl,h1,h2,λl n=>hz _ l J7 H' g (kl _) n⟩
  | _=>exact hz.elim
 | _=>exact hp.elim
end
def DZ(K:PySem.W.Frag):V->List V->Hp->VK->Prop:=λx xs H Q=>∃ (a:Addr) (bs:List Bool) (b:Bool),x=.ref a/\xs=[.bl b]/\gK K H a (bs.map V.bl)/\Q (.int (bs.countP λc=>c==b:Nat)) H
theorem nV:∀ {bs:List Bool} {us:List Value},Vals (bs.map V.bl) us->us=bs.map OV
 | [],_,.nil=>rfl
 | b::r,_,.cons e h=>by
  rw[nV h,e];rfl
theorem xK:C5 X "list.count" (DZ X.K):=by
 intro J2 s σ H x xs v us Q I rx rs h;obtain⟨a,bs,b,rfl,rfl,hq,q⟩:=h;cases rx;obtain⟨u,rfl,ru⟩:=vals1 rs;cases ru;obtain⟨J6,r,pl,hz⟩:=I.list hq;have e:=nV r;subst e;obtain⟨⟨cls,dd,data,sl⟩,ho,hc,n,hd⟩:=id pl.isList;simp only at hc hd;subst hc hd;refine Pe F.slot_list_count ⟨_,ho,rfl⟩ F.entry_list_count (F.args_list_count_2 _ _) (SeqAt.list_countAt a (bs.map OV).toArray n dd sl (.bool b) λy=>match y with | .bool c=>c==b | _=>false) ⟨ho,λy hy=>?_,?_⟩
 .obtain⟨c,_,rfl⟩:=OE.mp (by simpa using hy:y∈bs.map OV);exact SeqAt.EqAt.bool_bool c b
 .refine⟨.int _,H,I.tok _,⟨_,rfl⟩,?_⟩;have z:((bs.map OV).toArray.toList.countP λy=>match y with | .bool c=>c==b | _=>false)=bs.countP λc=>c==b:=by
   rw[List.toList_toArray,List.countP_map];rfl
  rw[z];exact q
def H0:PV->PV->M PV
 | .lst xs,.bl b=>eN ((wV xs).map λbs=>.int (bs.countP λc=>c==b:Nat))
 | _,_=>none
def Du(f g:ae->M PV):ae->M PV:=λenv=>(f env).bind λp=>match p with
 | .lst xs=>(g env).bind (H0 (.lst xs))
 | _=>none
section
variable{a:Expr}{f g:ae->M PV}
theorem sj(ho:PE X o (tE E f))(ha:PE X a (tE E g))
  (KQ:autoParam (attributeBase o "count" X.env (eval o X.env)=eval o X.env) aR._auto_1)
  (LG:autoParam (((backTo J_ (starEach [a] X.env)).all (λx=>!x.1)&&(backToKw J_ (keywordEach [] X.env)).all (λx=>x.1.isSome)
   && decide (([a]:List Expr).length+([]:List Keyword).length+(if ([]:List Keyword).isEmpty then 0 else 1)<30))=true) aR._auto_1)
  (KR:autoParam ((apos.endLine==J_.line)=true) aR._auto_1) (hs:autoParam (starEach [a] X.env=(false,eval a X.env)::starEach [] X.env) aR._auto_1) (Kt:autoParam ((backTo J_ (starEach [] X.env)).any (·.1)=false) aR._auto_1) :
  PE X (.Call (.Attribute o "count" apos) [a] [] J_) (tE E (Du f g)):=by
 refine(v_ PySem.F.plainAttrs_list PySem.F.slot_list_count PySem.F.type_list_count xK ho (bZ ha gk hs) KQ LG KR hs Kt).imp fun σ H Q q=>mC q λB H₀ Hs H1 env p v sr rp hp=>?_;cases rp with
 | @lst c xs vs hc hx =>
  refine⟨.inl ⟨rfl,_,gK.of (sr.gr.sub _ _ hc)⟩,B,H₀,Hs,env,sr,(au.bind hp).imp (λz hz u J7 H' g r'=>?_) λe he=>he⟩;cases r' with
  | bl b =>
   obtain⟨x,ex,hz⟩:=au.opt hz;obtain⟨bs,hn,rfl⟩:=N4.mp ex;rw[uG hn] at hx;exact⟨c,bs,b,rfl,rfl,hx.Jp▸gK.of (g.sub _ _ (g.st _ _ hc)),hz _ J7 H' g (.int _)⟩
  | _=>exact hz.elim
 | _=>exact hp.elim
end
variable{α β:Type}
variable{x0:Option SV}
variable{p:PV}
variable{j:Int}
variable{n:Nat}
section
open PySem.SeqAt (shaped noMix noMixAll)
theorem M.aA(a:α)(f:α->M β):M.bind (M.ok a) f=f a:=Of rfl rfl
theorem M.Ad(e:EX)(f:α->M β):M.bind (some (Except.error e)) f=some (.error e):=Of rfl rfl
theorem M.bind_none(f:α->M β):M.bind none f=none:=Of rfl rfl
theorem M.bind_some(a:α)(f:α->M β):M.bind (some (Except.ok a)) f=f a:=Of rfl rfl
theorem M.bind_assoc{γ:Type}(x:M α)(f:α->M β)(g:β->M γ):M.bind (M.bind x f) g=M.bind x λa=>M.bind (f a) g:=by
 cases x with
 | none=>rfl
 | some x=>cases x <;> rfl
theorem aq{c:Prop}[Decidable c]{x:M α}(h:c):bG c x=x:=if_pos h
theorem Em(a:α):Au (M.ok a)=M.ok a:=Of rfl rfl
theorem w4(x:PV):eN (some x)=M.ok x:=Of rfl rfl
theorem m_(g:ae->M Out)(env:ae):xT g (.nx env)=g env:=Of rfl rfl
theorem rf(g:ae->M Out)(p:PV):xT g (.rt p)=M.ok (.rt p):=Of rfl rfl
theorem BM(b:Bool):ui (.bl b)=M.ok b:=Of rfl rfl
theorem BP(p:PV):Fh (.rt p)=M.ok p:=Of rfl rfl
theorem BH(e:ae):Fh (.nx e)=M.ok .bH:=Of rfl rfl
def tI(xs:List Int):PV:=.tup (xs.map PV.int)
def lI(xs:List Int):PV:=.lst (xs.map PV.int)
theorem BG(xs:List Int):bR (tI xs)=some (xs.map PV.int):=Of rfl rfl
theorem Bm(xs:List Int):bR (lI xs)=some (xs.map PV.int):=Of rfl rfl
theorem zi(xs:List PV):bR (.tup xs)=some xs:=Of rfl rfl
theorem yL(xs:List PV):bR (.lst xs)=some xs:=Of rfl rfl
theorem Ah(xs:List PV):bR (.gX xs)=some xs:=Of rfl rfl
theorem qj(xs:List Int):me (tI xs)=M.ok (.int xs.length):=by simp[me,tI,bR,eN]
theorem BA(xs:List Int):me (lI xs)=M.ok (.int xs.length):=by simp[me,lI,bR,eN]
theorem xU(xs:List PV):me (.tup xs)=M.ok (.int xs.length):=Of rfl rfl
theorem y8(xs:List PV):me (.lst xs)=M.ok (.int xs.length):=Of rfl rfl
theorem za(xs:List PV):me (.gX xs)=M.ok (.int xs.length):=Of rfl rfl
theorem qX(xs:List Bool):sD [.lst (xs.map PV.bl)]=M.ok (.bl (xs.all id)):=by simp[sD,all1,se,eN]
theorem eH{f:ae->M PV}{inj h:α->PV}{rest:ae}(xs:List α)(H:∀ a∈xs,f (some (.sh (inj a))::rest)=M.ok (h a)):bu (bD 0) none f (xs.map inj) (x0::rest)=M.ok (xs.map h):=by
 induction xs generalizing x0 with
 | nil=>rfl
 | cons a r ih =>
  rw[N5,bu];show M.bind (M.ok ((x0::rest).set 0 (some (.sh (inj a))))) _=_;rw[M.aA,O3];show M.bind (f _) _=_;rw[H a NJ,M.aA,ih λb hb=>H b (NI _ hb)];rfl
theorem t8{f:ae->M PV}{p q h:α->PV}{rest:ae}{x1:Option SV}(xs:List α)(H:∀ a∈xs,f (some (.sh (p a))::some (.sh (q a))::rest)=M.ok (h a)):bu (gg 0 1) none f (xs.map λa=>.tup [p a,q a]) (x0::x1::rest)=M.ok (xs.map h):=by
 induction xs generalizing x0 x1 with
 | nil=>rfl
 | cons a r ih =>
  rw[N5,bu];show M.bind (M.ok (((x0::x1::rest).set 0 (some (.sh (p a)))).set 1 (some (.sh (q a))))) _=_;rw[M.aA,O3,Ra,O3];show M.bind (f _) _=_;rw[H a NJ,M.aA,ih λb hb=>H b (NI _ hb)];rfl
theorem j5{f:α->PV}{g:β->PV}{q:PV}(xs:List α)(ys:List β)(hp:bR p=some (xs.map f))(hq:bR q=some (ys.map g)):zip2 [p,q]=M.ok ((xs.zip ys).map λz=>.tup [f z.1,g z.2]):=by
 simp only[zip2,hp,hq];congr 2;rw[List.zipWith_map,List.zip_eq_zipWith,S3]
theorem wK{f:α->PV}(xs:List α):gD (xs.map f)=(xs.zipIdx).map λz=>.tup [.int (z.2:Int),f z.1]:=by
 unfold gD;rw[List.mapIdx_eq_zipIdx_map,List.zipIdx_map,Oo];rfl
theorem mI{set:PV->ae->M ae}{body:ae->M Out}{α:Type}{inj:α->PV}(J:List α->ae->Prop)
  (H:∀ a r env,J (a::r) env->∃ e' J5,set (inj a) env=M.ok e'/\body e'=M.ok (.nx J5)/\J r J5):∀ (xs:List α) (env:ae),J xs env->∃ J5,gF set body (xs.map inj) env=M.ok (.nx J5)/\J [] J5
 | [],env,h=>⟨env,rfl,h⟩
 | a::r,env,h=>by
  obtain⟨e',J5,h1,h2,h3⟩:=H a r env h;obtain⟨Mh,h4,h5⟩:=mI J H r J5 h3;refine⟨Mh,?_,h5⟩;rw[N5,gF,h1,M.aA,h2,M.aA];exact h4
theorem wH{u:ae->M Bool}{b:ae->M Out}(J:ae->Prop)(m:ae->Nat)
  (H:∀ env,J env->(u env=M.ok false)\/(u env=M.ok true/\∃ J5,b env=M.ok (.nx J5)/\J J5/\m J5<m env)) (env:ae) (h:J env):∃ J5,nG u b env=M.ok (.nx J5)/\J J5/\u J5=M.ok false:=by
 have key:∀ (n:Nat) (env:ae),J env->m env<n->∃ J5,cp u b n env=M.ok (.nx J5)/\J J5/\u J5=M.ok false:=by
  intro n
  induction n with
  | zero=>intro env _ hn;lia
  | succ n ih =>
   intro env h hn;rcases H env h with hu | ⟨hu,J5,hb,hj,hm⟩
   .exact⟨env,by rw[cp,hu,M.aA];rfl,h,hu⟩
   .obtain⟨Mh,h1,h2,h3⟩:=ih J5 hj (by lia);exact⟨Mh,by rw[cp,hu,M.aA,if_pos rfl,hb,M.aA];exact h1,h2,h3⟩
 obtain⟨J5,h1,h2,h3⟩:=key (m env+1) env h (Ox _);refine⟨J5,?_,h2,h3⟩;rw[xk (n:=m env+1) (by rw[h1];exact λz=>nomatch z),h1]
theorem log2_small{i:Int}(h:i.natAbs<2^k)(hk:k<=9000):i.natAbs.log2<67108864:=by
 by_cases z:i.natAbs=0
 .rw[z];decide
 .have:=(R3 z).mpr h;lia
theorem bO{i:Int}{l:Nat}(hi:i.natAbs<2^k)(hj:j.natAbs<2^l)(hk:autoParam (k<=9000) aD._auto_1)(hl:autoParam (l<=9000) aD._auto_1):gf (.int i) (.int j)=M.ok (.int (i*j)):=by
 rw[gf,aq ⟨log2_small hi hk,log2_small hj hl⟩]
theorem pI{i:Int}(h0:j≠0)(h:j.natAbs<2^9000):dM (.int i) (.int j)=M.ok (.int (i.fdiv j)):=by
 show bG _ _=_;refine aq (decide_eq_true ⟨h0,(R3 (by lia)).mpr h⟩)
theorem zQ{i:Int}(h0:j≠0):cC (.int i) (.int j)=M.ok (.int (i.fmod j)):=by
 show bG _ _=_;exact aq (decide_eq_true h0)
theorem cG{i:Int}(h0:0<j)(h:j<2^64):dM (.int i) (.int j)=M.ok (.int (i/j)):=by
 rw[pI (by lia) (NP (show j.natAbs<2^64 by lia) (QK (by decide) (by decide))),P7 _ (by lia)]
theorem aB{i:Int}(h0:0<j):cC (.int i) (.int j)=M.ok (.int (i%j)):=by
 rw[zQ (by lia),Int.fmod_eq_emod_of_nonneg _ (by lia)]
theorem aT{j:Nat}{x:PV}(hs:bR p=some xs)(h:xs[j]?=some x):aC p (.int (j:Int))=M.ok x:=by
 cases p with
 | tup ys=>cases hs;simp only[aC,qh h,eN]
 | lst ys=>cases hs;simp only[aC,qh h,eN]
 | gX ys=>cases hs;simp only[aC,qh h,eN]
 | _=>cases hs
section
variable{b:String->Bool}{ob oe:Addr->Option Bool}
theorem Fe(xs:List Int):yH b ob oe (tI xs)=M.ok (.bl (b "tuple")):=Of rfl rfl
theorem Ee(xs:List Int):yH b ob oe (lI xs)=M.ok (.bl (b "list")):=Of rfl rfl
theorem BK(xs:List PV):yH b ob oe (.tup xs)=M.ok (.bl (b "tuple")):=Of rfl rfl
theorem Ax(xs:List PV):yH b ob oe (.lst xs)=M.ok (.bl (b "list")):=Of rfl rfl
theorem Bz(i:Int):yH b ob oe (.int i)=M.ok (.bl (b "int")):=Of rfl rfl
theorem Ep(i:Bool):yH b ob oe (.bl i)=M.ok (.bl (b "bool")):=Of rfl rfl
theorem AN:yH b ob oe .bH=M.ok (.bl (b "NoneType")):=Of rfl rfl
theorem Bu(x:Str):yH b ob oe (.str x)=M.ok (.bl (b "str")):=Of rfl rfl
theorem Bw:yH b ob oe .emp=M.ok (.bl (b "dict")):=Of rfl rfl
end
theorem BI(i j:Int):oR (.int i) (.int j)=M.ok (.bl (!decide (i=j))):=by
 simp only[oR,kD,dat,wW,shaped,OA,OM,noMix];rw[aq ⟨rfl,rfl,trivial⟩];unfold same;rw[M.aA];congr
theorem AB(i j:Int):gu (.int i) (.int j)=M.ok (.bl (decide (i=j))):=by
 simp only[gu,kD,dat,wW,shaped,OA,OM,noMix];rw[aq ⟨rfl,rfl,trivial⟩];unfold same;rw[M.aA];congr
theorem CT(i j:Bool):oR (.bl i) (.bl j)=M.ok (.bl (!decide (i=j))):=by
 simp only[oR,kD,dat,wW,shaped,OA,OM,noMix];rw[aq ⟨rfl,rfl,trivial⟩];unfold same;rw[M.aA];congr
theorem EY(i j:Bool):gu (.bl i) (.bl j)=M.ok (.bl (decide (i=j))):=by
 simp only[gu,kD,dat,wW,shaped,OA,OM,noMix];rw[aq ⟨rfl,rfl,trivial⟩];unfold same;rw[M.aA];congr
theorem pL(xs:List Int):gp (xs.map PV.int)=some (xs.map QG):=by
 induction xs with
 | nil=>rfl
 | cons a r ih=>simp[gp,dat,ih]
theorem lT(xs:List Int):QA (xs.map QG)=true:=by
 induction xs with
 | nil=>rfl
 | cons a r ih=>simp[QA,OA,ih]
theorem mR(xs:List Int):QS (xs.map QG)=0:=by
 induction xs with
 | nil=>rfl
 | cons a r ih=>simp[QS,OM,ih]
theorem noMix_ints:∀ (xs ys:List Int),noMixAll (xs.map QG) (ys.map QG)=true
 | [],[]=>by simp[noMixAll]
 | [],_::_=>by simp[noMixAll]
 | _::_,[]=>by simp[noMixAll]
 | a::r,b::s=>by simp[noMixAll,noMix,noMix_ints r s]
theorem same_ints:∀ (xs ys:List Int),sameAll (xs.map QG) (ys.map QG)=decide (xs=ys)
 | [],[]=>by simp[sameAll]
 | [],_::_=>by simp[sameAll]
 | _::_,[]=>by simp[sameAll]
 | a::r,b::s=>by
  simp only[N5,sameAll,same_ints r s];unfold same;rw[Ql];simp
theorem Bh(i j:Int):Fx (.int i) (.int j)=M.ok (.bl (decide (i<j))):=Of rfl rfl
theorem A3(i j:Int):xE (.int i) (.int j)=M.ok (.bl (decide (i<=j))):=Of rfl rfl
theorem Bp(i j:Int):wD (.int i) (.int j)=M.ok (.bl (decide (j<i))):=Of rfl rfl
theorem AR(i j:Int):Fs (.int i) (.int j)=M.ok (.bl (decide (j<=i))):=Of rfl rfl
theorem xY(i j:Int):bK (.int i) (.int j)=M.ok (.int (i+j)):=Of rfl rfl
theorem zt(i j:Int):nO (.int i) (.int j)=M.ok (.int (i-j)):=Of rfl rfl
theorem cT{n:Int}(h:0<=n)(h2:n<2^62):lG [.int n]=M.ok ((N2 n.toNat).map λ(i:Nat)=>.int (i:Int)):=by
 show bG (-(2^62)<=n/\n<2^62) _=_;rw[aq (by lia)];simp
theorem dz{set:PV->ae->M ae}{body:ae->M Out}{inj:α->PV}{k:Out->M β}{r:M β}(xs:List α)(J:List α->ae->Prop){env:ae}(h:J xs env)
  (H:∀ a r env,J (a::r) env->∃ e' J5,set (inj a) env=M.ok e'/\body e'=M.ok (.nx J5)/\J r J5) (hk:∀ J5,J [] J5->k (.nx J5)=r):M.bind (gF set body (xs.map inj) env) k=r:=by
 obtain⟨J5,e,h'⟩:=mI J H xs env h;rw[e,M.aA];exact hk J5 h'
theorem bp(h:n<=1000):n<=sizeLine:=Qs (w_ h)
def tupK(ps:List PV):M PV:=bG (ps.length<=sizeLine) (M.ok (.tup ps))
def lstK(ps:List PV):M PV:=bG (ps.length<=sizeLine) (M.ok (.lst ps))
theorem AF(fs:ae->M (List PV))(env:ae):dH fs env=(fs env).bind tupK:=rfl
theorem BL(fs:ae->M (List PV))(env:ae):g_ fs env=(fs env).bind lstK:=rfl
theorem DS:tupK []=M.ok (.tup []):=aq (bp (show 0<=1000 by decide))
theorem CS:lstK []=M.ok (.lst []):=aq (bp (show 0<=1000 by decide))
theorem En(a:PV):tupK [a]=M.ok (.tup [a]):=aq (bp (show 1<=1000 by decide))
theorem Ez(a:PV):lstK [a]=M.ok (.lst [a]):=aq (bp (show 1<=1000 by decide))
theorem EJ(a b:PV):tupK [a,b]=M.ok (.tup [a,b]):=aq (bp (show 2<=1000 by decide))
theorem DF(a b:PV):lstK [a,b]=M.ok (.lst [a,b]):=aq (bp (show 2<=1000 by decide))
theorem C9(a b c:PV):tupK [a,b,c]=M.ok (.tup [a,b,c]):=aq (bp (show 3<=1000 by decide))
theorem EH(a b c:PV):lstK [a,b,c]=M.ok (.lst [a,b,c]):=aq (bp (show 3<=1000 by decide))
theorem Ey(a b c d:PV):tupK [a,b,c,d]=M.ok (.tup [a,b,c,d]):=aq (bp (show 4<=1000 by decide))
theorem EN(a b c d:PV):lstK [a,b,c,d]=M.ok (.lst [a,b,c,d]):=aq (bp (show 4<=1000 by decide))
theorem Fc(a b c d e:PV):tupK [a,b,c,d,e]=M.ok (.tup [a,b,c,d,e]):=aq (bp (show 5<=1000 by decide))
theorem Dy(a b c d e:PV):lstK [a,b,c,d,e]=M.ok (.lst [a,b,c,d,e]):=aq (bp (show 5<=1000 by decide))
theorem E6(a b c d e f:PV):tupK [a,b,c,d,e,f]=M.ok (.tup [a,b,c,d,e,f]):=aq (bp (show 6<=1000 by decide))
theorem C_(a b c d e f:PV):lstK [a,b,c,d,e,f]=M.ok (.lst [a,b,c,d,e,f]):=aq (bp (show 6<=1000 by decide))
end
section
variable{γ:Type}{Q Q':α->Prop}{m:M α}
end
def FE(i:Nat)(env:ae)(xs:List PV)(p:PV):M Out:=if xs.length<sizeLine then M.ok (.nx (env.set i (some (.ow (xs++[p]))))) else none
theorem j4(i:Nat)(f:ae->M PV)(env:ae):n9 i f env=(ownAt i env).bind λxs=>(f env).bind λp=>FE i env xs p:=by
 unfold n9 ownAt;rcases env[i]? with _ | _ | (_ | _ | _) <;> rfl
theorem uz(xs ys:List Int):gu (lI xs) (lI ys)=M.ok (.bl (decide (xs=ys))):=by
 simp only[gu,kD,dat,lI,pL,QT,wW];rw[aq (by simp[OY,OA,OM,lT,mR,R6,noMix_ints])];unfold same;rw[same_ints];rfl
theorem qp{f:α->PV}(xs:List α)(h:bR p=some (xs.map f)):Fo [p]=M.ok (xs.zipIdx.map λz=>.tup [.int (z.2:Int),f z.1]):=by
 show Ja p=_;unfold Ja;rw[h];show M.ok (gD _)=_;rw[wK]
theorem vU{f:α->PV}(xs:List α):Fo [.lst (xs.map f)]=M.ok (xs.zipIdx.map λz=>.tup [.int (z.2:Int),f z.1]):=qp xs rfl
theorem JM{us:List α}(h:us.length=1):∃ a,us=[a]:=by
 cases us with
 | nil=>cases h
 | cons a t=>cases t with
  | nil=>exact⟨a,rfl⟩
  | cons b t=>cases h
theorem ln2{us:List α}(h:us.length=2):∃ a b,us=[a,b]:=by
 cases us with
 | nil=>cases h
 | cons a t=>obtain⟨b,rfl⟩:=JM (RJ h);exact⟨a,b,rfl⟩
theorem J0{us:List α}(h:us.length=3):∃ a b c,us=[a,b,c]:=by
 cases us with
 | nil=>cases h
 | cons a t=>obtain⟨b,c,rfl⟩:=ln2 (RJ h);exact⟨a,b,c,rfl⟩
theorem JL{us:List α}(h:us.length=4):∃ a b c d,us=[a,b,c,d]:=by
 cases us with
 | nil=>cases h
 | cons a t=>obtain⟨b,c,d,rfl⟩:=J0 (RJ h);exact⟨a,b,c,d,rfl⟩
def vX(K:PySem.W.Frag):Bool:=K.all λp=>match p.2.cls with
 | .type t=>t != "list"
 | _=>true
theorem yP{K:PySem.W.Frag}(h:vX K=true){a:Addr}{o:Obj}(e:K.lookup a=some o):o.cls≠.type "list" := by
 induction K with
 | nil=>cases e
 | cons p r ih =>
  obtain⟨b,u⟩:=p;rw[vX,PF,Oz] at h;rw[Oq] at e;cases q:a==b with
  | true =>
   rw[q] at e;cases e;intro z;have h1:=h.1;simp only[z] at h1;exact absurd h1 (by decide)
  | false=>rw[q] at e;exact ih h.2 e
theorem pD{H:Hp}:∀ ns:List Int,aE H (ns.map PV.int) (ns.map V.int)
 | []=>.nil
 | i::r=>.cons (.int i) (pD r)
theorem uA{l:PySem.W.OpenLaw}{q:Program}{loose:List Str}{XP:(Str->Option Value)->Heap->Prop}{YP:World->Heap->Prop}{d:DefRec}{K:Params->PySem.W.Frag}{sem:List PV->M PV}
  (hn:l.most=some n) (MC:n<=sizeLine) (hdf:d.params.defaults=[]) (hr:bU k callerA)
  (hY:∀ (w:World) (h:Heap),YP w h->(K w.params).In h)
  (hK:∀ w:World,vX (K w.params)=true)
  (F:∀ (w:World) (mg:Str->Option Value) (fa:Addr) (h:Heap),(K w.params).In h->h.Ns mainGlobals mg->mg d.name=some (.ref fa) ->
   ∃ fd:FuncData,(∀ (s:Shared) (u:Value),BindsTo s fd ⟨[u],[]⟩ [(x,u)]) ∧
    ∀ base:Heap,(K w.params).In base->base.Ns mainGlobals mg->aP l.prog w (K w.params) mg base (cu l.prog w) k fa fd [x] (fE 1 sem))
  (MN:∀ ns:List Int,ns.length<=n->(∀ i∈ns,QX i<=1048576)->sem [.gX (ns.map PV.int)]=M.ok (.bl true)) :
  PySem.W.WalkO q loose XP YP l.row.toRowW d [] (λf vs=>PySem.call f vs):=by
 intro w s₀ s₁ mg mb G Y fa o pm cd doc dV kV ho hd K5 hD hmg hg args vals as wR hlay hrd hwl hlo;obtain rfl:dV=.none:=PySem.W.Dflts.none hD hdf;obtain rfl:kV=.none:=PySem.W.Dflts.noKw hD;obtain⟨a,vs,ns,rfl,rfl,hobj,hints,hlen⟩:=Att.wA hn wR hwl;have Nb:∀ i∈ns,QX i<=1048576:=λi hi=>by
  have h1:=PySem.W.layableW_arg hlay _ (N9.mpr rfl);have h2:=PySem.W.layableW_item h1 (.int i) (OE.mpr ⟨i,hi,rfl⟩);exact intBits_le_of_layable h2
 have KX:=hY w _ Y;obtain⟨fd,hb,hF⟩:=F w mg fa _ KX G.T.g hmg;have hs:=MN ns hlen Nb;refine PySem.W.enter_call (Qx (zq KX G.T.g G.T.b G.T.builtins G.T.nolimit hg hobj hints (N3 hlen MC) hr hF hb (λH hO hS=>⟨rfl,H,[.gX (ns.map PV.int)],λ_ _ e=>e,?_,?_⟩) λH e s' z=>?_) λr s' hq=>?_)
 .rcases hS with (hS | ⟨ob,hS⟩) | ⟨ob,J6,m,e1,e2,_⟩
  .rcases hO a with z | ⟨ob,xs,z⟩
   .rw[z] at hS;cases hS
   .rw[z] at hS;cases hS
  .exact .cons (.gX hS (pD ns)) .nil
  .exact absurd e2 (yP (hK w) e1)
 .rw[hs];intro v J7 H' g r;cases r;rfl
 .obtain⟨ea,T,C,dd,Hc,_,_,_,_,_,_,_,_,z⟩:=z;exact z
 .obtain⟨rfl,h2,h3,h4⟩:=hq;exact⟨.inl ⟨.bool true,.bool true,[],rfl,λ_=>rfl,.bool true,Att.xj l _,λ_=>⟨List.Pairwise.nil,λ_ hm=>(nomatch hm)⟩⟩,h2,h3,h4⟩
abbrev wF(x q:Str)(t:Stmt)(s:Value)(c:Addr):FuncData:=PySem.W.fnOf x q (gA t) (dP t) (aQ t) .none .none .none s none (.ref c) .none
variable{t:Stmt}
theorem bB.of{K:PySem.W.Frag}{q:Str}{dv kV doc pm:Value}{an:Option Addr}{Kj ct:Value}(h1:K.lookup f=some ⟨.type "function", none,.func (PySem.W.fnOf x q (gA t) (dP t) (aQ t) dv kV doc pm an Kj ct),⟨[]⟩⟩)(h2:PySem.W.codeIn K Kj q=true)(h3:PySem.W.keepIn K (.ref f)=true):bB K x q t dv f (PySem.W.fnOf x q (gA t) (dP t) (aQ t) dv kV doc pm an Kj ct):=⟨⟨_,_,_,_,_,_,_,_,_,rfl,h1,h2⟩,h3⟩
section
variable{P:List α->Prop}
theorem Hb(h:∀ a b,P [a,b]):∀ us,us.length=2->P us:=λus hl=>by obtain⟨a,b,rfl⟩:=ln2 hl;exact h a b
end
theorem cB.of{N P:List Str}{sc:Scope}(h1:autoParam (sc.kind=.function) aR._auto_1)(h2:autoParam (sc.isCoroutine=false) aR._auto_1)(h3:autoParam (sc.isGenerator=false) aR._auto_1)(h4:autoParam (N.Nodup) aN._auto_1)(h5:autoParam (N.take P.length=P) aR._auto_1)(h6:autoParam (∀ x∈P,sc.names.lookup x=some .local\/sc.names.lookup x=some .cell) aN._auto_1)(h7:autoParam (∀ y∈sc.names,y.2≠.free) aN._auto_1):cB N P sc:=⟨h1,h2,h3,h4,h5,h6,h7⟩
theorem a_(hN:X.N.Nodup)(hi:autoParam (X.N[i]?=some x) aR._auto_1)(hx:autoParam (Loc X.env.scope x) aG._auto_1)(hf:autoParam (X.fn x=true\/X.env.scope.names.lookup x=some .local) aG._auto_1):PG X (.Name x pos) (aM i):=AO hN hi hx hf
def BW:Nat->(List Value->Prop)->Prop
 | 0,P=>P []
 | n+1,P=>∀ a,BW n λl=>P (a::l)
theorem ql:∀ {n:Nat} {P:List Value->Prop},BW n P->∀ us:List Value,us.length=n->P us
 | 0,_,h,[],_=>h
 | n+1,_,h,a::r,e=>ql (h a) r (RJ e)
section
variable{K:PySem.W.Frag}{h:Heap}{q:Str}{m:Nat}{sem:List PV->M PV}{tO:List PV->M (List PV)}
theorem ji(P:Program)(w:World)(base:Heap)(X:K.In h)(G:h.Ns mainGlobals mg)(a c:Addr)(s:Value)(ok:bB K x q t .none a (wF x q t s c)->aP P w K mg base (cu P w) n a (wF x q t s c) ps (fE m (bq m sem)))
  (h1:autoParam (K.lookup a=some ⟨.type "function", none,.func (wF x q t s c),⟨[]⟩⟩) aK._auto_1) (h2:autoParam (PySem.W.codeIn K (.ref c) q=true) aK._auto_1) (h3:autoParam (PySem.W.keepIn K (.ref a)=true) aK._auto_1) (h4:autoParam (PySem.W.nsIn K mainGlobals x=some (some (.ref a))) aK._auto_1)
  (h5:autoParam (ps.length=m) aR._auto_1) (h6:BW ps.length λus=>bindArgs (wF x q t s c) ⟨us,[]⟩=pure (ps.zip us):=by (repeat intro _);rfl):e8 P w K mg base n x m sem :=
 ⟨⟨a,_,ps,PySem.W.mg_of X G h4,h3,h5,.all (ql h6),ok (.of h1 h2 h3)⟩⟩
theorem Ic(P:Program)(w:World)(base:Heap)(cc:oU K C)(a c:Addr)(s:Value)(ok:bB K x q t .none a (wF x q t s c)->aP P w K mg base (cu P w) n a (wF x q t s c) ps (fE m (bq m sem)))
  (h1:autoParam (K.lookup a=some ⟨.type "function", none,.func (wF x q t s c),⟨[]⟩⟩) aK._auto_1) (h2:autoParam (PySem.W.codeIn K (.ref c) q=true) aK._auto_1) (h3:autoParam (PySem.W.keepIn K (.ref a)=true) aK._auto_1) (h4:autoParam (PySem.W.findIn K (.ref C) x=some (some (.ref a))) aK._auto_1) (h5:autoParam (PySem.W.isFn K (.ref a)=true) aK._auto_1)
  (h6:BW ps.length λus=>bindArgs (wF x q t s c) ⟨us,[]⟩=pure (ps.zip us):=by (repeat intro _);rfl):ym P w K mg base C n x m sem :=
 ⟨⟨a,_,ps,cc,⟨h4,h5,h3⟩,.all (ql h6),ok (.of h1 h2 h3)⟩⟩
end
theorem bB.iA{K:PySem.W.Frag}{qual:Str}{st:Stmt}{dv:Value}{g:ae->M Out}(F:bB K x qual st dv f fd)(N:List Str)
  (hb:N.Nodup->∀ (Kj:Value) (A:Around) (outer:List Env) (s:Shared) (H:Hp) (E:XK),bU k (A.deeper (envOfC qual (aQ st) s.heap.objs.size f Kj))->eA ((ko (cu P w) P w K mg base N qual (aQ st) f Kj A outer s H E).out λ_=>E) (λ_=>E)->jy ((ko (cu P w) P w K mg base N qual (aQ st) f Kj A outer s H E).out λ_=>E) (dP st) (tS E g))
  (S:cB N ps (aQ st):=by exact .of):aP P w K mg base (cu P w) (k+1) f fd ps (fE ps.length (bq ps.length (az N.length g))):=F.JS S (hb S.nd)
end L2
namespace tF
open PySem L2 PyProof.Rows
def br:Addr:=65
def aZ:Addr:=91
def aW:Addr:=117
def aL:Addr:=155
def bj:Addr:=136
def aw:Addr:=227
def j7:Addr:=38
def gT:List Addr:=[br,aZ,aW,aL,bj]
def gN:List Addr:=[]
def jd:List Addr:=[br]
def ja:List Addr:=[aZ,aW,aL,bj]
def jf:List Addr:=[]
def i7:List Addr:=[]
def ia:List Addr:=[aZ]
def h_:List Addr:=[br,aW,aL,bj]
def ij:List Addr:=[]
def ir:List Addr:=[]
def iy:List Addr:=[aW]
def hZ:List Addr:=[br,aZ,aL,bj]
def hV:List Addr:=[]
def ig:List Addr:=[]
def lx:List Addr:=[aL]
def lg:List Addr:=[br,aZ,aW,bj]
def k_:List Addr:=[]
def kS:List Addr:=[]
def jD:List Addr:=[bj]
def jL:List Addr:=[br,aZ,aW,aL]
def jG:List Addr:=[]
def jO:List Addr:=[]
def vt:List Addr:=[br]
def nW:List Addr:=[aZ,aW]
abbrev cI(i:Int):ae->M PV:=λ_=>M.ok (.int i)
def iq:ae->M Out :=
 (ak (retS (p_ (lu (λa=>hU a "int") jq jq (af 0)) (AD (lu (λa=>hU a "bool") jq jq (af 0)))))
 aj)
def eF:List PV->M PV:=bq 1 (az 1 iq)
def ka:ae->M Out :=
 (ak (dG (va (iG (bJ (lu (λa=>["list", "tuple"].any λt=>hU a t) jq jq (af 0)))) (bJ (ai oR (ah cP (aa (af 0) ao)) (af 1)))) (ak (retS (λ_=>M.ok (.bl false)))
 aj) aj)
 (ak (retS (ah sD (aa (ck (cF (itemsOf (af 0)) (bD 0) none (ah eF (aa (af 0) ao)) 1 [])) ao)))
 aj))
def gj:List PV->M PV:=bq 2 (az 2 ka)
def kd:ae->M Out :=
 (ak (bc 2 (dH (aa (af 0) (aa (cI 1) (aa (cI 0) ao)))))
 (ak (bc 3 (dH (aa (af 1) (aa (cI 0) (aa (cI 1) ao)))))
 (ak (nG (bJ (ai oR (ai aC (af 3) (cI 0)) (cI 0))) (ak (bc 4 (ai dM (ai aC (af 2) (cI 0)) (ai aC (af 3) (cI 0))))
 (ak (bc 5 (dH (aa (ai nO (ai aC (af 2) (cI 0)) (ai gf (af 4) (ai aC (af 3) (cI 0)))) (aa (ai nO (ai aC (af 2) (cI 1)) (ai gf (af 4) (ai aC (af 3) (cI 1)))) (aa (ai nO (ai aC (af 2) (cI 2)) (ai gf (af 4) (ai aC (af 3) (cI 2)))) ao)))))
 (ak (bc 2 (af 3))
 (ak (bc 3 (af 5))
 aj)))))
 (ak (dG (bJ (ai Fx (ai aC (af 2) (cI 0)) (cI 0))) (ak (retS (dH (aa (ub (ai aC (af 2) (cI 0))) (aa (ub (ai aC (af 2) (cI 1))) (aa (ub (ai aC (af 2) (cI 2))) ao)))))
 aj) aj)
 (ak (retS (af 2))
 aj)))))
def km:List PV->M PV:=bq 2 (az 6 kd)
def eV:ae->M Out :=
 (ak (bc 1 (cI 1))
 (ak (jE (itemsOf (af 0)) (bD 2) (ak (bc 1 (ai gf (ai dM (af 1) (ai aC (ah km (aa (af 1) (aa (af 2) ao))) (cI 0))) (af 2)))
 aj))
 (ak (retS (af 1))
 aj)))
def eX:List PV->M PV:=bq 1 (az 3 eV)
def fq:ae->M Out :=
 (ak (retS (p_ (ah eF (aa (af 0) ao)) (iZ xE xE (af 1) (af 0) (af 2))))
 aj)
def ff:List PV->M PV:=bq 3 (az 3 fq)
def cA:ae->M Out :=
 (ak (dG (bJ (ai wD (ah cP (aa (af 0) ao)) (cI 6))) (ak (eR bj (aa (λ_=>M.ok (.str "a vault has at most six dials")) ao))
 aj) aj)
 (ak (dG (bJ (ai gu (ah cP (aa (af 0) ao)) (cI 0))) (ak (fI br "dial" (aa (cI 0) ao))
 aj) aj)
 (ak (jE (oH Fo (aa (af 0) ao)) (gg 1 2) (ak (dG (iG (bJ (ah ff (aa (af 2) (aa (cI 2) (aa (cI 360) ao)))))) (ak (fI br "dial" (aa (af 1) ao))
 aj) aj)
 aj))
 aj)))
def bf:List PV->M PV:=bq 1 (az 3 cA)
def cJ:ae->M Out :=
 (ak (dG (bJ (ai wD (ah cP (aa (af 0) ao)) (cI 8))) (ak (eR bj (aa (λ_=>M.ok (.str "a vault has at most eight levers")) ao))
 aj) aj)
 (ak (jE (oH Fo (aa (af 0) ao)) (gg 2 3) (ak (dG (iG (bJ (ah gj (aa (af 3) (aa (af 1) ao))))) (ak (fI aZ "lever" (aa (af 2) ao))
 aj) aj)
 aj))
 aj))
def bz:List PV->M PV:=bq 2 (az 4 cJ)
def dI:ae->M Out :=
 (ak (dG (bJ (ai gy (af 1) (λ_=>M.ok .bH))) (ak (retS (ai gf (dH (aa (cI 1) ao)) (ah cP (aa (af 0) ao))))
 aj) aj)
 (ak (jE (oH lG (aa (ah (mH λi j=>if j>i then j else i) (aa (ah cP (aa (af 0) ao)) (aa (ah cP (aa (af 1) ao)) ao))) ao)) (bD 2) (ak (dG (va (bJ (ai Fs (af 2) (ah cP (aa (af 0) ao)))) (bJ (ai Fs (af 2) (ah cP (aa (af 1) ao))))) (ak (fI aW "lever" (aa (af 2) ao))
 aj) aj)
 (ak (dG (iG (bJ (ah ff (aa (ai aC (af 1) (af 2)) (aa (cI 1) (aa (cI 1000) ao)))))) (ak (fI aW "lever" (aa (af 2) ao))
 aj) aj)
 aj)))
 (ak (retS (ah eM (aa (af 1) ao)))
 aj)))
def cy:List PV->M PV:=bq 2 (az 3 dI)
def mq:ae->M Out :=
 (ak (retS (ah eM (aa (ck (cF (oH zip2 (aa (af 0) (aa (af 1) ao))) (gg 0 1) none (ai cC (af 0) (af 1)) 2 [])) ao)))
 aj)
def jg:List PV->M PV:=bq 2 (az 2 mq)
def c5:ae->M Out :=
 (ak (retS (i6 fk (λ_=>M.ok (.str " ")) (ck (cF (itemsOf (af 0)) (bD 0) none (ah ju (aa (af 0) ao)) 1 []))))
 aj)
def bN:List PV->M PV:=bq 1 (az 1 c5)
def fM:ae->M Out :=
 (ak (dG (va (iG (bJ (iZ xE xE (cI 1) (ah cP (aa (af 0) ao)) (cI 30)))) (iG (bJ (ah sD (aa (ck (cF (signsOf (af 0)) (bD 0) none (ai A7 (af 0) (λ_=>M.ok (.str "0123456789"))) 1 [])) ao))))) (ak (retS (λ_=>M.ok (.bl false)))
 aj) aj)
 (ak (retS (IF (ai oR (ai aC (af 0) (cI 0)) (λ_=>M.ok (.str "0"))) (ai gu (af 0) (λ_=>M.ok (.str "0")))))
 aj))
def fO:List PV->M PV:=bq 1 (az 1 fM)
def e_:ae->M Out :=
 (ak (bc 1 (xG (bJ (i6 mr (af 0) (λ_=>M.ok (.str "-")))) (cM (af 0) (bo (cI 1)) et) (af 0)))
 (ak (dG (va (iG (bJ (ah fO (aa (af 1) ao)))) (bJ (ai gu (af 0) (λ_=>M.ok (.str "-0"))))) (ak (eR aL (aa (λ_=>M.ok (.str "this is no whole number of at most thirty figures")) ao))
 aj) aj)
 (ak (retS (ah v8 (aa (af 0) ao)))
 aj)))
def dk:List PV->M PV:=bq 1 (az 2 e_)
def dF:ae->M Out :=
 (ak (dG (iG (bJ (lu (λa=>hU a "str") jq jq (af 0)))) (ak (eR aL (aa (λ_=>M.ok (.str "this is no text")) ao))
 aj) aj)
 aj)
def cv:List PV->M PV:=bq 1 (az 1 dF)
def f6:ae->M Out :=
 (ak (dG (bJ (ai gu (af 1) (cI 1))) (ak (retS (ah bN (aa (af 0) ao)))
 aj) aj)
 (ak (retS (ai bK (ai bK (ah bN (aa (af 0) ao)) (λ_=>M.ok (.str " : "))) (ah bN (aa (g_ (aa (af 1) ao)) ao))))
 aj))
def dN:List PV->M PV:=bq 2 (az 2 f6)
def fw:ae->M Out :=
 (ak (dG (bJ (ai Fx (af 1) (ah cP (aa (af 0) ao)))) (ak (retS (ai aC (af 0) (af 1)))
 aj) aj)
 (ak (bc 2 (ai bK (ai gf (cI 7919) (af 1)) (cI 5)))
 (ak (dG (bJ (ai wD (ah cP (aa (af 0) ao)) (cI 0))) (ak (bc 2 (ai cC (ai bK (ai aC (af 0) (ai cC (ai gf (cI 7) (af 1)) (ah cP (aa (af 0) ao)))) (ai gf (cI 7919) (af 1))) (cI 2147483647)))
 aj) aj)
 (ak (retS (ai cC (ai gf (af 2) (af 2)) (cI 2147483629)))
 aj))))
def aV:List PV->M PV:=bq 2 (az 3 fw)
def eU:ae->M Out :=
 (ak (bc 2 (ai cC (ai bK (ai bK (af 0) (ai gf (cI 7919) (af 1))) (cI 11)) (cI 2147483647)))
 (ak (bc 2 (ai cC (ai bK (ai gf (af 2) (af 2)) (ai gf (cI 48271) (af 1))) (cI 2147483629)))
 (ak (retS (ai cC (ai bK (ai bK (ai gf (af 2) (af 2)) (ai gf (cI 7) (af 2))) (af 1)) (cI 2147483587)))
 aj)))
def aO:List PV->M PV:=bq 2 (az 3 eU)
def cw(rS:List PV->M PV):ae->M Out :=
 (ak (dG (bJ (lu (λa=>["list", "tuple"].any λt=>hU a t) jq jq (af 1))) (ak (dG (va (bJ (ai oR (lu (λa=>hU a "list") jq jq (af 1)) (lu (λa=>hU a "list") jq jq (af 0)))) (iG (bJ (lu (λa=>["list", "tuple"].any λt=>hU a t) jq jq (af 0))))) (ak (retS (λ_=>M.ok (.bl false)))
 aj) aj)
 (ak (dG (bJ (ai oR (ah cP (aa (af 0) ao)) (ah cP (aa (af 1) ao)))) (ak (retS (λ_=>M.ok (.bl false)))
 aj) aj)
 (ak (jE (oH zip2 (aa (af 0) (aa (af 1) ao))) (gg 2 3) (ak (dG (iG (bJ (ah (bq 2 rS) (aa (af 2) (aa (af 3) ao))))) (ak (retS (λ_=>M.ok (.bl false)))
 aj) aj)
 aj))
 (ak (retS (λ_=>M.ok (.bl true)))
 aj)))) aj)
 (ak (dG (bJ (ai gy (af 1) (λ_=>M.ok .bH))) (ak (retS (ai gy (af 0) (λ_=>M.ok .bH)))
 aj) aj)
 (ak (dG (bJ (lu (λa=>hU a "str") jq jq (af 1))) (ak (retS (p_ (lu (λa=>hU a "str") jq jq (af 0)) (ai gu (af 0) (af 1))))
 aj) aj)
 (ak (retS (p_ (lu (λa=>hU a "int") jq jq (af 0)) (p_ (AD (lu (λa=>hU a "bool") jq jq (af 0))) (ai gu (af 0) (af 1)))))
 aj))))
def aH:Nat->List PV->M PV
 | 0=>λ_=>none
 | n+1=>az 4 (cw (aH n))
def bX:List PV->M PV:=bq 2 (aH 4)
def eW:ae->M Out :=
 (ak (bc 2 (ah aO (aa (af 0) (aa (af 1) ao))))
 (ak (dG (bJ (ai gu (ai cC (af 2) (cI 3)) (cI 0))) (ak (retS (ai nO (ai cC (ai dM (af 2) (cI 3)) (cI 9)) (cI 4)))
 aj) aj)
 (ak (dG (bJ (ai gu (ai cC (af 2) (cI 3)) (cI 1))) (ak (retS (ai cC (ai dM (af 2) (cI 3)) (cI 720)))
 aj) aj)
 (ak (bc 3 (ai bK (ai gf (ai cC (ah aO (aa (af 0) (aa (ai bK (af 1) (cI 61)) ao))) (ai xu (cI 10) (cI 9))) (ai xu (cI 10) (cI 20))) (af 2)))
 (ak (retS (ai aC (g_ (aa (af 3) (aa (ai nO (cI 0) (af 3)) ao))) (ai cC (ai dM (af 2) (cI 3)) (cI 2))))
 aj)))))
def cH:List PV->M PV:=bq 2 (az 4 eW)
def fL:ae->M Out :=
 (ak (oj 1 (i5 ao))
 (ak (jE (oH lG (aa (ai bK (cI 1) (ai cC (af 0) (cI 6))) ao)) (bD 2) (ak (bc 3 (ah aO (aa (af 0) (aa (af 2) ao))))
 (ak (n9 1 (ai bK (cI 2) (ai cC (ai dM (af 3) (cI 4)) (ai aC (λ_=>M.ok (.lst (([359,11,5,359]:List Int).map PV.int))) (ai cC (af 3) (cI 4))))))
 aj)))
 (ak (qd [1] (retS (af 1)))
 aj)))
def fU:List PV->M PV:=bq 1 (az 4 fL)
def fc:ae->M Out :=
 (ak (oj 4 (i5 ao))
 (ak (jE (oH lG (aa (af 2) ao)) (bD 5) (ak (n9 4 (ck (cF (oH lG (aa (af 3) ao)) (bD 0) none (ah cH (aa (ah aV (aa (af 1) (aa (ai bK (af 2) (af 3)) ao))) (aa (af 0) ao))) 1 [0,1,5])))
 aj))
 (ak (qd [4] (retS (af 4)))
 aj)))
def eY:List PV->M PV:=bq 4 (az 6 fc)
def gJ:ae->M Out :=
 (ak (bc 1 (λ_=>M.ok (.str " !\"#$&'()*+,-./0123456789:;<=>?@ABCDEFGHIJKLMNOPQRSTUVWXYZ[]^_abcdefghijklmnopqrstuvwxyz{|}~
")))
 (ak (bc 1 (ai bK (af 1) (λ_=>M.ok (.str "  --00119  ;;::-0 1:; "))))
 (ak (retS (ai aC (af 1) (ai cC (af 0) (ah cP (aa (af 1) ao)))))
 aj)))
def fy:List PV->M PV:=bq 1 (az 2 gJ)
def dJ:ae->M Out :=
 (ak (bc 2 (ai cC (ai dM (af 1) (cI 8)) (ai bK (ah cP (aa (af 0) ao)) (cI 1))))
 (ak (bc 3 (ai cC (af 1) (cI 8)))
 (ak (oj 4 (gQ (af 0) (λ_=>M.ok (.str "; "))))
 (ak (bc 5 (g8 4 (ai cC (ai dM (af 1) (cI 8)) (ah cP (aa (af 4) ao)))))
 (ak (dG (bJ (ai gu (af 3) (cI 1))) (ak (retS (ai bK (ai bK (cM (af 0) et (bo (af 2))) (ah fy (aa (ai dM (af 1) (cI 4000)) ao))) (cM (af 0) (bo (af 2)) et)))
 aj) aj)
 (ak (dG (bJ (ai gu (af 3) (cI 2))) (ak (retS (ai bK (ai bK (cM (af 0) et (bo (af 2))) (ah fy (aa (ai dM (af 1) (cI 4000)) ao))) (cM (af 0) (bo (ai bK (af 2) (cI 1))) et)))
 aj) aj)
 (ak (dG (bJ (ai gu (af 3) (cI 3))) (ak (retS (ai bK (cM (af 0) et (bo (af 2))) (cM (af 0) (bo (ai bK (af 2) (cI 1))) et)))
 aj) aj)
 (ak (dG (bJ (ai gu (af 3) (cI 4))) (ak (retS (g8 4 (i6 fk (λ_=>M.ok (.str "; ")) (ai bK (ai bK (fH (af 4) et (bo (af 5))) (fH (af 4) (bo (af 5)) (bo (ai bK (af 5) (cI 1))))) (fH (af 4) (bo (af 5)) et)))))
 aj) aj)
 (ak (dG (bJ (ai gu (af 3) (cI 5))) (ak (retS (g8 4 (i6 fk (λ_=>M.ok (.str "; ")) (ai bK (fH (af 4) et (bo (af 5))) (fH (af 4) (bo (ai bK (af 5) (cI 1))) et)))))
 aj) aj)
 (ak (dG (bJ (ai gu (af 3) (cI 6))) (ak (EL 4 (af 5) (g8 4 (ai bK (ai bK (ai aC (af 4) (af 5)) (λ_=>M.ok (.str " : "))) (ai aC (g_ (aa (λ_=>M.ok (.str "1")) (aa (λ_=>M.ok (.str "0")) (aa (λ_=>M.ok (.str "1000")) (aa (λ_=>M.ok (.str "1001")) (aa (λ_=>M.ok (.str "-5")) (aa (λ_=>M.ok (.str "07")) (aa (λ_=>M.ok (.str "")) (aa (λ_=>M.ok (.str "5 6")) (aa (λ_=>M.ok (.str "3 : 4")) ao)))))))))) (ai cC (ai dM (af 1) (cI 640)) (cI 9))))))
 aj) aj)
 (ak (dG (bJ (ai gu (af 3) (cI 7))) (ak (EL 4 (af 5) (ai aC (g_ (aa (λ_=>M.ok (.str "1 5")) (aa (λ_=>M.ok (.str "361")) (aa (λ_=>M.ok (.str "")) (aa (λ_=>M.ok (.str " ")) (aa (λ_=>M.ok (.str "2")) (aa (λ_=>M.ok (.str "360 2")) (aa (λ_=>M.ok (.str "5 0")) (aa (λ_=>M.ok (.str "0")) ao))))))))) (ai cC (ai dM (af 1) (cI 640)) (cI 8))))
 aj) aj)
 (ak (qd [4] (retS (i6 fk (λ_=>M.ok (.str "; ")) (af 4))))
 aj))))))))))))
def er:List PV->M PV:=bq 2 (az 6 dJ)
def cq:ae->M Out :=
 (ak (bc 1 (af 0))
 (ak (dG (bJ (ai gu (cM (af 0) et (bo (cI 1))) (λ_=>M.ok (.str "-")))) (ak (bc 1 (cM (af 0) (bo (cI 1)) et))
 aj) aj)
 (ak (dG (va (bJ (ai gu (af 1) (λ_=>M.ok (.str "")))) (va (bJ (ai wD (ah cP (aa (af 1) ao)) (cI 30))) (bJ (ai wD (ah cP (aa (ck (cF (signsOf (af 1)) (bD 0) (some (bJ (ai vd (af 0) (λ_=>M.ok (.str "0123456789"))))) (af 0) 1 [])) ao)) (cI 0))))) (ak (retS (λ_=>M.ok .bH))
 aj) aj)
 (ak (dG (DW (bJ (ai gu (ai aC (af 1) (cI 0)) (λ_=>M.ok (.str "0")))) (va (bJ (ai wD (ah cP (aa (af 1) ao)) (cI 1))) (bJ (ai oR (af 0) (af 1))))) (ak (retS (λ_=>M.ok .bH))
 aj) aj)
 (ak (retS (ah v8 (aa (af 0) ao)))
 aj)))))
def bI:List PV->M PV:=bq 1 (az 2 cq)
def dX:ae->M Out :=
 (ak (dG (bJ (ai gu (af 0) (λ_=>M.ok (.str "")))) (ak (retS (g_ ao))
 aj) aj)
 (ak (retS (ck (cF (itemsOf (i6 jJ (af 0) (λ_=>M.ok (.str " ")))) (bD 0) none (ah bI (aa (af 0) ao)) 1 [])))
 aj))
def cm:List PV->M PV:=bq 1 (az 1 dX)
def eZ:ae->M Out :=
 (ak (bc 1 (i6 jJ (af 0) (λ_=>M.ok (.str "; "))))
 (ak (oj 2 (i5 ao))
 (ak (oj 3 (i5 ao))
 (ak (jE (itemsOf (fH (af 1) (bo (cI 1)) et)) (bD 4) (ak (ED (zW 5 6 7) (i6 vS (af 4) (λ_=>M.ok (.str " : "))))
 (ak (n9 2 (ah cm (aa (af 5) ao)))
 (ak (n9 3 (cI 1))
 (ak (dG (bJ (ai oR (af 6) (λ_=>M.ok (.str "")))) (ak (EL 3 (ub (cI 1)) (ah bI (aa (af 7) ao)))
 aj) aj)
 aj)))))
 (ak (bc 8 (ah cm (aa (ai aC (af 1) (cI 0)) ao)))
 (ak (qd [2,3] (dG (va (bJ (ai inD (λ_=>M.ok .bH) (af 8))) (va (bJ (ai inD (λ_=>M.ok .bH) (af 3))) (bJ (ai wD (ah cP (aa (ck (cF (itemsOf (af 2)) (bD 0) (some (bJ (ai inD (λ_=>M.ok .bH) (af 0)))) (af 0) 1 [])) ao)) (cI 0))))) (ak (retS (λ_=>M.ok .bH))
 aj) aj))
 (ak (qd [2,3] (retS (g_ (aa (af 8) (aa (af 2) (aa (af 3) ao))))))
 aj)))))))
def cK:List PV->M PV:=bq 1 (az 9 eZ)
def f7:ae->M Out :=
 (ak (dG (bJ (ai wD (ah cP (aa (af 0) ao)) (cI 6))) (ak (retS (dH (aa (λ_=>M.ok (.str "many")) ao)))
 aj) aj)
 (ak (jE (oH lG (aa (ah (mH λi j=>if j>i then j else i) (aa (cI 1) (aa (ah cP (aa (af 0) ao)) ao))) ao)) (bD 3) (ak (dG (va (bJ (ai gu (af 0) (g_ ao))) (iG (bJ (iZ xE xE (cI 2) (ai aC (af 0) (af 3)) (cI 360))))) (ak (retS (dH (aa (λ_=>M.ok (.str "dial")) (aa (af 3) ao))))
 aj) aj)
 aj))
 (ak (dG (bJ (ai wD (ah cP (aa (af 1) ao)) (cI 8))) (ak (retS (dH (aa (λ_=>M.ok (.str "many")) ao)))
 aj) aj)
 (ak (jE (oH lG (aa (ah cP (aa (af 1) ao)) ao)) (bD 3) (ak (dG (bJ (ai oR (ah cP (aa (ai aC (af 1) (af 3)) ao)) (ah cP (aa (af 0) ao)))) (ak (retS (dH (aa (λ_=>M.ok (.str "lever")) (aa (af 3) ao))))
 aj) aj)
 aj))
 (ak (jE (oH lG (aa (ah cP (aa (af 2) ao)) ao)) (bD 3) (ak (dG (iG (bJ (iZ xE xE (cI 1) (ai aC (af 2) (af 3)) (cI 1000)))) (ak (retS (dH (aa (λ_=>M.ok (.str "price")) (aa (af 3) ao))))
 aj) aj)
 aj))
 (ak (retS (λ_=>M.ok .bH))
 aj))))))
def fS:List PV->M PV:=bq 3 (az 4 f7)
def dW:ae->M Out :=
 (ak (retS (ah eM (aa (ck (cF (itemsOf (af 1)) (bD 0) none (ah eM (aa (ck (cF (oH zip2 (aa (af 0) (aa (af 1) ao))) (gg 0 1) none (ai cC (af 0) (af 1)) 2 [])) ao)) 1 [0])) ao)))
 aj)
def eg:List PV->M PV:=bq 2 (az 2 dW)
def eJ:ae->M Out :=
 (ak (bc 1 (λ_=>M.ok .bH))
 (ak (dG (bJ (lu (λa=>hU a "str") jq jq (af 0))) (ak (bc 1 (ah cK (aa (af 0) ao)))
 aj) aj)
 (ak (dG (bJ (ai gy (af 1) (λ_=>M.ok .bH))) (ak (retS (dH (aa (λ_=>M.ok (.str "text")) ao)))
 aj) aj)
 (ak (bc 2 (ah fS (aa (ai aC (af 1) (cI 0)) (aa (ai aC (af 1) (cI 1)) (aa (ai aC (af 1) (cI 2)) ao)))))
 (ak (dG (bJ (ai i9 (af 2) (λ_=>M.ok .bH))) (ak (retS (af 2))
 aj) aj)
 (ak (retS (dH (aa (λ_=>M.ok (.str "told")) (aa (ah eM (aa (ai aC (af 1) (cI 0)) ao)) (aa (ah eg (aa (ai aC (af 1) (cI 0)) (aa (ai aC (af 1) (cI 1)) ao))) (aa (ah eM (aa (ai aC (af 1) (cI 2)) ao)) ao))))))
 aj))))))
def cX:List PV->M PV:=bq 1 (az 3 eJ)
def gE:ae->M Out :=
 (ak (oj 3 (i5 (aa (i6 fk (λ_=>M.ok (.str " ")) (ck (cF (itemsOf (af 0)) (bD 0) none (ah ju (aa (af 0) ao)) 1 []))) ao)))
 (ak (jE (oH zip2 (aa (af 1) (aa (af 2) ao))) (gg 4 5) (ak (bc 6 (i6 fk (λ_=>M.ok (.str " ")) (ck (cF (itemsOf (af 4)) (bD 0) none (ah ju (aa (af 0) ao)) 1 []))))
 (ak (dG (bJ (ai oR (af 5) (cI 1))) (ak (bc 6 (ai bK (ai bK (af 6) (λ_=>M.ok (.str " : "))) (ah ju (aa (af 5) ao))))
 aj) aj)
 (ak (n9 3 (af 6))
 aj))))
 (ak (qd [3] (retS (i6 fk (λ_=>M.ok (.str "; ")) (af 3))))
 aj)))
def cS:List PV->M PV:=bq 3 (az 7 gE)
def da:ae->M Out :=
 (ak (mX (ah bf (aa (af 1) ao)))
 (ak (mX (ah bz (aa (af 2) (aa (ah cP (aa (af 1) ao)) ao))))
 (ak (l4 0 aw "dial_sizes" (ah eM (aa (af 1) ao)))
 (ak (l4 0 aw "lever_settings" (ah eM (aa (ck (cF (itemsOf (af 2)) (bD 0) none (ah jg (aa (af 0) (aa (af 1) ao))) 1 [1])) ao)))
 (ak (l4 0 aw "lever_prices" (ah cy (aa (af 2) (aa (af 3) ao))))
 (ak (l4 0 aw "least_round" (ah eX (aa (af 1) ao)))
 aj))))))
def bA:Addr->List PV->M (List (Str×PV)):=n6 4 (ug 4 da aw)
def dm:ae->M Out :=
 (ak (retS (tZ (λc=>c==aw) "dial_sizes" (af 0)))
 aj)
def cb:List PV->M PV:=bq 1 (az 1 dm)
def cZ:ae->M Out :=
 (ak (retS (tZ (λc=>c==aw) "lever_settings" (af 0)))
 aj)
def bL:List PV->M PV:=bq 1 (az 1 cZ)
def dR:ae->M Out :=
 (ak (retS (tZ (λc=>c==aw) "lever_prices" (af 0)))
 aj)
def cn:List PV->M PV:=bq 1 (az 1 dR)
def cY:ae->M Out :=
 (ak (mX (ah cv (aa (af 0) ao)))
 (ak (dG (bJ (ai gu (af 0) (λ_=>M.ok (.str "")))) (ak (retS (dH ao))
 aj) aj)
 (ak (retS (ah eM (aa (ck (jz (itemsOf (i6 jJ (af 0) (λ_=>M.ok (.str " ")))) (bD 0) (ah dk (aa (af 0) ao)) 1 [])) ao)))
 aj)))
def bM:List PV->M PV:=bq 1 (az 1 cY)
def fX:ae->M Out :=
 (ak (bc 1 (ck (cF (oH zip2 (aa (dD aw "levers" bL (af 0) ao) (aa (dD aw "prices" cn (af 0) ao) ao))) (gg 0 1) none (ah dN (aa (af 0) (aa (af 1) ao))) 2 [])))
 (ak (retS (i6 fk (λ_=>M.ok (.str "; ")) (ai bK (g_ (aa (ah bN (aa (dD aw "sizes" cb (af 0) ao) ao)) ao)) (af 1))))
 aj))
def fN:List PV->M PV:=bq 1 (az 2 fX)
def f9:ae->M Out :=
 (ak (bc 1 (i6 vS (af 0) (λ_=>M.ok (.str " : "))))
 (ak (bc 2 (ah bM (aa (ai aC (af 1) (cI 0)) ao)))
 (ak (dG (bJ (ai gu (ai aC (af 1) (cI 1)) (λ_=>M.ok (.str "")))) (ak (retS (dH (aa (af 2) (aa (cI 1) ao))))
 aj) aj)
 (ak (bc 3 (ah bM (aa (ai aC (af 1) (cI 2)) ao)))
 (ak (dG (bJ (ai oR (ah cP (aa (af 3) ao)) (cI 1))) (ak (eR aL (aa (λ_=>M.ok (.str "a lever has just one price")) ao))
 aj) aj)
 (ak (retS (dH (aa (af 2) (aa (ai aC (af 3) (cI 0)) ao))))
 aj))))))
def dQ:List PV->M PV:=bq 1 (az 4 f9)
def dZ:ae->M Out :=
 (ak (mX (ah cv (aa (af 0) ao)))
 (ak (bc 1 (i6 jJ (af 0) (λ_=>M.ok (.str "; "))))
 (ak (bc 2 (ah bM (aa (ai aC (af 1) (cI 0)) ao)))
 (ak (bc 3 (ck (jz (itemsOf (fH (af 1) (bo (cI 1)) et)) (bD 0) (ah dQ (aa (af 0) ao)) 1 [])))
 (ak (retS (ah (fJ aw bA []) (aa (af 2) (aa (ck (jz (itemsOf (af 3)) (bD 0) (ai aC (af 0) (cI 0)) 1 [])) (aa (ck (jz (itemsOf (af 3)) (bD 0) (ai aC (af 0) (cI 1)) 1 [])) ao)))))
 aj)))))
def bb:List PV->M PV:=bq 1 (az 4 dZ)
def bY:ae->M Out :=
 (ak (bc 1 (λ_=>M.ok .bH))
 (ak (bc 2 (λ_=>M.ok .bH))
 (ak (pV (bc 1 (ah bb (aa (af 0) ao))) [(md gT gN,some 3,(ak (bc 2 (af 3))
 aj))])
 (ak (dG (bJ (ai gy (af 2) (λ_=>M.ok .bH))) (ak (retS (dH (aa (λ_=>M.ok (.str "told")) (aa (dD aw "sizes" cb (af 1) ao) (aa (dD aw "levers" bL (af 1) ao) (aa (dD aw "prices" cn (af 1) ao) ao))))))
 aj) aj)
 (ak (bc 4 (g_ (aa (lu (λ_=>false) (md k_ kS) (md lx lg) (af 2)) (aa (lu (λ_=>false) (md jG jO) (md jD jL) (af 2)) (aa (lu (λ_=>false) (md jf i7) (md jd ja) (af 2)) ao)))))
 (ak (bc 4 (ai bK (af 4) (g_ (aa (lu (λ_=>false) (md ij ir) (md ia h_) (af 2)) (aa (lu (λ_=>false) (md hV ig) (md iy hZ) (af 2)) ao)))))
 (ak (dG (va (bJ (ai oR (Du (af 4) (λ_=>M.ok (.bl true))) (cI 1))) (bJ (ai aC (af 4) (cI 0)))) (ak (retS (ai aC (g_ (aa (dH (aa (λ_=>M.ok (.str "none")) ao)) (aa (dH (aa (λ_=>M.ok (.str "text")) ao)) ao))) (ah yu (aa (p_ (ai aC (af 4) (cI 0)) (ai gu (Du (af 4) (λ_=>M.ok (.bl true))) (cI 1))) ao))))
 aj) aj)
 (ak (dG (bJ (lu (λ_=>false) (md jf i7) (md jd ja) (af 2))) (ak (retS (dH (aa (λ_=>M.ok (.str "dial")) (aa (Ha vt "dial" (af 2)) ao))))
 aj) aj)
 (ak (dG (bJ (lu (λ_=>false) (md ij ir) (md ia h_) (af 2))) (ak (retS (dH (aa (λ_=>M.ok (.str "lever")) (aa (Ha nW "lever" (af 2)) ao))))
 aj) aj)
 (ak (dG (bJ (lu (λ_=>false) (md hV ig) (md iy hZ) (af 2))) (ak (retS (dH (aa (λ_=>M.ok (.str "price")) (aa (Ha nW "lever" (af 2)) ao))))
 aj) aj)
 (ak (retS (dH (aa (λ_=>M.ok (.str "many")) ao)))
 aj)))))))))))
def aJ:List PV->M PV:=bq 1 (az 5 bY)
def zj:ae->M Out :=
 (ak (bc 1 (ah fU (aa (ah aO (aa (ah aV (aa (af 0) (aa (cI 0) ao))) (aa (cI 1) ao))) ao)))
 (ak (bc 2 (ah eY (aa (af 0) (aa (cI 2) (aa (ai cC (ah aO (aa (ah aV (aa (af 0) (aa (cI 1) ao))) (aa (cI 2) ao))) (cI 9)) (aa (ah cP (aa (af 1) ao)) ao))))))
 (ak (bc 3 (ck (cF (oH lG (aa (ah cP (aa (af 2) ao)) ao)) (bD 0) none (ah aO (aa (ah aV (aa (af 1) (aa (cI 1) ao))) (aa (ai bK (cI 20) (af 0)) ao))) 1 [0])))
 (ak (bc 4 (ck (cF (itemsOf (af 3)) (bD 0) none (ai aC (g_ (aa (cI 1) (aa (ai bK (cI 1) (ai cC (ai dM (af 0) (cI 2)) (cI 1000))) ao))) (ai cC (af 0) (cI 2))) 1 [])))
 (ak (bc 5 (ah cS (aa (af 1) (aa (af 2) (aa (af 4) ao)))))
 (ak (dG (iG (bJ (ah bX (aa (ah fN (aa (ah (fJ aw bA []) (aa (af 1) (aa (af 2) (aa (af 4) ao)))) ao)) (aa (ah cS (aa (af 1) (aa (ah eg (aa (af 1) (aa (af 2) ao))) (aa (af 4) ao)))) ao))))) (ak (retS (λ_=>M.ok (.bl false)))
 aj) aj)
 (ak (dG (iG (bJ (ah bX (aa (ah aJ (aa (af 5) ao)) (aa (ah cX (aa (af 5) ao)) ao))))) (ak (retS (λ_=>M.ok (.bl false)))
 aj) aj)
 (ak (jE (oH lG (aa (cI 7) ao)) (bD 6) (ak (bc 7 (ah er (aa (af 5) (aa (ah aO (aa (ah aV (aa (af 0) (aa (ai bK (cI 10) (af 6)) ao))) (aa (ai bK (cI 50) (af 6)) ao))) ao))))
 (ak (dG (iG (bJ (ah bX (aa (ah aJ (aa (af 7) ao)) (aa (ah cX (aa (af 7) ao)) ao))))) (ak (retS (λ_=>M.ok (.bl false)))
 aj) aj)
 aj)))
 (ak (bc 8 (ai aC (g_ (aa (λ_=>M.ok .bH) (aa (cI 5) (aa (λ_=>M.ok (.bl true)) (aa (g_ (aa (λ_=>M.ok (.str "2")) ao)) (aa (dH (aa (λ_=>M.ok (.str "2")) ao)) (aa (λ_=>M.ok .emp) (aa (g_ (aa (cI 2) ao)) (aa (dH (aa (cI 2) (aa (cI 3) ao))) ao))))))))) (ai cC (ah aO (aa (ah aV (aa (af 0) (aa (cI 0) ao))) (aa (cI 4) ao))) (cI 8))))
 (ak (retS (p_ (ai gu (ah aJ (aa (af 8) ao)) (dH (aa (λ_=>M.ok (.str "text")) ao))) (ai gu (ah aJ (aa (λ_=>M.ok (.str "")) ao)) (dH (aa (λ_=>M.ok (.str "dial")) (aa (cI 0) ao))))))
 aj))))))))))
def pN:List PV->M PV:=bq 1 (az 9 zj)
end tF
namespace tF
open PySem L2 PyProof.Rows
local macro_rules | `(tactic| walk_at "s")=>`(tactic| exact⟨rfl,rfl,rfl,by decide +kernel,rfl,by decide +kernel,by decide +kernel⟩)
local macro_rules | `(tactic| walk_at "l")=>`(tactic| first | exact .inl rfl | exact .inr rfl)
local macro_rules | `(tactic| walk_at "pp")=>`(tactic| all_goals repeat' (first | ((with_reducible show jy _ _ (tS _ (ak _ _)));refine zm ?_ ?_) | ((with_reducible show jy _ _ (tS _ aj));exact AK) | ((with_reducible show PE _ _ (tE _ (af _)));exact vr _) | ((with_reducible show PA _ _ (tL _ (aa _ _)));refine u6 ?_ ?_ ?_) | ((with_reducible show starEach _ _=_);exact Ca rfl) | ((with_reducible show PA _ _ (tL _ ao));exact xV) | ((with_reducible show PE _ _ (tE _ (λ_=>M.ok (.int _))));first | exact zh | exact jh (Cn (by rfl) (by assumption)) λ_=>.int _) | ((with_reducible show PE _ _ (tE _ (λ_=>M.ok (.bl _))));exact GZ) | ((with_reducible show PE _ _ (tE _ (λ_=>M.ok .bH)));exact EC) | ((with_reducible show PE _ _ (tE _ (λ_=>M.ok (.str _))));exact D6) | ((with_reducible show PE _ _ (tE _ (ai bK _ _)));refine kQ BV CL ?_ ?_) | ((with_reducible show PE _ _ (tE _ (ai nO _ _)));refine kQ C6 Dp ?_ ?_) | ((with_reducible show PE _ _ (tE _ (ai gf _ _)));refine kQ BX DB ?_ ?_) | ((with_reducible show PE _ _ (tE _ (ai dM _ _)));refine kQ zc Ao ?_ ?_) | ((with_reducible show PE _ _ (tE _ (ai cC _ _)));refine kQ Be BE ?_ ?_) | ((with_reducible show PE _ _ (tE _ (ai xu _ _)));refine kQ Dk Bt ?_ ?_) | ((with_reducible show PE _ _ (tE _ (ai aC _ _)));refine CV ?_ ?_ ?_) | ((with_reducible show qL _);exact λ_ _=>rfl) | ((with_reducible show PT _ _ (tT _ (bJ (ai gu _ _))));refine gR (zH (bU.units (by assumption))) CD ?_ ?_ (de _)) | ((with_reducible show PE _ _ (tE _ (ai gu _ _)));refine iz (zH (bU.units (by assumption))) CD ?_ ?_ (de _)) | ((with_reducible show PT _ _ (tT _ (bJ (ai oR _ _))));refine gR (Ac (bU.units (by assumption))) Cm ?_ ?_ (de _)) | ((with_reducible show PE _ _ (tE _ (ai oR _ _)));refine iz (Ac (bU.units (by assumption))) Cm ?_ ?_ (de _)) | ((with_reducible show PT _ _ (tT _ (bJ (ai Fx _ _))));refine gR B5 Aj ?_ ?_ (de _)) | ((with_reducible show PE _ _ (tE _ (ai Fx _ _)));refine iz B5 Aj ?_ ?_ (de _)) | ((with_reducible show PT _ _ (tT _ (bJ (ai xE _ _))));refine gR jv gO ?_ ?_ (de _)) | ((with_reducible show PE _ _ (tE _ (ai xE _ _)));refine iz jv gO ?_ ?_ (de _)) | ((with_reducible show PT _ _ (tT _ (bJ (ai wD _ _))));refine gR Cg zr ?_ ?_ (de _)) | ((with_reducible show PE _ _ (tE _ (ai wD _ _)));refine iz Cg zr ?_ ?_ (de _)) | ((with_reducible show PT _ _ (tT _ (bJ (ai Fs _ _))));refine gR Cs yI ?_ ?_ (de _)) | ((with_reducible show PE _ _ (tE _ (ai Fs _ _)));refine iz Cs yI ?_ ?_ (de _)) | ((with_reducible show PT _ _ (tT _ (bJ (ai gy _ _))));refine gR yD zd ?_ ?_ (de _)) | ((with_reducible show PE _ _ (tE _ (ai gy _ _)));refine iz yD zd ?_ ?_ (de _)) | ((with_reducible show PT _ _ (tT _ (bJ (ai i9 _ _))));refine gR vF vm ?_ ?_ (de _)) | ((with_reducible show PE _ _ (tE _ (ai i9 _ _)));refine iz vF vm ?_ ?_ (de _)) | ((with_reducible show PT _ _ (tT _ (iG _)));refine Ed ?_) | ((with_reducible show PT _ _ (tT _ (bJ (ah _ _))));refine kU ?_) | ((with_reducible show PT _ _ (tT _ (bJ (lu _ _ _ _))));refine kU ?_) | ((with_reducible show PT _ _ (tT _ (bJ (dD _ _ _ _ _))));refine kU ?_) | ((with_reducible show PT _ _ (tT _ (bJ (af _))));refine kU ?_) | ((with_reducible show PS _ _ (tS _ (retS _)));refine D1 ?_) | ((with_reducible show PS _ _ (tS _ (bc _ _)));refine CK ?_ ?_ ?_ ?_ ?_ ?_;assumption;exact rfl;(first | exact .inl rfl | exact .inr rfl);rotate_left;rfl;(first | exact .inl rfl | exact .inr rfl | assumption)) | ((with_reducible show PS _ _ (tS _ (dG _ _ _)));refine Gu ?_ ?_ ?_) | ((with_reducible show PS _ _ (tS _ (n9 _ _)));refine wX rfl (by first | exact .inl rfl | exact .inr (.inl rfl)) ?_) | ((with_reducible show PS _ _ (tS _ (oj _ _)));refine AW (by assumption) rfl (by walk_at "l") ?_) | ((with_reducible show PE _ _ (tO _ (i5 _)));refine EV ?_) | ((with_reducible show PS _ _ (tS _ (qd _ _)));refine Eg _ ?_) | ((with_reducible show PS _ _ (tS _ (mX _)));refine B0 ?_) | ((with_reducible show PS _ _ (tS _ (eR _ _)));refine zX.raise (by assumption) (by assumption) rfl (by rfl) ?_) | ((with_reducible show PS _ _ (tS _ (fI _ _ _)));refine pU.raise (by assumption) (by assumption) (by lia) (by assumption) rfl (by rfl) ?_) | ((with_reducible show PE _ _ (tE _ (dH _)));refine CQ ?_) | ((with_reducible show PE _ _ (tE _ (g_ _)));refine zv ?_) | ((with_reducible show PE _ _ (tE _ (ub _)));refine EM ?_) | ((with_reducible show PE _ _ (tE _ (xG _ _ _)));refine E8 ?_ ?_ ?_) | ((with_reducible show PE _ _ (tE _ (tZ _ _ _)));refine C1 ?_ (by assumption) rfl) | ((with_reducible show PE _ _ (tE _ (ah cP _)));refine kv wq Fl (by rfl) (by assumption) PySem.boot_len ?_) | ((with_reducible show PE _ _ (tE _ (ah eM _)));refine dE oz xZ (by rfl) (by assumption) kx ?_) | ((with_reducible show PE _ _ (tE _ (ah sD _)));refine kv (wj rfl) EE (by rfl) (by assumption) Di ?_) | ((with_reducible show PE _ _ (tE _ (ah yu _)));refine dE xp BD (by rfl) (by assumption) mG ?_) | ((with_reducible show PE _ _ (tE _ (ah (fJ _ _ _) _)));refine Ft.make (by assumption) (by assumption) (by lia) (by rfl) (by first | assumption | exact vB) ?_) | ((with_reducible show PE _ _ (tE _ (ah _ _)));refine e8.call (by assumption) (by assumption) (by lia) (by rfl) (by first | assumption | exact vB) ?_) | ((with_reducible show PE _ _ (tE _ (dD _ _ _ _ ao)));refine ym.FG (by assumption) (by assumption) (by lia) (by first | assumption | exact vB) ?_) | ((with_reducible show PE _ _ (tE _ (dD _ _ _ _ _)));refine ym.call (by assumption) (by assumption) (by lia) (by first | assumption | exact vB) ?_ ?_) | ((with_reducible show PT _ _ (tT _ (bJ (ai inD _ _))));refine gR (ER (bU.JH (by assumption))) C8 ?_ ?_ rfl)))
def top(i:Nat):Stmt:=PySem.Challenge.pw_dialvault_k16_vaults_as_texts.main.body.getD i (.Pass ⟨0,0,0,0⟩)
structure Txt (K:PySem.W.Frag) (mg:Str->Option Value):Prop where
 GG:mg "all" = none
 uK:mg "bool" = none
 iM:mg "enumerate" = none
 sV:mg "int" = none
 ay:mg "isinstance" = none
 FH:mg "len" = none
 kJ:mg "list" = none
 xP:mg "max" = none
 fe:mg "range" = none
 ki:mg "str" = none
 mw:mg "tuple" = none
 o_:mg "zip" = none
 eK:∃ u,mg "AHEAD_OF_PRICE" = some u/\RelV (.str " : ") u
 fG:∃ u,mg "BETWEEN_PARTS" = some u/\RelV (.str "; ") u
 pH:∃ u,mg "FIGURES" = some u/\RelV (.str "0123456789") u
 oG:∃ u,mg "LEAST_PRICE" = some u/\RelV (.int 1) u
 p7:∃ u,mg "LEAST_SIZE" = some u/\RelV (.int 2) u
 qt:∃ u,mg "MOST_DIALS" = some u/\RelV (.int 6) u
 nN:∃ u,mg "MOST_FIGURES" = some u/\RelV (.int 30) u
 oy:∃ u,mg "MOST_LEVERS" = some u/\RelV (.int 8) u
 qv:∃ u,mg "MOST_PRICE" = some u/\RelV (.int 1000) u
 tj:∃ u,mg "MOST_SIZE" = some u/\RelV (.int 360) u
 oq:∃ u,mg "PLAIN_PRICE" = some u/\RelV (.int 1) u
 jZ:oU K aw
 Al:zX K mg aL "NoText"
 xi:zX K mg bj "TooMany"
 hX:IY K mg "VaultError" j7 gT gN
 mQ:A1 K mg "NoDial" br jd ja jf i7
 kW:A1 K mg "NoLever" aZ ia h_ ij ir
 kN:A1 K mg "NoPrice" aW iy hZ hV ig
 rB:A1 K mg "NoText" aL lx lg k_ kS
 pe:A1 K mg "TooMany" bj jD jL jG jO
 vW:∀ C∈vt,ez K C/\bP K C "dial"
 m7:∀ C∈nW,ez K C/\bP K C "lever"
 gb:bP K aw "dial_sizes"
 fK:bP K aw "least_round"
 fu:bP K aw "lever_prices"
 dS:bP K aw "lever_settings"
 qQ:∀ C,(C==aw)=true->oU K C/\bP K C "dial_sizes"
 oE:∀ C,(C==aw)=true->oU K C/\bP K C "least_round"
 nB:∀ C,(C==aw)=true->oU K C/\bP K C "lever_prices"
 ly:∀ C,(C==aw)=true->oU K C/\bP K C "lever_settings"
local macro_rules | `(tactic| walk_at "t")=>`(tactic| (have z:=‹Txt _ _›;cases z))
variable{P:Program}{w:World}{K:PySem.W.Frag}{mg:Str->Option Value}{base:Heap}{f:Addr}{fd:FuncData}{dv:Value}
theorem sZ(F:bB K "is_whole" "is_whole" (top 9) dv f fd)(T:Txt K mg)  : aP P w K mg base (cu P w) 1 f fd ["thing"] (fE 1 eF) :=
 F.iA ["thing"] λnd _ _ _ _ _ _ hr O=>by
 unfold iq;walk_at "t";walk_at "pp";refine(jK ?_ (jN ?_));walk_at "pp";refine(gW (T := "int") (by rfl) T.ay (cf (v:=.ty "int") (by rfl) T.sV mG rfl) (by decide) gq gq ?_);walk_at "pp";refine(yw ?_);walk_at "pp";refine(gW (T := "bool") (by rfl) T.ay (cf (v:=.ty "bool") (by rfl) T.uK v9 rfl) (by decide) gq gq ?_);walk_at "pp"
theorem si:((["number"]:List Str)++([]:List Str)).Nodup:=by decide +kernel
theorem xb(F:bB K "is_row" "is_row" (top 10) dv f fd)(T:Txt K mg)(Ku:e8 P w K mg base 1 "is_whole" 1 (az 1 iq)):aP P w K mg base (cu P w) 2 f fd ["thing", "length"] (fE 2 gj) :=
 F.iA ["thing", "length"] λnd _ _ _ _ _ _ hr O=>by
 unfold ka;walk_at "t";walk_at "pp";refine(iD ?_ (gS ?_)).pt;walk_at "pp";refine(qU (Ts:=["list", "tuple"]) (by rfl) T.ay (qz (bZ (cf (v:=.ty "list") (by rfl) T.kJ ke rfl) (bZ (cf (v:=.ty "tuple") (by rfl) T.mw kx rfl) gk))) (fun σ H R h=>⟨by show 2<=sizeLine;decide,h⟩) (by decide) gq ?_);walk_at "pp";refine(dh (cU (g:=(aM 0)) (ts:=["number"]) (fs:=[]) (js:=[]) (cl:=[]) rfl rfl rfl rfl rfl rfl .nil .nil (dq ?_) cz (λ_ _ _ _ _=>(a_ (i:=0) si)) (λ_=>aX) aS (λ_ _ _ _ _=>?_)));walk_at "pp"
theorem w6(F:bB K "common" "common" (top 11) dv f fd)(T:Txt K mg)  : aP P w K mg base (cu P w) 1 f fd ["one", "other"] (fE 2 km) :=
 F.iA ["one", "other", "row", "behind", "times", "rest"] λnd _ _ _ _ _ _ hr O=>by
 unfold kd;walk_at "t";walk_at "pp";refine(yg O ?_ ?_);walk_at "pp"
theorem mJ(F:bB K "multiple_of" "multiple_of" (top 12) dv f fd)(T:Txt K mg)(LM:e8 P w K mg base 1 "common" 2 (az 6 kd)):aP P w K mg base (cu P w) 2 f fd ["numbers"] (fE 1 eX) :=
 F.iA ["numbers", "multiple", "number"] λnd _ _ _ _ _ _ hr O=>by
 unfold eV;walk_at "t";walk_at "pp";refine(c9 (g:=(aM 2)) O rfl (dq ?_) cz (a_ (i:=2) nd) aX ?_);walk_at "pp"
theorem pZ(F:bB K "is_within" "is_within" (top 21) dv f fd)(T:Txt K mg)(Ku:e8 P w K mg base 1 "is_whole" 1 (az 1 iq)):aP P w K mg base (cu P w) 2 f fd ["thing", "least", "most"] (fE 3 ff) :=
 F.iA ["thing", "least", "most"] λnd _ _ _ _ _ _ hr O=>by
 unfold fq;walk_at "t";walk_at "pp";refine(jK ?_ (jN ?_));walk_at "pp";refine(zS jv gO jv gO ?_ ?_ ?_);walk_at "pp"
theorem oo(F:bB K "need_sizes" "need_sizes" (top 22) dv f fd)(T:Txt K mg)(LP:pU P w K mg base br "NoDial" "dial")(Kr:e8 P w K mg base 2 "is_within" 3 (az 3 fq)):aP P w K mg base (cu P w) 3 f fd ["sizes"] (fE 1 bf) :=
 F.iA ["sizes", "dial", "size"] λnd _ _ _ _ _ _ hr O=>by
 unfold cA;walk_at "t";walk_at "pp";refine(c9 (g:=(nR K 2 (cV (aM 1) (cV (aM 2) nr)))) O rfl (yb (by rfl) T.iM ?_) v5 (iN (n:=2) rfl (bC (a_ (i:=1) nd) (bC (a_ (i:=2) nd) gL))) iu ?_);walk_at "pp"
theorem mM(F:bB K "need_levers" "need_levers" (top 23) dv f fd)(T:Txt K mg)(LN:e8 P w K mg base 2 "is_row" 2 (az 2 ka))(LC:pU P w K mg base aZ "NoLever" "lever"):aP P w K mg base (cu P w) 3 f fd ["levers", "dials"] (fE 2 bz) :=
 F.iA ["levers", "dials", "place", "lever"] λnd _ _ _ _ _ _ hr O=>by
 unfold cJ;walk_at "t";walk_at "pp";refine(c9 (g:=(nR K 2 (cV (aM 2) (cV (aM 3) nr)))) O rfl (yb (by rfl) T.iM ?_) v5 (iN (n:=2) rfl (bC (a_ (i:=2) nd) (bC (a_ (i:=3) nd) gL))) iu ?_);walk_at "pp"
theorem n8(F:bB K "prices_for" "prices_for" (top 24) dv f fd)(T:Txt K mg)(LD:pU P w K mg base aW "NoPrice" "lever")(Kr:e8 P w K mg base 2 "is_within" 3 (az 3 fq)):aP P w K mg base (cu P w) 3 f fd ["levers", "prices"] (fE 2 cy) :=
 F.iA ["levers", "prices", "place"] λnd _ _ _ _ _ _ hr O=>by
 unfold dI;walk_at "t";walk_at "pp";refine(c9 (g:=(aM 2)) O rfl (c_ (by rfl) T.fe ?_) eh (a_ (i:=2) nd) aX ?_);walk_at "pp";refine(kv (pf rfl) u7 (by rfl) T.xP zJ ?_);walk_at "pp";refine(iD ?_ (gS ?_)).pt;walk_at "pp"
theorem nz:((["number", "size"]:List Str)++([]:List Str)).Nodup:=by decide +kernel
theorem yC(F:bB K "rests" "rests" (top 25) dv f fd)(T:Txt K mg)  : aP P w K mg base (cu P w) 1 f fd ["numbers", "sizes"] (fE 2 jg) :=
 F.iA ["numbers", "sizes"] λnd _ _ _ _ _ _ hr O=>by
 unfold mq;walk_at "t";walk_at "pp";refine(dh (cU (g:=(nR K 2 (cV (aM 0) (cV (aM 1) nr)))) (ts:=["number", "size"]) (fs:=[]) (js:=[]) (cl:=[]) rfl rfl rfl rfl rfl rfl .nil .nil (ni (by rfl) T.o_ ?_) ky (λ_ _ _ _ _=>(iN (n:=2) rfl (bC (a_ (i:=0) nz) (bC (a_ (i:=1) nz) gL)))) (λ_=>iu) jQ (λ_ _ _ _ _=>?_)));walk_at "pp"
theorem kA:((["number"]:List Str)++([]:List Str)).Nodup:=by decide +kernel
theorem mi(F:bB K "show_numbers" "show_numbers" (top 32) dv f fd)(T:Txt K mg)  : aP P w K mg base (cu P w) 1 f fd ["numbers"] (fE 1 bN) :=
 F.iA ["numbers"] λnd _ _ _ _ _ _ hr O=>by
 unfold c5;walk_at "t";walk_at "pp";refine(gc PySem.F.slot_str_join PySem.F.type_str_join gI gH ?_ ?_);walk_at "pp";refine(dh (cU (g:=(aM 0)) (ts:=["number"]) (fs:=[]) (js:=[]) (cl:=[]) rfl rfl rfl rfl rfl rfl .nil .nil (dq ?_) cz (λ_ _ _ _ _=>(a_ (i:=0) kA)) (λ_=>aX) aS (λ_ _ _ _ _=>?_)));walk_at "pp";refine(dE fW mD (by rfl) T.ki iT ?_);walk_at "pp"
theorem lZ:((["sign"]:List Str)++([]:List Str)).Nodup:=by decide +kernel
theorem oV(F:bB K "is_figures" "is_figures" (top 33) dv f fd)(T:Txt K mg)  : aP P w K mg base (cu P w) 1 f fd ["text"] (fE 1 fO) :=
 F.iA ["text"] λnd _ _ _ _ _ _ hr O=>by
 unfold fM;walk_at "t";walk_at "pp";refine(iD ?_ (gS ?_)).pt;walk_at "pp";refine(nu jv gO jv gO ?_ ?_ ?_);walk_at "pp";refine(dh (cU (g:=(aM 0)) (ts:=["sign"]) (fs:=[]) (js:=[]) (cl:=[]) rfl rfl rfl rfl rfl rfl .nil .nil (z7 ?_) wa (λ_ _ _ _ _=>(a_ (i:=0) lZ)) (λ_=>aX) aS (λ_ _ _ _ _=>?_)));walk_at "pp";refine(iz xl Dj ?_ ?_ (by rfl));walk_at "pp";exact(tf (by rfl) T.pH);walk_at "pp";refine(F7 ?_ (jN ?_));walk_at "pp"
theorem mO(F:bB K "read_number" "read_number" (top 34) dv f fd)(T:Txt K mg)(KY:e8 P w K mg base 1 "is_figures" 1 (az 1 fM)):aP P w K mg base (cu P w) 2 f fd ["text"] (fE 1 dk) :=
 F.iA ["text", "figures"] λnd _ _ _ _ _ _ hr O=>by
 unfold e_;walk_at "t";walk_at "pp";refine(kU ?_ );walk_at "pp";refine(gc PySem.F.slot_str_startswith PySem.F.type_str_startswith xg wd ?_ ?_);walk_at "pp";refine(c7 ?_ (bW ?_) cD);walk_at "pp";refine(iD ?_ (gS ?_)).pt;walk_at "pp";refine(dE pG vj (by rfl) T.sV mG ?_);walk_at "pp"
theorem qJ(F:bB K "need_text" "need_text" (top 36) dv f fd)(T:Txt K mg)  : aP P w K mg base (cu P w) 1 f fd ["thing"] (fE 1 cv) :=
 F.iA ["thing"] λnd _ _ _ _ _ _ hr O=>by
 unfold dF;walk_at "t";walk_at "pp";refine(gW (T := "str") (by rfl) T.ay (cf (v:=.ty "str") (by rfl) T.ki iT rfl) (by decide) gq gq ?_);walk_at "pp"
theorem oF(F:bB K "show_lever" "show_lever" (top 37) dv f fd)(T:Txt K mg)(Ki:e8 P w K mg base 1 "show_numbers" 1 (az 1 c5)):aP P w K mg base (cu P w) 2 f fd ["lever", "price"] (fE 2 dN) :=
 F.iA ["lever", "price"] λnd _ _ _ _ _ _ hr O=>by
 unfold f6;walk_at "t";walk_at "pp";exact(tf (by rfl) T.eK);walk_at "pp"
theorem qP(F:bB K "_law_cell" "_law_cell" (top 42) dv f fd)(T:Txt K mg)  : aP P w K mg base (cu P w) 1 f fd ["_law_script", "_law_k"] (fE 2 aV) :=
 F.iA ["_law_script", "_law_k", "_law_number_here"] λnd _ _ _ _ _ _ hr O=>by
 unfold fw;walk_at "t";walk_at "pp"
theorem tq(F:bB K "_law_mix" "_law_mix" (top 43) dv f fd)(T:Txt K mg)  : aP P w K mg base (cu P w) 1 f fd ["_law_cell_here", "_law_k"] (fE 2 aO) :=
 F.iA ["_law_cell_here", "_law_k", "_law_number_here"] λnd _ _ _ _ _ _ hr O=>by
 unfold eU;walk_at "t";walk_at "pp"
theorem fR(F:bB K "_law_same" "_law_same" (top 44) dv f fd)(T:Txt K mg){rS:List PV->M PV}{n:Nat}(o_rec:e8 P w K mg base n "_law_same" 2 rS)(hn:0<=n):aP P w K mg base (cu P w) (n+1) f fd ["_law_found", "_law_due_here"] (fE 2 (bq 2 (az 4 (cw rS)))) :=
 F.iA ["_law_found", "_law_due_here", "_law_one", "_law_other"] λnd _ _ _ _ _ _ hr O=>by
 unfold cw;walk_at "t";walk_at "pp";refine(qU (Ts:=["list", "tuple"]) (by rfl) T.ay (qz (bZ (cf (v:=.ty "list") (by rfl) T.kJ ke rfl) (bZ (cf (v:=.ty "tuple") (by rfl) T.mw kx rfl) gk))) (fun σ H R h=>⟨by show 2<=sizeLine;decide,h⟩) (by decide) gq ?_);walk_at "pp";refine(iD ?_ (gS ?_)).pt;walk_at "pp";refine(gW (T := "list") (by rfl) T.ay (cf (v:=.ty "list") (by rfl) T.kJ ke rfl) (by decide) gq gq ?_);walk_at "pp";refine(gW (T := "list") (by rfl) T.ay (cf (v:=.ty "list") (by rfl) T.kJ ke rfl) (by decide) gq gq ?_);walk_at "pp";refine(qU (Ts:=["list", "tuple"]) (by rfl) T.ay (qz (bZ (cf (v:=.ty "list") (by rfl) T.kJ ke rfl) (bZ (cf (v:=.ty "tuple") (by rfl) T.mw kx rfl) gk))) (fun σ H R h=>⟨by show 2<=sizeLine;decide,h⟩) (by decide) gq ?_);walk_at "pp";refine(c9 (g:=(nR K 2 (cV (aM 2) (cV (aM 3) nr)))) O rfl (ni (by rfl) T.o_ ?_) ky (iN (n:=2) rfl (bC (a_ (i:=2) nd) (bC (a_ (i:=3) nd) gL))) iu ?_);walk_at "pp";refine(gW (T := "str") (by rfl) T.ay (cf (v:=.ty "str") (by rfl) T.ki iT rfl) (by decide) gq gq ?_);walk_at "pp";refine(jK ?_ (jN ?_));walk_at "pp";refine(gW (T := "str") (by rfl) T.ay (cf (v:=.ty "str") (by rfl) T.ki iT rfl) (by decide) gq gq ?_);walk_at "pp";refine(jK ?_ (jK ?_ (jN ?_)));walk_at "pp";refine(gW (T := "int") (by rfl) T.ay (cf (v:=.ty "int") (by rfl) T.sV mG rfl) (by decide) gq gq ?_);walk_at "pp";refine(yw ?_);walk_at "pp";refine(gW (T := "bool") (by rfl) T.ay (cf (v:=.ty "bool") (by rfl) T.uK v9 rfl) (by decide) gq gq ?_);walk_at "pp"
theorem ng(F:bB K "_law_number" "_law_number" (top 45) dv f fd)(T:Txt K mg)(Kk:e8 P w K mg base 1 "_law_mix" 2 (az 3 eU)):aP P w K mg base (cu P w) 2 f fd ["_law_cell_here", "_law_k"] (fE 2 cH) :=
 F.iA ["_law_cell_here", "_law_k", "_law_number_here", "_law_far"] λnd _ _ _ _ _ _ hr O=>by
 unfold eW;walk_at "t";walk_at "pp"
theorem oK(F:bB K "_law_sizes" "_law_sizes" (top 46) dv f fd)(T:Txt K mg)(Kk:e8 P w K mg base 1 "_law_mix" 2 (az 3 eU)):aP P w K mg base (cu P w) 2 f fd ["_law_cell_here"] (fE 1 fU) :=
 F.iA ["_law_cell_here", "_law_sizes_here", "_law_k", "_law_number_here"] λnd _ _ _ _ _ _ hr O=>by
 unfold fL;walk_at "t";walk_at "pp";refine(c9 (g:=(aM 2)) O rfl (c_ (by rfl) T.fe ?_) eh (a_ (i:=2) nd) aX ?_);walk_at "pp";exact(BC [359,11,5,359]);walk_at "pp"
theorem lj:((["_law_dial"]:List Str)++(["_law_script", "_law_start", "_law_j"]:List Str)).Nodup:=by decide +kernel
theorem nF(F:bB K "_law_levers" "_law_levers" (top 47) dv f fd)(T:Txt K mg)(Kq:e8 P w K mg base 1 "_law_cell" 2 (az 3 fw))(KC:e8 P w K mg base 2 "_law_number" 2 (az 4 eW)):aP P w K mg base (cu P w) 3 f fd ["_law_script", "_law_start", "_law_many", "_law_dials"] (fE 4 eY) :=
 F.iA ["_law_script", "_law_start", "_law_many", "_law_dials", "_law_levers_here", "_law_j"] λnd _ _ _ _ _ _ hr O=>by
 unfold fc;walk_at "t";walk_at "pp";refine(c9 (g:=(aM 5)) O rfl (c_ (by rfl) T.fe ?_) eh (a_ (i:=5) nd) aX ?_);walk_at "pp";refine(dh (cU (g:=(aM 0)) (ts:=["_law_dial"]) (fs:=["_law_script", "_law_start", "_law_j"]) (js:=[0,1,5]) rfl rfl rfl rfl rfl rfl (.cons rfl (.cons rfl (.cons rfl .nil))) (.cons rfl rfl (by walk_at "l") rfl rfl (.cons rfl rfl (by walk_at "l") rfl rfl (.cons rfl rfl (by walk_at "l") rfl rfl .nil))) (c_ (by rfl) T.fe ?_) eh (λ_ _ _ _ _=>(a_ (i:=0) lj)) (λ_=>aX) aS (λ_ _ _ _ _=>?_)));walk_at "pp"
theorem qw(F:bB K "_law_sign" "_law_sign" (top 48) dv f fd)(T:Txt K mg)  : aP P w K mg base (cu P w) 1 f fd ["_law_number_here"] (fE 1 fy) :=
 F.iA ["_law_number_here", "_law_some"] λnd _ _ _ _ _ _ hr O=>by
 unfold gJ;walk_at "t";walk_at "pp"
theorem lW(F:bB K "_law_spoiled" "_law_spoiled" (top 49) dv f fd)(T:Txt K mg)(K8:e8 P w K mg base 1 "_law_sign" 1 (az 2 gJ)):aP P w K mg base (cu P w) 2 f fd ["_law_text_here", "_law_cell_here"] (fE 2 er) :=
 F.iA ["_law_text_here", "_law_cell_here", "_law_at", "_law_way", "_law_parts", "_law_near"] λnd _ _ _ _ _ _ hr O=>by
 unfold dJ;walk_at "t";walk_at "pp";refine(xF ?_ ?_);walk_at "pp";refine(mB 4 ?_);walk_at "pp";refine(c7 ?_ cD (bW ?_));walk_at "pp";refine(c7 ?_ (bW ?_) cD);walk_at "pp";refine(c7 ?_ cD (bW ?_));walk_at "pp";refine(c7 ?_ (bW ?_) cD);walk_at "pp";refine(c7 ?_ cD (bW ?_));walk_at "pp";refine(c7 ?_ (bW ?_) cD);walk_at "pp";refine(mB 4 ?_);walk_at "pp";refine(gc PySem.F.slot_str_join PySem.F.type_str_join gI gH ?_ ?_);walk_at "pp";refine(eD ?_ cD (bW ?_));walk_at "pp";refine(eD ?_ (bW ?_) (bW ?_));walk_at "pp";refine(eD ?_ (bW ?_) cD);walk_at "pp";refine(mB 4 ?_);walk_at "pp";refine(gc PySem.F.slot_str_join PySem.F.type_str_join gI gH ?_ ?_);walk_at "pp";refine(eD ?_ cD (bW ?_));walk_at "pp";refine(eD ?_ (bW ?_) cD);walk_at "pp";refine(zo (i:=4) rfl (by first | exact .inl rfl | exact .inr (.inl rfl)) ?_ ?_);walk_at "pp";refine(mB 4 ?_);walk_at "pp";refine(zo (i:=4) rfl (by first | exact .inl rfl | exact .inr (.inl rfl)) ?_ ?_);walk_at "pp";refine(gc PySem.F.slot_str_join PySem.F.type_str_join gI gH ?_ ?_);walk_at "pp"
theorem jm:((["_law_sign_here"]:List Str)++([]:List Str)).Nodup:=by decide +kernel
theorem j_(F:bB K "_law_number_in" "_law_number_in" (top 50) dv f fd)(T:Txt K mg)  : aP P w K mg base (cu P w) 1 f fd ["_law_word"] (fE 1 bI) :=
 F.iA ["_law_word", "_law_figures"] λnd _ _ _ _ _ _ hr O=>by
 unfold cq;walk_at "t";walk_at "pp";refine(c7 ?_ cD (bW ?_));walk_at "pp";refine(c7 ?_ (bW ?_) cD);walk_at "pp";refine(iD ?_ (iD ?_ (gS ?_))).pt;walk_at "pp";refine(dh (rZ (g:=(aM 0)) (ts:=["_law_sign_here"]) (fs:=[]) (js:=[]) (cl:=[]) rfl rfl rfl rfl rfl rfl .nil .nil (z7 ?_) wa (λ_ _ _ _ _=>(a_ (i:=0) jm)) (λ_=>aX) aS (λ_ _ _ _ _=>?_) (λ_ _ _ _ _=>?_)));walk_at "pp";refine(gR qE BQ ?_ ?_ (by rfl));walk_at "pp";refine(D4 ?_ (BU ?_)).pt;walk_at "pp";refine(iD ?_ (gS ?_)).pt;walk_at "pp";refine(dE pG vj (by rfl) T.sV mG ?_);walk_at "pp"
theorem j0:((["_law_word"]:List Str)++([]:List Str)).Nodup:=by decide +kernel
theorem l9(F:bB K "_law_numbers" "_law_numbers" (top 51) dv f fd)(T:Txt K mg)(Kc:e8 P w K mg base 1 "_law_number_in" 1 (az 2 cq)):aP P w K mg base (cu P w) 2 f fd ["_law_text_here"] (fE 1 cm) :=
 F.iA ["_law_text_here"] λnd _ _ _ _ _ _ hr O=>by
 unfold dX;walk_at "t";walk_at "pp";refine(dh (cU (g:=(aM 0)) (ts:=["_law_word"]) (fs:=[]) (js:=[]) (cl:=[]) rfl rfl rfl rfl rfl rfl .nil .nil (dq ?_) cz (λ_ _ _ _ _=>(a_ (i:=0) j0)) (λ_=>aX) aS (λ_ _ _ _ _=>?_)));walk_at "pp";refine(gc PySem.F.slot_str_split PySem.F.type_str_split iP kB ?_ ?_);walk_at "pp"
theorem kX:((["_law_lever"]:List Str)++([]:List Str)).Nodup:=by decide +kernel
theorem mS(F:bB K "_law_parsed" "_law_parsed" (top 52) dv f fd)(T:Txt K mg)(Kw:e8 P w K mg base 2 "_law_numbers" 1 (az 1 dX))(Kc:e8 P w K mg base 1 "_law_number_in" 1 (az 2 cq)):aP P w K mg base (cu P w) 3 f fd ["_law_text_here"] (fE 1 cK) :=
 F.iA ["_law_text_here", "_law_parts", "_law_levers_here", "_law_prices", "_law_part", "_law_words", "_law_mark", "_law_price", "_law_sizes_here"] λnd _ _ _ _ _ _ hr O=>by
 unfold eZ;walk_at "t";walk_at "pp";refine(gc PySem.F.slot_str_split PySem.F.type_str_split iP kB ?_ ?_);walk_at "pp";refine(c9 (g:=(aM 4)) O rfl (dq ?_) cz (a_ (i:=4) nd) aX ?_);walk_at "pp";refine(eD ?_ (bW ?_) cD);walk_at "pp";refine(Et (g:=(nR K 3 (cV (aM 5) (cV (aM 6) (cV (aM 7) nr))))) (iN (n:=3) rfl (bC (a_ (i:=5) nd) (bC (a_ (i:=6) nd) (bC (a_ (i:=7) nd) gL)))) Bi ?_);walk_at "pp";refine(gc PySem.F.slot_str_partition PySem.F.type_str_partition vn vb ?_ ?_);walk_at "pp";refine(zo (i:=3) rfl (by first | exact .inl rfl | exact .inr (.inl rfl)) ?_ ?_);walk_at "pp";refine(iD ?_ (iD ?_ (gS ?_))).pt;walk_at "pp";refine(dh (rZ (g:=(aM 0)) (ts:=["_law_lever"]) (fs:=[]) (js:=[]) (cl:=[]) rfl rfl rfl rfl rfl rfl .nil .nil (dq ?_) cz (λ_ _ _ _ _=>(a_ (i:=0) kX)) (λ_=>aX) aS (λ_ _ _ _ _=>?_) (λ_ _ _ _ _=>?_)));walk_at "pp"
theorem oJ(F:bB K "_law_wrong" "_law_wrong" (top 53) dv f fd)(T:Txt K mg)  : aP P w K mg base (cu P w) 1 f fd ["_law_sizes_here", "_law_levers_here", "_law_prices"] (fE 3 fS) :=
 F.iA ["_law_sizes_here", "_law_levers_here", "_law_prices", "_law_k"] λnd _ _ _ _ _ _ hr O=>by
 unfold f7;walk_at "t";walk_at "pp";refine(c9 (g:=(aM 3)) O rfl (c_ (by rfl) T.fe ?_) eh (a_ (i:=3) nd) aX ?_);walk_at "pp";refine(kv (pf rfl) u7 (by rfl) T.xP zJ ?_);walk_at "pp";refine(iD ?_ (gS ?_)).pt;walk_at "pp";refine(nu jv gO jv gO ?_ ?_ ?_);walk_at "pp";refine(c9 (g:=(aM 3)) O rfl (c_ (by rfl) T.fe ?_) eh (a_ (i:=3) nd) aX ?_);walk_at "pp";refine(c9 (g:=(aM 3)) O rfl (c_ (by rfl) T.fe ?_) eh (a_ (i:=3) nd) aX ?_);walk_at "pp";refine(nu jv gO jv gO ?_ ?_ ?_);walk_at "pp"
theorem l5:((["_law_lever"]:List Str)++(["_law_sizes_here"]:List Str)).Nodup:=by decide +kernel
theorem iC:((["_law_notch", "_law_size"]:List Str)++([]:List Str)).Nodup:=by decide +kernel
theorem oS(F:bB K "_law_rests" "_law_rests" (top 54) dv f fd)(T:Txt K mg)  : aP P w K mg base (cu P w) 1 f fd ["_law_sizes_here", "_law_levers_here"] (fE 2 eg) :=
 F.iA ["_law_sizes_here", "_law_levers_here"] λnd _ _ _ _ _ _ hr O=>by
 unfold dW;walk_at "t";walk_at "pp";refine(dh (cU (g:=(aM 0)) (ts:=["_law_lever"]) (fs:=["_law_sizes_here"]) (js:=[0]) rfl rfl rfl rfl rfl rfl (.cons rfl .nil) (.cons rfl rfl (by walk_at "l") rfl rfl .nil) (dq ?_) cz (λ_ _ _ _ _=>(a_ (i:=0) l5)) (λ_=>aX) aS (λ_ _ _ _ _=>?_)));walk_at "pp";refine(dh (cU (g:=(nR K 2 (cV (aM 0) (cV (aM 1) nr)))) (ts:=["_law_notch", "_law_size"]) (fs:=[]) (js:=[]) (cl:=[]) rfl rfl rfl rfl rfl rfl .nil .nil (ni (by rfl) T.o_ ?_) ky (λ_ _ _ _ _=>(iN (n:=2) rfl (bC (a_ (i:=0) iC) (bC (a_ (i:=1) iC) gL)))) (λ_=>iu) jQ (λ_ _ _ _ _=>?_)));walk_at "pp"
theorem sR(F:bB K "_law_due" "_law_due" (top 55) dv f fd)(T:Txt K mg)(KD:e8 P w K mg base 3 "_law_parsed" 1 (az 9 eZ))(KW:e8 P w K mg base 1 "_law_wrong" 3 (az 4 f7))(Ko:e8 P w K mg base 1 "_law_rests" 2 (az 2 dW)):aP P w K mg base (cu P w) 4 f fd ["_law_thing"] (fE 1 cX) :=
 F.iA ["_law_thing", "_law_parsed_here", "_law_wrong_here"] λnd _ _ _ _ _ _ hr O=>by
 unfold eJ;walk_at "t";walk_at "pp";refine(gW (T := "str") (by rfl) T.ay (cf (v:=.ty "str") (by rfl) T.ki iT rfl) (by decide) gq gq ?_);walk_at "pp"
theorem nt:((["_law_size"]:List Str)++([]:List Str)).Nodup:=by decide +kernel
theorem mV:((["_law_notch"]:List Str)++([]:List Str)).Nodup:=by decide +kernel
theorem qy(F:bB K "_law_text" "_law_text" (top 57) dv f fd)(T:Txt K mg)  : aP P w K mg base (cu P w) 1 f fd ["_law_sizes_here", "_law_levers_here", "_law_prices"] (fE 3 cS) :=
 F.iA ["_law_sizes_here", "_law_levers_here", "_law_prices", "_law_parts", "_law_lever", "_law_price", "_law_part"] λnd _ _ _ _ _ _ hr O=>by
 unfold gE;walk_at "t";walk_at "pp";refine(gc PySem.F.slot_str_join PySem.F.type_str_join gI gH ?_ ?_);walk_at "pp";refine(dh (cU (g:=(aM 0)) (ts:=["_law_size"]) (fs:=[]) (js:=[]) (cl:=[]) rfl rfl rfl rfl rfl rfl .nil .nil (dq ?_) cz (λ_ _ _ _ _=>(a_ (i:=0) nt)) (λ_=>aX) aS (λ_ _ _ _ _=>?_)));walk_at "pp";refine(dE fW mD (by rfl) T.ki iT ?_);walk_at "pp";refine(c9 (g:=(nR K 2 (cV (aM 4) (cV (aM 5) nr)))) O rfl (ni (by rfl) T.o_ ?_) ky (iN (n:=2) rfl (bC (a_ (i:=4) nd) (bC (a_ (i:=5) nd) gL))) iu ?_);walk_at "pp";refine(gc PySem.F.slot_str_join PySem.F.type_str_join gI gH ?_ ?_);walk_at "pp";refine(dh (cU (g:=(aM 0)) (ts:=["_law_notch"]) (fs:=[]) (js:=[]) (cl:=[]) rfl rfl rfl rfl rfl rfl .nil .nil (dq ?_) cz (λ_ _ _ _ _=>(a_ (i:=0) mV)) (λ_=>aX) aS (λ_ _ _ _ _=>?_)));walk_at "pp";refine(dE fW mD (by rfl) T.ki iT ?_);walk_at "pp";refine(dE fW mD (by rfl) T.ki iT ?_);walk_at "pp";refine(gc PySem.F.slot_str_join PySem.F.type_str_join gI gH ?_ ?_);walk_at "pp"
theorem jA:cB ["self", "sizes", "levers", "prices"] ["self", "sizes", "levers", "prices"] (aQ (inClass (top 20) 0)):=.of
theorem mf:((["lever"]:List Str)++(["sizes"]:List Str)).Nodup:=by decide +kernel
theorem oQ(F:bB K "__init__" "Vault.__init__" (inClass (top 20) 0) dv f fd)(T:Txt K mg)(KZ:e8 P w K mg base 3 "need_sizes" 1 (az 3 cA))(KJ:e8 P w K mg base 3 "need_levers" 2 (az 4 cJ))(L5:e8 P w K mg base 1 "rests" 2 (az 2 mq))(K0:e8 P w K mg base 3 "prices_for" 2 (az 3 dI))(KH:e8 P w K mg base 2 "multiple_of" 1 (az 3 eV)):aP P w K mg base (cu P w) 4 f fd ["self", "sizes", "levers", "prices"] (Fd 4 aw bA) :=
 F.JZ jA (by decide) λ_ _ _ _ _ _ hr O=>by
 unfold da;have:=jA.nd;have T2:=T;cases T2;walk_at "pp";refine(qf (i:=0) rfl (by first | exact .inl rfl | exact .inr (.inl rfl)) T.jZ T.gb ?_);walk_at "pp";refine(qf (i:=0) rfl (by first | exact .inl rfl | exact .inr (.inl rfl)) T.jZ T.dS ?_);walk_at "pp";refine(dh (cU (g:=(aM 0)) (ts:=["lever"]) (fs:=["sizes"]) (js:=[1]) rfl rfl rfl rfl rfl rfl (.cons rfl .nil) (.cons rfl rfl (by walk_at "l") rfl rfl .nil) (dq ?_) cz (λ_ _ _ _ _=>(a_ (i:=0) mf)) (λ_=>aX) aS (λ_ _ _ _ _=>?_)));walk_at "pp";refine(qf (i:=0) rfl (by first | exact .inl rfl | exact .inr (.inl rfl)) T.jZ T.fu ?_);walk_at "pp";refine(qf (i:=0) rfl (by first | exact .inl rfl | exact .inr (.inl rfl)) T.jZ T.fK ?_);walk_at "pp"
theorem nv(F:bB K "sizes" "Vault.sizes" (inClass (top 20) 1) dv f fd)(T:Txt K mg)  : aP P w K mg base (cu P w) 1 f fd ["self"] (fE 1 cb) :=
 F.iA ["self"] λnd _ _ _ _ _ _ hr O=>by
 unfold dm;walk_at "t";walk_at "pp"
theorem l7(F:bB K "levers" "Vault.levers" (inClass (top 20) 2) dv f fd)(T:Txt K mg)  : aP P w K mg base (cu P w) 1 f fd ["self"] (fE 1 bL) :=
 F.iA ["self"] λnd _ _ _ _ _ _ hr O=>by
 unfold cZ;walk_at "t";walk_at "pp"
theorem mh(F:bB K "prices" "Vault.prices" (inClass (top 20) 3) dv f fd)(T:Txt K mg)  : aP P w K mg base (cu P w) 1 f fd ["self"] (fE 1 cn) :=
 F.iA ["self"] λnd _ _ _ _ _ _ hr O=>by
 unfold dR;walk_at "t";walk_at "pp"
theorem kz:((["word"]:List Str)++([]:List Str)).Nodup:=by decide +kernel
theorem lY(F:bB K "read_numbers" "read_numbers" (top 35) dv f fd)(T:Txt K mg)(Ks:e8 P w K mg base 1 "need_text" 1 (az 1 dF))(KN:e8 P w K mg base 2 "read_number" 1 (az 2 e_)):aP P w K mg base (cu P w) 3 f fd ["text"] (fE 1 bM) :=
 F.iA ["text"] λnd _ _ _ _ _ _ hr O=>by
 unfold cY;walk_at "t";walk_at "pp";refine(dh (nX rfl rfl (λ_ _ z=>z.un) (g:=(aM 0)) (ts:=["word"]) (fs:=[]) (js:=[]) (cl:=[]) rfl rfl rfl rfl rfl rfl .nil .nil (dq ?_) cz (λ_ C s₀ H₀ ex J2=>(a_ (i:=0) kz)) (λ_=>aX) aS (λEx C s₀ H₀ ex J2 O2=>?_)));walk_at "pp";refine(gc PySem.F.slot_str_split PySem.F.type_str_split iP kB ?_ ?_);walk_at "pp"
theorem iB:((["lever", "price"]:List Str)++([]:List Str)).Nodup:=by decide +kernel
theorem oN(F:bB K "show_vault" "show_vault" (top 38) dv f fd)(T:Txt K mg)(Kg:ym P w K mg base aw 1 "prices" 1 (az 1 dR))(Kf:ym P w K mg base aw 1 "levers" 1 (az 1 cZ))(K3:e8 P w K mg base 2 "show_lever" 2 (az 2 f6))(Kl:ym P w K mg base aw 1 "sizes" 1 (az 1 dm))(Ki:e8 P w K mg base 1 "show_numbers" 1 (az 1 c5)):aP P w K mg base (cu P w) 3 f fd ["vault"] (fE 1 fN) :=
 F.iA ["vault", "levers"] λnd _ _ _ _ _ _ hr O=>by
 unfold fX;walk_at "t";walk_at "pp";refine(p5 (i:=1) (g:=(nR K 2 (cV (aM 0) (cV (aM 1) nr)))) (ts:=["lever", "price"]) (fs:=[]) (js:=[]) (cl:=[]) rfl rfl rfl rfl rfl rfl .nil .nil (ni (by rfl) T.o_ ?_) ky (λ_ _ _ _ _=>(iN (n:=2) rfl (bC (a_ (i:=0) iB) (bC (a_ (i:=1) iB) gL)))) (λ_=>iu) jQ (λ_ _ _ _ _=>?_) nd rfl (by walk_at "l"));walk_at "pp";refine(gc PySem.F.slot_str_join PySem.F.type_str_join gI gH ?_ ?_);walk_at "pp";exact(tf (by rfl) T.fG);walk_at "pp"
theorem oC(F:bB K "read_lever" "read_lever" (top 39) dv f fd)(T:Txt K mg)(Kh:e8 P w K mg base 3 "read_numbers" 1 (az 1 cY)):aP P w K mg base (cu P w) 4 f fd ["part"] (fE 1 dQ) :=
 F.iA ["part", "cut", "notches", "prices"] λnd _ _ _ _ _ _ hr O=>by
 unfold f9;walk_at "t";walk_at "pp";refine(gc PySem.F.slot_str_partition PySem.F.type_str_partition vn vb ?_ ?_);walk_at "pp";exact(tf (by rfl) T.eK);walk_at "pp"
theorem l8:((["part"]:List Str)++([]:List Str)).Nodup:=by decide +kernel
theorem mj:((["lever"]:List Str)++([]:List Str)).Nodup:=by decide +kernel
theorem lV:((["lever"]:List Str)++([]:List Str)).Nodup:=by decide +kernel
theorem ot(F:bB K "read_vault" "read_vault" (top 40) dv f fd)(T:Txt K mg)(Ks:e8 P w K mg base 1 "need_text" 1 (az 1 dF))(Kh:e8 P w K mg base 3 "read_numbers" 1 (az 1 cY))(K1:e8 P w K mg base 4 "read_lever" 1 (az 4 f9))(Kn:Ft P w K mg base aw 4 "Vault" 4 [] bA):aP P w K mg base (cu P w) 6 f fd ["text"] (fE 1 bb) :=
 F.iA ["text", "parts", "sizes", "priced"] λnd _ _ _ _ _ _ hr O=>by
 unfold dZ;walk_at "t";walk_at "pp";refine(gc PySem.F.slot_str_split PySem.F.type_str_split iP kB ?_ ?_);walk_at "pp";exact(tf (by rfl) T.fG);walk_at "pp";refine(zZ (i:=3) rfl rfl (λ_ _ z=>z.un) (g:=(aM 0)) (ts:=["part"]) (fs:=[]) (js:=[]) (cl:=[]) rfl rfl rfl rfl rfl rfl .nil .nil (dq ?_) cz (λ_ C s₀ H₀ ex J2=>(a_ (i:=0) l8)) (λ_=>aX) aS (λEx C s₀ H₀ ex J2 O2=>?_) nd rfl (by walk_at "l"));walk_at "pp";refine(eD ?_ (bW ?_) cD);walk_at "pp";refine(dh (nX rfl rfl (λ_ _ z=>z.un) (g:=(aM 0)) (ts:=["lever"]) (fs:=[]) (js:=[]) (cl:=[]) rfl rfl rfl rfl rfl rfl .nil .nil (dq ?_) cz (λ_ C s₀ H₀ ex J2=>(a_ (i:=0) lV)) (λ_=>aX) aS (λEx C s₀ H₀ ex J2 O2=>?_)));walk_at "pp";refine(dh (nX rfl rfl (λ_ _ z=>z.un) (g:=(aM 0)) (ts:=["lever"]) (fs:=[]) (js:=[]) (cl:=[]) rfl rfl rfl rfl rfl rfl .nil .nil (dq ?_) cz (λ_ C s₀ H₀ ex J2=>(a_ (i:=0) mj)) (λ_=>aX) aS (λEx C s₀ H₀ ex J2 O2=>?_)));walk_at "pp"
theorem qe(F:bB K "_law_read" "_law_read" (top 56) dv f fd)(T:Txt K mg)(K2:e8 P w K mg base 6 "read_vault" 1 (az 4 dZ))(Kg:ym P w K mg base aw 1 "prices" 1 (az 1 dR))(Kf:ym P w K mg base aw 1 "levers" 1 (az 1 cZ))(Kl:ym P w K mg base aw 1 "sizes" 1 (az 1 dm)):aP P w K mg base (cu P w) 7 f fd ["_law_thing"] (fE 1 aJ) :=
 F.iA ["_law_thing", "_law_found", "_law_caught", "e", "_law_flags"] λnd _ _ _ _ _ _ hr O=>by
 unfold bY;walk_at "t";walk_at "pp";refine(Ds rfl rfl (λpn E2 O2=>(Ew (i:=1) nd rfl (by walk_at "l") ?_)) (.Cv (i:=3) (by rfl) T.hX.mg (by decide) nd rfl rfl T.hX.ok (λea=>?_) .nil));walk_at "pp";refine(T.rB.is (by rfl) T.ay (by rfl) ?_);walk_at "pp";refine(T.pe.is (by rfl) T.ay (by rfl) ?_);walk_at "pp";refine(T.mQ.is (by rfl) T.ay (by rfl) ?_);walk_at "pp";refine(T.kW.is (by rfl) T.ay (by rfl) ?_);walk_at "pp";refine(T.kN.is (by rfl) T.ay (by rfl) ?_);walk_at "pp";refine(iD ?_ (gS ?_)).pt;walk_at "pp";refine(sj ?_ ?_);walk_at "pp";refine(kU ?_ );walk_at "pp";refine(jK ?_ (jN ?_));walk_at "pp";refine(sj ?_ ?_);walk_at "pp";refine(T.mQ.is (by rfl) T.ay (by rfl) ?_);walk_at "pp";refine(yX ?_ T.vW rfl);walk_at "pp";refine(T.kW.is (by rfl) T.ay (by rfl) ?_);walk_at "pp";refine(yX ?_ T.m7 rfl);walk_at "pp";refine(T.kN.is (by rfl) T.ay (by rfl) ?_);walk_at "pp";refine(yX ?_ T.m7 rfl);walk_at "pp"
theorem yf:((["_law_j"]:List Str)++(["_law_script"]:List Str)).Nodup:=by decide +kernel
theorem Af:((["_law_number_here"]:List Str)++([]:List Str)).Nodup:=by decide +kernel
theorem Ej(F:bB K "law" "law" (top 58) dv f fd)(T:Txt K mg)(Kq:e8 P w K mg base 1 "_law_cell" 2 (az 3 fw))(Kk:e8 P w K mg base 1 "_law_mix" 2 (az 3 eU))(KU:e8 P w K mg base 2 "_law_sizes" 1 (az 4 fL))(KA:e8 P w K mg base 3 "_law_levers" 4 (az 6 fc))(K9:e8 P w K mg base 1 "_law_text" 3 (az 7 gE))(Ko:e8 P w K mg base 1 "_law_rests" 2 (az 2 dW))(Kn:Ft P w K mg base aw 4 "Vault" 4 [] bA)(K4:e8 P w K mg base 3 "show_vault" 1 (az 2 fX))(K7:e8 P w K mg base 4 "_law_same" 2 (aH 4))(Ld:e8 P w K mg base 4 "_law_due" 1 (az 3 eJ))(K6:e8 P w K mg base 7 "_law_read" 1 (az 5 bY))(Kx:e8 P w K mg base 2 "_law_spoiled" 2 (az 6 dJ)):aP P w K mg base (cu P w) 8 f fd ["_law_script"] (fE 1 pN) :=
 F.iA ["_law_script", "_law_sizes_here", "_law_levers_here", "_law_numbers_here", "_law_prices", "_law_text_here", "_law_k", "_law_other", "_law_odd"] λnd _ _ _ _ _ _ hr O=>by
 unfold zj;walk_at "t";walk_at "pp";refine(p5 (i:=3) (g:=(aM 0)) (ts:=["_law_j"]) (fs:=["_law_script"]) (js:=[0]) rfl rfl rfl rfl rfl rfl (.cons rfl .nil) (.cons rfl rfl (by walk_at "l") rfl rfl .nil) (c_ (by rfl) T.fe ?_) eh (λ_ _ _ _ _=>(a_ (i:=0) yf)) (λ_=>aX) aS (λ_ _ _ _ _=>?_) nd rfl (by walk_at "l"));walk_at "pp";refine(p5 (i:=4) (g:=(aM 0)) (ts:=["_law_number_here"]) (fs:=[]) (js:=[]) (cl:=[]) rfl rfl rfl rfl rfl rfl .nil .nil (dq ?_) cz (λ_ _ _ _ _=>(a_ (i:=0) Af)) (λ_=>aX) aS (λ_ _ _ _ _=>?_) nd rfl (by walk_at "l"));walk_at "pp";refine(c9 (g:=(aM 6)) O rfl (c_ (by rfl) T.fe ?_) eh (a_ (i:=6) nd) aX ?_);walk_at "pp";exact EZ;walk_at "pp";refine(jK ?_ (jN ?_));walk_at "pp"
end tF
namespace tF
open PySem L2 PyProof.Rows
open PySem.W (nsIn findIn codeIn keepIn isFn mroIn specialIn takesIn hasDictIn typeIn plainGet plainOver makesIn mg_of mg_none_of fnOf excIn clsIn)
abbrev κ(w:World):PySem.W.Frag:=HD.K w.params
variable(w:World)
abbrev G8:Value:=HD.st "dialvault.wholes" 363
abbrev Bf:Value:=HD.st "dialvault.vault" 399
abbrev BF:Value:=HD.st "dialvault.texts" 514
abbrev sF:Value:=HD.st "law_dialvault_k16_vaults_as_texts" 589
abbrev HU:Value:=HD.st "dialvault.errors" 194
def cx:FuncData:=wF "_law_same" "_law_same" (top 44) sF 337
theorem bV:bB (κ w) "_law_same" "_law_same" (top 44) .none 338 cx:=.of (by kernel_rfl) (by kernel_rfl) (by kernel_rfl)
theorem fD:Binds (κ w) cx ["_law_found", "_law_due_here"] []:=Binds.all (Hb λ_ _=>rfl)
def gU:FuncData:=fnOf "__init__" "Vault.__init__" (gA (inClass (top 20) 0)) (dP (inClass (top 20) 0)) (aQ (inClass (top 20) 0)) (.ref 191) .none .none Bf none (.ref 195) .none
theorem kf:bB (κ w) "__init__" "Vault.__init__" (inClass (top 20) 0) (.ref 191) 196 gU:=.of (by kernel_rfl) (by kernel_rfl) (by kernel_rfl)
def uu:FuncData:=wF "law" "law" (top 58) sF 421
theorem FF:bB (κ w) "law" "law" (top 58) .none 422 uu:=.of (by kernel_rfl) (by kernel_rfl) (by kernel_rfl)
theorem f_:ez (κ w) aL:=⟨(by kernel_rfl),(by kernel_rfl),(by kernel_rfl),(by kernel_rfl),(by kernel_rfl),(by kernel_rfl),(by kernel_rfl),(by kernel_rfl),(by kernel_rfl)⟩
theorem eQ:ez (κ w) bj:=⟨(by kernel_rfl),(by kernel_rfl),(by kernel_rfl),(by kernel_rfl),(by kernel_rfl),(by kernel_rfl),(by kernel_rfl),(by kernel_rfl),(by kernel_rfl)⟩
theorem dC:ez (κ w) br:=⟨(by kernel_rfl),(by kernel_rfl),(by kernel_rfl),(by kernel_rfl),(by kernel_rfl),(by kernel_rfl),(by kernel_rfl),(by kernel_rfl),(by kernel_rfl)⟩
def gB:FuncData:=wF "__init__" "NoDial.__init__" (inClass (top 3) 0) HU 54
theorem Iz:(κ w).lookup 55=some ⟨.type "function", none,.func gB,⟨[]⟩⟩:=by kernel_rfl
theorem IL:codeIn (κ w) (.ref 54) "NoDial.__init__" = true:=by kernel_rfl
theorem uv:Binds (κ w) gB ["self", "dial"] []:=Binds.all (Hb λ_ _=>rfl)
theorem uS:cB ["self", "dial"] ["self", "dial"] (aQ (inClass (top 3) 0)):=.of
theorem ID:((clsIn (κ w) 65).any λcd=>fV cd.mro)=true:=by kernel_rfl
theorem HN:findIn (κ w) (.ref 65) "dial" = some none:=by kernel_rfl
theorem t5{P:Program}{w:World}{mg:Str->Option Value}{base:Heap}:aP P w (κ w) mg base (cu P w) 1 55 gB ["self", "dial"] (wy (κ w) br "dial") :=
 nq (n0 := "self") (n1 := "dial") (fl := "dial") (Iz w) (IL w) uS (dC w) (ID w) (HN w) (by first | exact .inl rfl | exact .inr (.inl rfl)) (by first | exact .inl rfl | exact .inr (.inl rfl)) (by decide) (by decide) (by decide) (by decide) (λ_=>rfl)
theorem cW:ez (κ w) aZ:=⟨(by kernel_rfl),(by kernel_rfl),(by kernel_rfl),(by kernel_rfl),(by kernel_rfl),(by kernel_rfl),(by kernel_rfl),(by kernel_rfl),(by kernel_rfl)⟩
def fQ:FuncData:=wF "__init__" "NoLever.__init__" (inClass (top 4) 0) HU 80
theorem Hm:(κ w).lookup 81=some ⟨.type "function", none,.func fQ,⟨[]⟩⟩:=by kernel_rfl
theorem HP:codeIn (κ w) (.ref 80) "NoLever.__init__" = true:=by kernel_rfl
theorem sU:Binds (κ w) fQ ["self", "lever"] []:=Binds.all (Hb λ_ _=>rfl)
theorem sH:cB ["self", "lever"] ["self", "lever"] (aQ (inClass (top 4) 0)):=.of
theorem I0:((clsIn (κ w) 91).any λcd=>fV cd.mro)=true:=by kernel_rfl
theorem Ik:findIn (κ w) (.ref 91) "lever" = some none:=by kernel_rfl
theorem sS{P:Program}{w:World}{mg:Str->Option Value}{base:Heap}:aP P w (κ w) mg base (cu P w) 1 81 fQ ["self", "lever"] (wy (κ w) aZ "lever") :=
 nq (n0 := "self") (n1 := "lever") (fl := "lever") (Hm w) (HP w) sH (cW w) (I0 w) (Ik w) (by first | exact .inl rfl | exact .inr (.inl rfl)) (by first | exact .inl rfl | exact .inr (.inl rfl)) (by decide) (by decide) (by decide) (by decide) (λ_=>rfl)
theorem cQ:ez (κ w) aW:=⟨(by kernel_rfl),(by kernel_rfl),(by kernel_rfl),(by kernel_rfl),(by kernel_rfl),(by kernel_rfl),(by kernel_rfl),(by kernel_rfl),(by kernel_rfl)⟩
def fP:FuncData:=wF "__init__" "NoPrice.__init__" (inClass (top 5) 0) HU 106
theorem Hv:(κ w).lookup 107=some ⟨.type "function", none,.func fP,⟨[]⟩⟩:=by kernel_rfl
theorem Hq:codeIn (κ w) (.ref 106) "NoPrice.__init__" = true:=by kernel_rfl
theorem rF:Binds (κ w) fP ["self", "lever"] []:=Binds.all (Hb λ_ _=>rfl)
theorem rC:cB ["self", "lever"] ["self", "lever"] (aQ (inClass (top 5) 0)):=.of
theorem IX:((clsIn (κ w) 117).any λcd=>fV cd.mro)=true:=by kernel_rfl
theorem Jn:findIn (κ w) (.ref 117) "lever" = some none:=by kernel_rfl
theorem rE{P:Program}{w:World}{mg:Str->Option Value}{base:Heap}:aP P w (κ w) mg base (cu P w) 1 107 fP ["self", "lever"] (wy (κ w) aW "lever") :=
 nq (n0 := "self") (n1 := "lever") (fl := "lever") (Hv w) (Hq w) rC (cQ w) (IX w) (Jn w) (by first | exact .inl rfl | exact .inr (.inl rfl)) (by first | exact .inl rfl | exact .inr (.inl rfl)) (by decide) (by decide) (by decide) (by decide) (λ_=>rfl)
theorem fj:oU (κ w) aw:=⟨(by kernel_rfl),(by kernel_rfl),(by kernel_rfl),(by kernel_rfl)⟩
theorem Gf:findIn (κ w) (.ref 227) "dial_sizes" = some none:=by kernel_rfl
theorem Gp:findIn (κ w) (.ref 227) "least_round" = some none:=by kernel_rfl
theorem GV:findIn (κ w) (.ref 227) "lever_prices" = some none:=by kernel_rfl
theorem F_:findIn (κ w) (.ref 227) "lever_settings" = some none:=by kernel_rfl
theorem HC:nsIn (κ w) mainGlobals "AHEAD_OF_PRICE" = some (some (.str " : " 522)):=by kernel_rfl
theorem Iy:nsIn (κ w) mainGlobals "BETWEEN_PARTS" = some (some (.str "; " 520)):=by kernel_rfl
theorem Iv:nsIn (κ w) mainGlobals "FIGURES" = some (some (.str "0123456789" 516)):=by kernel_rfl
theorem HX:nsIn (κ w) mainGlobals "LEAST_PRICE" = some (some (.int 1 409)):=by kernel_rfl
theorem Ii:nsIn (κ w) mainGlobals "LEAST_SIZE" = some (some (.int 2 403)):=by kernel_rfl
theorem HB:nsIn (κ w) mainGlobals "MOST_DIALS" = some (some (.int 6 401)):=by kernel_rfl
theorem Ir:nsIn (κ w) mainGlobals "MOST_FIGURES" = some (some (.int 30 518)):=by kernel_rfl
theorem Ho:nsIn (κ w) mainGlobals "MOST_LEVERS" = some (some (.int 8 407)):=by kernel_rfl
theorem Ib:nsIn (κ w) mainGlobals "MOST_PRICE" = some (some (.int 1000 411)):=by kernel_rfl
theorem HI:nsIn (κ w) mainGlobals "MOST_SIZE" = some (some (.int 360 405)):=by kernel_rfl
theorem HZ:nsIn (κ w) mainGlobals "PLAIN_PRICE" = some (some (.int 1 524)):=by kernel_rfl
theorem Jm:nsIn (κ w) mainGlobals "VaultError" = some (some (.ref 38)):=by kernel_rfl
theorem IQ:tD (λC=>PySem.W.exmOne (κ w) (.ref C) (.ref j7)) gT gN=true:=by kernel_rfl
theorem Hk:nsIn (κ w) mainGlobals "NoDial" = some (some (.ref 65)):=by kernel_rfl
theorem Hu:(uB.all λa=>PySem.W.kitOne (κ w) (.type a) (.ref br)==some false)=true:=by kernel_rfl
theorem Jq:tD (λC=>PySem.W.kitOne (κ w) (.ref C) (.ref br)) jf i7=true:=by kernel_rfl
theorem HG:tD (λC=>PySem.W.kitOne (κ w) (.ref C) (.ref br)) jd ja=true:=by kernel_rfl
theorem Iq:nsIn (κ w) mainGlobals "NoLever" = some (some (.ref 91)):=by kernel_rfl
theorem Jr:(uB.all λa=>PySem.W.kitOne (κ w) (.type a) (.ref aZ)==some false)=true:=by kernel_rfl
theorem IB:tD (λC=>PySem.W.kitOne (κ w) (.ref C) (.ref aZ)) ij ir=true:=by kernel_rfl
theorem IK:tD (λC=>PySem.W.kitOne (κ w) (.ref C) (.ref aZ)) ia h_=true:=by kernel_rfl
theorem Hy:nsIn (κ w) mainGlobals "NoPrice" = some (some (.ref 117)):=by kernel_rfl
theorem IA:(uB.all λa=>PySem.W.kitOne (κ w) (.type a) (.ref aW)==some false)=true:=by kernel_rfl
theorem HM:tD (λC=>PySem.W.kitOne (κ w) (.ref C) (.ref aW)) hV ig=true:=by kernel_rfl
theorem Jj:tD (λC=>PySem.W.kitOne (κ w) (.ref C) (.ref aW)) iy hZ=true:=by kernel_rfl
theorem Iu:nsIn (κ w) mainGlobals "NoText" = some (some (.ref 155)):=by kernel_rfl
theorem HJ:(uB.all λa=>PySem.W.kitOne (κ w) (.type a) (.ref aL)==some false)=true:=by kernel_rfl
theorem Hi:tD (λC=>PySem.W.kitOne (κ w) (.ref C) (.ref aL)) k_ kS=true:=by kernel_rfl
theorem IC:tD (λC=>PySem.W.kitOne (κ w) (.ref C) (.ref aL)) lx lg=true:=by kernel_rfl
theorem Jl:nsIn (κ w) mainGlobals "TooMany" = some (some (.ref 136)):=by kernel_rfl
theorem Jh:(uB.all λa=>PySem.W.kitOne (κ w) (.type a) (.ref bj)==some false)=true:=by kernel_rfl
theorem Hj:tD (λC=>PySem.W.kitOne (κ w) (.ref C) (.ref bj)) jG jO=true:=by kernel_rfl
theorem IH:tD (λC=>PySem.W.kitOne (κ w) (.ref C) (.ref bj)) jD jL=true:=by kernel_rfl
theorem IJ:findIn (κ w) (.ref br) "dial" = some none:=by kernel_rfl
theorem Jg:findIn (κ w) (.ref aW) "lever" = some none:=by kernel_rfl
theorem Ia:findIn (κ w) (.ref aZ) "lever" = some none:=by kernel_rfl
theorem zA:nsIn (κ w) mainGlobals "_law_same" = some (some (.ref 338)):=by kernel_rfl
theorem IT:(κ w).lookup 191=some (HD.tu [.none]):=by kernel_rfl
theorem qa:Binds (κ w) gU ["self", "sizes", "levers", "prices"] []:=(kf w).binds (IT w) rfl λ_ _ _ _ _ _ us hl=>by obtain⟨a,b,c,d,rfl⟩:=JL (show _=4 from (by simpa using hl));exact⟨_,rfl,rfl⟩
variable{h:Heap}
theorem txt{w:World}{mg:Str->Option Value}(X:PySem.W.Frag.In (κ w) h)(G:h.Ns mainGlobals mg):Txt (κ w) mg where
 GG:=mg_none_of X G (by kernel_rfl)
 uK:=mg_none_of X G (by kernel_rfl)
 iM:=mg_none_of X G (by kernel_rfl)
 sV:=mg_none_of X G (by kernel_rfl)
 ay:=mg_none_of X G (by kernel_rfl)
 FH:=mg_none_of X G (by kernel_rfl)
 kJ:=mg_none_of X G (by kernel_rfl)
 xP:=mg_none_of X G (by kernel_rfl)
 fe:=mg_none_of X G (by kernel_rfl)
 ki:=mg_none_of X G (by kernel_rfl)
 mw:=mg_none_of X G (by kernel_rfl)
 o_:=mg_none_of X G (by kernel_rfl)
 eK:=⟨_,mg_of X G (HC w),⟨_,rfl⟩⟩
 fG:=⟨_,mg_of X G (Iy w),⟨_,rfl⟩⟩
 pH:=⟨_,mg_of X G (Iv w),⟨_,rfl⟩⟩
 oG:=⟨_,mg_of X G (HX w),⟨_,rfl⟩⟩
 p7:=⟨_,mg_of X G (Ii w),⟨_,rfl⟩⟩
 qt:=⟨_,mg_of X G (HB w),⟨_,rfl⟩⟩
 nN:=⟨_,mg_of X G (Ir w),⟨_,rfl⟩⟩
 oy:=⟨_,mg_of X G (Ho w),⟨_,rfl⟩⟩
 qv:=⟨_,mg_of X G (Ib w),⟨_,rfl⟩⟩
 tj:=⟨_,mg_of X G (HI w),⟨_,rfl⟩⟩
 oq:=⟨_,mg_of X G (HZ w),⟨_,rfl⟩⟩
 jZ:=fj w
 Al:=⟨(by kernel_rfl),f_ w,(by kernel_rfl),(by kernel_rfl),mg_of X G (by kernel_rfl)⟩
 xi:=⟨(by kernel_rfl),eQ w,(by kernel_rfl),(by kernel_rfl),mg_of X G (by kernel_rfl)⟩
 hX:=.of (mg_of X G (Jm w)) (IQ w)
 mQ:=.of (mg_of X G (Hk w)) (Hu w) (Jq w) (HG w) gv gv (kG (dC w) gv) (kG (cW w) (kG (cQ w) (kG (f_ w) (kG (eQ w) gv))))
 kW:=.of (mg_of X G (Iq w)) (Jr w) (IB w) (IK w) gv gv (kG (cW w) gv) (kG (dC w) (kG (cQ w) (kG (f_ w) (kG (eQ w) gv))))
 kN:=.of (mg_of X G (Hy w)) (IA w) (HM w) (Jj w) gv gv (kG (cQ w) gv) (kG (dC w) (kG (cW w) (kG (f_ w) (kG (eQ w) gv))))
 rB:=.of (mg_of X G (Iu w)) (HJ w) (Hi w) (IC w) gv gv (kG (f_ w) gv) (kG (dC w) (kG (cW w) (kG (cQ w) (kG (eQ w) gv))))
 pe:=.of (mg_of X G (Jl w)) (Jh w) (Hj w) (IH w) gv gv (kG (eQ w) gv) (kG (dC w) (kG (cW w) (kG (cQ w) (kG (f_ w) gv))))
 vW:=(kG ⟨dC w,(IJ w)⟩ gv)
 m7:=(kG ⟨cW w,(Ia w)⟩ (kG ⟨cQ w,(Jg w)⟩ gv))
 gb:=(Gf w)
 fK:=(Gp w)
 fu:=(GV w)
 dS:=(F_ w)
 qQ:=λC h=>by obtain rfl:=eq_of_beq h;exact⟨fj w,(Gf w)⟩
 oE:=λC h=>by obtain rfl:=eq_of_beq h;exact⟨fj w,(Gp w)⟩
 nB:=λC h=>by obtain rfl:=eq_of_beq h;exact⟨fj w,(GV w)⟩
 ly:=λC h=>by obtain rfl:=eq_of_beq h;exact⟨fj w,(F_ w)⟩
theorem D8{P:Program}{w:World}{mg:Str->Option Value}(X:PySem.W.Frag.In (κ w) h)(G:h.Ns mainGlobals mg)(base:Heap):aP P w (κ w) mg base (cu P w) 8 422 uu ["_law_script"] (fE 1 pN):=by
 have T:=txt X G;have LP:pU P w (κ w) mg base br "NoDial" "dial" := ⟨⟨55,gB,["self", "dial"],(by kernel_rfl),(by kernel_rfl),t5,uv w⟩,dC w,(by kernel_rfl),(by kernel_rfl),mg_of X G (by kernel_rfl)⟩
 have LC:pU P w (κ w) mg base aZ "NoLever" "lever" := ⟨⟨81,fQ,["self", "lever"],(by kernel_rfl),(by kernel_rfl),sS,sU w⟩,cW w,(by kernel_rfl),(by kernel_rfl),mg_of X G (by kernel_rfl)⟩
 have LD:pU P w (κ w) mg base aW "NoPrice" "lever" := ⟨⟨107,fP,["self", "lever"],(by kernel_rfl),(by kernel_rfl),rE,rF w⟩,cQ w,(by kernel_rfl),(by kernel_rfl),mg_of X G (by kernel_rfl)⟩
 have Ku:=ji P w base X G 164 163 G8 λD=>sZ D T;have LN:=ji P w base X G 169 168 G8 λD=>xb D T Ku;have LM:=ji P w base X G 176 175 G8 λD=>w6 D T;have KH:=ji P w base X G 183 182 G8 λD=>mJ D T LM;have Kr:=ji P w base X G 238 237 Bf λD=>pZ D T Ku;have KZ:=ji P w base X G 245 244 Bf λD=>oo D T LP Kr;have KJ:=ji P w base X G 252 251 Bf λD=>mM D T LN LC;have K0:=ji P w base X G 259 258 Bf λD=>n8 D T LD Kr;have L5:=ji P w base X G 264 263 Bf λD=>yC D T;have Ki:=ji P w base X G 269 268 BF λD=>mi D T;have KY:=ji P w base X G 274 273 BF λD=>oV D T;have KN:=ji P w base X G 281 280 BF λD=>mO D T KY;have Ks:=ji P w base X G 293 292 BF λD=>qJ D T;have K3:=ji P w base X G 300 299 BF λD=>oF D T Ki;have Kq:=ji P w base X G 324 323 sF λD=>qP D T;have Kk:=ji P w base X G 331 330 sF λD=>tq D T;have Ln:e8 P w (κ w) mg base 0 "_law_same" 2 (aH 0):=⟨⟨338,cx,["_law_found", "_law_due_here"],mg_of X G (zA w),(bV w).kp,rfl,fD w,aP.no⟩⟩
 have Lq:e8 P w (κ w) mg base 1 "_law_same" 2 (aH 1):=⟨⟨338,cx,["_law_found", "_law_due_here"],mg_of X G (zA w),(bV w).kp,rfl,fD w,fR (bV w) T Ln (by lia) ⟩⟩
 have Lr:e8 P w (κ w) mg base 2 "_law_same" 2 (aH 2):=⟨⟨338,cx,["_law_found", "_law_due_here"],mg_of X G (zA w),(bV w).kp,rfl,fD w,fR (bV w) T Lq (by lia) ⟩⟩
 have Lu:e8 P w (κ w) mg base 3 "_law_same" 2 (aH 3):=⟨⟨338,cx,["_law_found", "_law_due_here"],mg_of X G (zA w),(bV w).kp,rfl,fD w,fR (bV w) T Lr (by lia) ⟩⟩
 have K7:e8 P w (κ w) mg base 4 "_law_same" 2 (aH 4):=⟨⟨338,cx,["_law_found", "_law_due_here"],mg_of X G (zA w),(bV w).kp,rfl,fD w,fR (bV w) T Lu (by lia) ⟩⟩
 have KC:=ji P w base X G 345 344 sF λD=>ng D T Kk;have KU:=ji P w base X G 352 351 sF λD=>oK D T Kk;have KA:=ji P w base X G 357 356 sF λD=>nF D T Kq KC;have K8:=ji P w base X G 364 363 sF λD=>qw D T;have Kx:=ji P w base X G 371 370 sF λD=>lW D T K8;have Kc:=ji P w base X G 376 375 sF λD=>j_ D T;have Kw:=ji P w base X G 381 380 sF λD=>l9 D T Kc;have KD:=ji P w base X G 386 385 sF λD=>mS D T Kw Kc;have KW:=ji P w base X G 393 392 sF λD=>oJ D T;have Ko:=ji P w base X G 398 397 sF λD=>oS D T;have Ld:=ji P w base X G 405 404 sF λD=>sR D T KD KW Ko;have K9:=ji P w base X G 417 416 sF λD=>qy D T;have Kn:Ft P w (κ w) mg base aw 4 "Vault" 4 [] bA:=⟨⟨196,gU,["self", "sizes", "levers", "prices"],[],[],mg_of X G (by kernel_rfl),⟨(by kernel_rfl),(by kernel_rfl),(by kernel_rfl),(by kernel_rfl)⟩,qa w,.nil,λ_=>.nil,oQ (kf w) T KZ KJ L5 K0 KH⟩⟩
 have Kl:=Ic P w base (fj w) 203 202 Bf λD=>nv D T;have Kf:=Ic P w base (fj w) 210 209 Bf λD=>l7 D T;have Kg:=Ic P w base (fj w) 217 216 Bf λD=>mh D T;have Kh:=ji P w base X G 286 285 BF λD=>lY D T Ks KN;have K4:=ji P w base X G 305 304 BF λD=>oN D T Kg Kf K3 Kl Ki;have K1:=ji P w base X G 312 311 BF λD=>oC D T Kh;have K2:=ji P w base X G 317 316 BF λD=>ot D T Ks Kh K1 Kn;have K6:=ji P w base X G 412 411 sF λD=>qe D T K2 Kg Kf Kl;exact Ej (FF w) T Kq Kk KU KA K9 Ko Kn K4 K7 Ld K6 Kx
theorem HQ:vX (κ w)=true:=by kernel_rfl
theorem HK:nsIn (κ w) mainGlobals "law" = some (some (.ref 422)):=by kernel_rfl
end tF
open PySem PySem.W
theorem tF.hold(said:PySem.Challenge.rw_dialvault_k16_vaults_as_texts.wellSaid=true)(MN:∀ ns:List Int,ns.length<=63->(∀ i∈ns,QX i<=1048576)->tF.pN [.gX (ns.map L2.PV.int)]=L2.M.ok (.bl true)):PySem.Challenge.rw_dialvault_k16_vaults_as_texts.Holds:=by
 refine holds_law said λsaid=>?_;refine holds_open (q:=HD.vw) (loose:=HD.loose) (Xt:=HD.Xt) (XP:=XL HD.vw []) (Yf:=Hook.obs HD.hook) (Ya:=Hook.val HD.hook) (YP:=Hook.says HD.hook) HD.Gg (Hook.of HD.hook) (Hook.keeps HD.hook) (λs e=>xl_of s (Pz.mp e).1) XL.keeps (by rfl) (by rfl) (by rfl) (λs e=>recFacts_of (Pz.mp e).2) (by rfl) said (by decide +kernel) ⟨rfl,rfl,rfl,rfl,rfl,by decide +kernel⟩ ?hw ?hc
 case hw=>w_witness2
 refine L2.uA (l:=PySem.Challenge.rw_dialvault_k16_vaults_as_texts) (n:=63) (k:=8) (x := "_law_script") (K:=HD.K) (sem:=tF.pN) rfl (by decide) rfl ⟨rfl,by decide,by decide⟩ (λw h Y=>PySem.W.kIn_of Y) (λw=>tF.HQ w) (λw mg fa h X G hmg=>?_) MN;have e:=hmg.symm.trans (PySem.W.mg_of X G (tF.HK w));cases e;exact⟨tF.uu,λs v=>.of_eq rfl,λbase X' G'=>tF.D8 X' G' base⟩
namespace Eu
theorem oZ(a b:Int)(hb:b≠0):(a-a.fdiv b*b).natAbs<b.natAbs/\0<=(a-a.fdiv b*b)*b/\(0<=a*b->a.natAbs=(a.fdiv b).natAbs*b.natAbs+(a-a.fdiv b*b).natAbs):=by
 have pos:∀ (a b:Int),0<b->(a-a/b*b).natAbs<b.natAbs/\0<=(a-a/b*b)*b/\(0<=a*b->a.natAbs=(a/b).natAbs*b.natAbs+(a-a/b*b).natAbs):=by
  intro a b hb;have e:a-a/b*b=a%b:=by
   have h:=RW a b;rw[Int.mul_comm] at h;lia
  have h0:=OF a (by lia:b≠0);have h1:=Ol a hb;rw[e];refine⟨by lia,Tj h0 (by lia),λhab=>?_⟩;have ha:0<=a:=by
   rcases Int.lt_or_le a 0 with h | h
   .have:=Int.mul_neg_of_neg_of_pos h hb;lia
   .exact h
  have hq:0<=a/b:=Tf ha (by lia);have h2:=RW a b;have h3:((a/b).natAbs*b.natAbs:Nat)=(b*(a/b)).natAbs:=by
   rw[QB,QZ]
  rw[h3];have h4:0<=b*(a/b):=Tj (by lia) hq;lia
 rcases Int.lt_or_le 0 b with h | h
 .rw[P7 a (by lia)];exact pos a b h
 .have h':0 < -b:=by lia
  have e:a.fdiv b=(-a)/(-b):=by
   rw[<- P7 (-a) (by lia:0<=-b),Int.neg_fdiv_neg]
  obtain⟨p1,p2,p3⟩:=pos (-a) (-b) h';have e2:-a-(-a)/(-b)*(-b)=-(a-a.fdiv b*b):=by
   rw[<- e,Int.mul_neg];lia
  rw[e2] at p1 p2 p3;rw[<- e] at p3;simp only[R7,Int.neg_mul_neg] at p1 p2 p3;exact⟨p1,p2,p3⟩
structure St (a b:Int) (r s t r' s' t':Int):Prop where
 c0:r=s*a+t*b
 c1:r'=s'*a+t'*b
 dv:∀ d:Int,d∣r->d∣r'->d∣a/\d∣b
 bd:s'.natAbs*r.natAbs+s.natAbs*r'.natAbs<=b.natAbs
 sg:s'=0\/0<=r*r'
 b0:s.natAbs<=b.natAbs+1
 b1:s'.natAbs<=b.natAbs+1
 d0:t.natAbs<=a.natAbs+(b.natAbs+1)*a.natAbs+b.natAbs+1
 d1:t'.natAbs<=a.natAbs+(b.natAbs+1)*a.natAbs+b.natAbs+1
 m0:r.natAbs<=a.natAbs+b.natAbs
 m1:r'.natAbs<=b.natAbs
theorem start(a b:Int):St a b a 1 0 b 0 1 where
 c0:=by lia
 c1:=by lia
 dv:=λd h1 h2=>⟨h1,h2⟩
 bd:=by simp
 sg:=.inl rfl
 b0:=by lia
 b1:=by lia
 d0:=by simp
 d1:=by lia
 m0:=by lia
 m1:=by lia
theorem turn{a b r s t r' s' t':Int}(h:St a b r s t r' s' t')(h0:r'≠0) :
  St a b r' s' t' (r-r.fdiv r'*r') (s-r.fdiv r'*s') (t-r.fdiv r'*t')/\(r-r.fdiv r'*r').natAbs<r'.natAbs:=by
 obtain⟨f1,f2,f3⟩:=oZ r r' h0;generalize hq:r.fdiv r'=q at *;have hb:b≠0:=by
  intro z;have:=h.m1;lia
 have MM:1<=r'.natAbs:=by lia
 have M4:r-q*r'=(s-q*s')*a+(t-q*t')*b:=by
  rw[h.c0,h.c1,Int.sub_mul,Int.sub_mul,Int.mul_add,Tr,Tr];lia
 have bd':(s-q*s').natAbs*r'.natAbs+s'.natAbs*(r-q*r').natAbs<=b.natAbs:=by
  have G7:(s-q*s').natAbs<=s.natAbs+q.natAbs*s'.natAbs:=by
   rw[<- QB];lia
  have hbd:=h.bd;rcases h.sg with z | z
  .subst z;simp only[Int.mul_zero,Int.sub_zero,Int.natAbs_zero,Nat.zero_mul,SN,Nat.add_zero] at hbd ⊢;exact hbd
  .have e:=f3 z;have k1:(s-q*s').natAbs*r'.natAbs<=(s.natAbs+q.natAbs*s'.natAbs)*r'.natAbs:=QL _ G7;have k2:(s.natAbs+q.natAbs*s'.natAbs)*r'.natAbs+s'.natAbs*(r-q*r').natAbs=s'.natAbs*r.natAbs+s.natAbs*r'.natAbs:=by
    rw[e,Nat.add_mul,Nat.mul_add,QZ q.natAbs s'.natAbs,Nat.mul_assoc];lia
   lia
 have b1':(s-q*s').natAbs<=b.natAbs:=by
  have:(s-q*s').natAbs*1<=(s-q*s').natAbs*r'.natAbs:=Qd _ MM;lia
 have mm:(r-q*r').natAbs<=b.natAbs:=by
  have:=h.m1;lia
 have d1':(t-q*t').natAbs<=a.natAbs+(b.natAbs+1)*a.natAbs+b.natAbs+1:=by
  have e:(t-q*t')*b=(r-q*r')-(s-q*s')*a:=by lia
  have e1:((t-q*t')*b).natAbs<=(r-q*r').natAbs+((s-q*s')*a).natAbs:=by lia
  rw[QB,QB] at e1;have k1:(t-q*t').natAbs*1<=(t-q*t').natAbs*b.natAbs:=Qd _ (by lia);have k2:(s-q*s').natAbs*a.natAbs<=(b.natAbs+1)*a.natAbs:=QL _ (by lia);lia
 refine⟨⟨h.c1,M4,λd e1 e2=>?_,bd',?_,h.b1,by lia,h.d1,d1',?_,mm⟩,f1⟩
 .refine h.dv d ?_ e1;have e3:d∣q*r':=Sk e1 (Rx _ _);have e4:=Int.dvd_add e2 e3
  rwa [Int.sub_add_cancel] at e4
 .exact .inr (by rw[Int.mul_comm];exact f2)
 .have:=h.m1;lia
theorem done{a b r s t s' t':Int}(h:St a b r s t 0 s' t'):r∣a/\r∣b:=h.dv r (Int.dvd_refl r) (Int.dvd_zero r)
end Eu
namespace Lc
def FI(ns:List Nat):Nat:=ns.foldl RK 1
theorem zD(m n:Nat):m/Nat.gcd m n*n=RK m n:=by
 unfold RK;rw[Nat.div_mul_right_comm (Nat.gcd_dvd_left m n)]
end Lc
namespace Rg
variable{D:Nat->Vec}{s:Vec}{n:Nat}
section
variable{D' L:Nat->Vec}{u v g:Nat->Int}
end
section
variable{D':Nat->Vec}
variable{f:Nat}{W:Nat->Vec}
end
end Rg
namespace tF
open PySem L2 PyProof.Rows Rg
local macro_rules | `(tactic| dsimp? [$ts,*])=>`(tactic| simp only[cI,bq,az,bQ,ak,m_,rf,retS,bc,oj,mX,dG,aj,M.aA,M.bind_some,M.bind_none,M.Ad,M.bind_assoc,af,ai,ah,aa,ao,AF,BL,DS,CS,En,Ez,EJ,DF,C9,EH,Ey,EN,Fc,Dy,E6,C_,bJ,iG,DW,va,AD,p_,IF,xG,ub,GR,iZ,BM,itemsOf,oH,BP,BH,w4,qj,BA,xU,y8,za,BG,Bm,zi,yL,Ah,cP,eM,GJ,Em,List.length_cons,List.length_nil,List.map_cons,List.map_nil,List.cons_append,List.nil_append,List.replicate,List.getElem?_cons_zero,List.getElem?_cons_succ,List.getElem?_nil,List.set_cons_zero,List.set_cons_succ,List.set_nil,Nat.reduceAdd,Nat.reduceSub,if_true,if_false,Bool.not_true,Bool.not_false,Bool.false_eq_true,ite_true,ite_false,reduceIte,reduceCtorEq,Nat.sub_self,i4,ck,cF,Option.map_some,Option.map_none,lu,Fe,Ee,BK,Ax,Bz,Ep,AN,Bu,Bw,hU,List.any_cons,List.any_nil,String.reduceBEq,Bool.or_false,Bool.or_true,Bool.true_or,Bool.false_or,Bool.and_true,Bool.and_false,Bool.true_and,Bool.false_and,BI,AB,CT,EY,Bh,A3,Bp,AR,xY,zt,jE,qd,List.foldl_cons,List.foldl_nil,sM,aq trivial,$(⟨ts.elemsAndSeps⟩),*])
variable{a b:Str}
theorem h9(h:a.cps.toList=b.cps.toList):a=b:=by
 cases a;cases b;simp only[Str.mk.injEq];exact Array.toList_inj.mp h
theorem len_list(a:Str):a.cps.toList.length=a.length:=Qa
def Sv(a:Str):Prop:=∀ c∈a.cps.toList,c<0x110000
theorem Sv.ok(h:Sv a):SO a=true:=by
 unfold SO;rw[Array.all_eq_true];intro i hi;exact decide_eq_true (h _ (Array.getElem_mem_toList hi))
theorem Sv.shaped{a:Str}(h:Sv a):OY (.str a)=true:=by simp[OY,OA,OM,h.ok]
theorem vI(a b:Str):(a==b)=decide (a=b):=by by_cases h:a=b <;> simp[h]
theorem fY(ha:Sv a)(hb:Sv b):gu (.str a) (.str b)=M.ok (.bl (decide (a=b))):=by
 unfold gu kD dat;show (wW (.str a) (.str b)).bind _=_;unfold wW;rw[aq ⟨ha.shaped,hb.shaped,rfl⟩];show M.ok (PV.bl (a==b))=_;rw[vI]
theorem qN(ha:Sv a)(hb:Sv b):oR (.str a) (.str b)=M.ok (.bl (!decide (a=b))):=by
 unfold oR kD dat;show (wW (.str a) (.str b)).bind _=_;unfold wW;rw[aq ⟨ha.shaped,hb.shaped,rfl⟩];show M.ok (PV.bl (!(a==b)))=_;rw[vI]
def fg(c:Nat):Bool:=decide (48<=c/\c<=57)
theorem An:(NC "0123456789").cps.toList=[48,49,50,51,52,53,54,55,56,57]:=by decide +kernel
theorem vp(c:Nat):BO ⟨#[c]⟩ (NC "0123456789")=fg c:=by
 unfold BO fg;rw[StrLaws.found_one,An]
 by_cases h:48<=c/\c<=57
 .rw[decide_eq_true h,decide_eq_true_eq];simp only[NU,P8,or_false];lia
 .rw[decide_eq_false h,decide_eq_false_iff_not];simp only[NU,P8,or_false];rintro(rfl | rfl | rfl | rfl | rfl | rfl | rfl | rfl | rfl | rfl) <;> exact h (by decide)
theorem rQ(a:Str)(i j:Nat)(h1:i<=j)(h2:j<=a.length):eI a (some (i:Int)) (some (j:Int))=⟨((a.cps.toList.drop i).take (j-i)).toArray⟩:=by
 unfold eI;rw[StrLaws.sliced_plain a h1 h2,StrLaws.strSliceIndices_plain h1 h2];simp only[ND,Rm,beq_iff_eq]
 by_cases h:j-i=a.length
 .rw[if_pos h];have hi:i=0:=by lia
  subst hi;apply h9;simp only[R5];rw[O9 (by rw[len_list];lia)]
 .rw[if_neg h]
theorem DR(i n:Nat)(h:i<=n):N7 (some (i:Int)) none 1 n=N7 (some (i:Int)) (some (n:Int)) 1 n:=by
 unfold N7;have h1:¬ ((n:Int)<0):=by lia
 have e2:max (0:Int) (min (n:Int) (n:Int))=n:=by lia
 simp only[h1,if_false,e2,show ((1:Int)>0)=True from by simp,if_true]
theorem Dl(j n:Nat)(h:j<=n):N7 none (some (j:Int)) 1 n=N7 (some ((0:Nat):Int)) (some (j:Int)) 1 n:=by
 unfold N7;have h1:¬ (((0:Nat):Int)<0):=by lia
 have e2:max (0:Int) (min ((0:Nat):Int) (n:Int))=0:=by lia
 simp only[h1,if_false,e2,show ((1:Int)>0)=True from by simp,if_true]
theorem Ef(a:Str)(i:Nat)(h:i<=a.length):eI a (some (i:Int)) none=⟨(a.cps.toList.drop i).toArray⟩:=by
 have e:=rQ a i a.length h (NK _);unfold eI at e ⊢;rw[DR i a.length h,e,O9 (by rw[PK,len_list];lia)]
theorem D5(a:Str)(j:Nat)(h:j<=a.length):eI a none (some (j:Int))=⟨(a.cps.toList.take j).toArray⟩:=by
 have e:=rQ a 0 j (OQ _) h;unfold eI at e ⊢;rw[Dl j a.length h,e];rfl
theorem qx(a:Str)(l u:Option Int):(eI a l u).length<=a.length:=by
 unfold eI
 by_cases h:((N7 l u 1 a.length).length==a.length)=true
 .rw[if_pos h];exact NK _
 .rw[if_neg h];show (List.toArray _).size<=_;rw[NT];exact N3 (List.length_filterMap_le _ _) (indices_len_le l u a.length)
theorem kT:(NC "-").cps.toList=[45]:=by decide +kernel
theorem i_:(NC "0").cps.toList=[48]:=by decide +kernel
theorem vN:(NC "-0").cps.toList=[45,48]:=by decide +kernel
theorem cR:(NC "").cps.toList=[]:=by decide +kernel
def bd(cs:List Nat):List Nat:=match cs with
 | 45::r=>r
 | r=>r
theorem pX(r:List Nat):bd (45::r)=r:=rfl
theorem p4{cs:List Nat}(h:cs.head?≠some 45):bd cs=cs:=by
 unfold bd
 split
 .exact absurd rfl h
 .rfl
theorem rW(a:Str):(decide (0+(NC "-").length<=a.length)&&Rl a (NC "-") 0)=decide (a.cps.toList.head?=some 45):=by
 rw[StrLaws.subAt_eq,kT,show (NC "-").length=1 from by decide +kernel,<- len_list a];cases a.cps.toList with
 | nil=>decide
 | cons c r=>simp;by_cases h:c=45 <;> simp[h]
variable{c:Nat}
theorem Bc{l u:Option Int}(h:c∈(eI a l u).cps.toList):c∈a.cps.toList:=by
 unfold eI at h
 split at h
 .exact h
 .obtain⟨i,_,e⟩:=Q4.mp (show c∈((N7 l u 1 a.length).filterMap (a.cps[·]?)) from h);rw[<- RV] at e;exact RZ e
theorem Sv.cut(h:Sv a)(l u:Option Int):Sv (eI a l u):=λc hc=>h c (Bc hc)
theorem app_list(a b:Str):(a++b).cps.toList=a.cps.toList++b.cps.toList:=by
 show (a.cps++b.cps).toList=_;exact Array.toList_append
theorem Sv.app(ha:Sv a)(hb:Sv b):Sv (a++b):=λc hc=>by
 rw[app_list] at hc;rcases OZ.mp hc with h | h
 .exact ha c h
 .exact hb c h
theorem sN(y:Str):∀ (ws:List Str) {p:Str} {c:Nat},p∈ws->c∈p.cps.toList->c∈(Ot y ws).cps.toList
 | [],_,_,h,_=>by cases h
 | [a],p,c,h,hc=>by
  rw[N9] at h;subst h;exact hc
 | a::b::r,p,c,h,hc=>by
  show c∈(a++y++Ot y (b::r)).cps.toList;rw[app_list,app_list];rcases NU.mp h with e | e
  .subst e;exact OI _ (OI _ hc)
  .exact N1 _ (sN y (b::r) e hc)
theorem Sv.part{y p:Str}(h:Sv a)(hp:p∈Txt.split a y):Sv p:=λc hc=>h c (by
 have:=sN y _ hp hc
 rwa [Qo] at this)
theorem Sv.join{y:Str}(hy:Sv y):∀ (ws:List Str),(∀ p∈ws,Sv p)->Sv (Ot y ws)
 | [],_=>λc hc=>by cases hc
 | [a],h=>h a (N9.mpr rfl)
 | a::b::r,h=>((h a NJ).app hy).app (Sv.join hy (b::r) λp hp=>h p (NI _ hp))
theorem rX{c:Nat}:∀ {a b x y:List Nat},c ∉ a->c ∉ b->a++c::x=b++c::y->a=b/\x=y
 | [],[],_,_,_,_,h=>⟨rfl,(Qj h).2⟩
 | [],d::b,_,_,_,hb,h=>absurd (NU.mpr (.inl (Qj h).1)) hb
 | d::a,[],_,_,ha,_,h=>absurd (NU.mpr (.inl (Qj h).1.symm)) ha
 | d::a,e::b,x,y,ha,hb,h=>by
  obtain⟨h1,h2⟩:=Qj h;obtain⟨h3,h4⟩:=rX (λz=>ha (NI _ z)) (λz=>hb (NI _ z)) h2;exact⟨by rw[h1,h3],h4⟩
theorem r9{c:Nat}:∀ {a b:Str} {v w:List Str},(∀ p∈a::v,c ∉ p.cps.toList)->(∀ p∈b::w,c ∉ p.cps.toList)->Ot ⟨#[c]⟩ (a::v)=Ot ⟨#[c]⟩ (b::w)->a::v=b::w
 | a,b,[],[],_,_,h=>by rw[show a=b from h]
 | a,b,[],d::w,ha,hb,h=>by
  have h:=congrArg (λs:Str=>s.cps.toList) (show a=b++⟨#[c]⟩++Ot ⟨#[c]⟩ (d::w) from h);simp only[app_list] at h;exact absurd (by rw[h];simp) (ha a NJ)
 | a,b,d::v,[],ha,hb,h=>by
  have h:=congrArg (λs:Str=>s.cps.toList) (show a++⟨#[c]⟩++Ot ⟨#[c]⟩ (d::v)=b from h);simp only[app_list] at h;exact absurd (by rw[<- h];simp) (hb b NJ)
 | a,b,d::v,e::w,ha,hb,h=>by
  have h:=congrArg (λs:Str=>s.cps.toList) (show a++⟨#[c]⟩++Ot ⟨#[c]⟩ (d::v)=b++⟨#[c]⟩++Ot ⟨#[c]⟩ (e::w) from h);simp only[app_list,Qw] at h;obtain⟨h1,h2⟩:=rX (ha a NJ) (hb b NJ) (show a.cps.toList++c::(Ot ⟨#[c]⟩ (d::v)).cps.toList=b.cps.toList++c::(Ot ⟨#[c]⟩ (e::w)).cps.toList from h);rw[h9 h1,r9 (λp hp=>ha p (NI _ hp)) (λp hp=>hb p (NI _ hp)) (h9 h2)]
theorem sI(x y:Str):Txt.split x y≠[]:=by
 unfold Txt.split
 split
 .exact P9 _ _
 .split
  .exact P9 _ _
  .rw[StrLaws.partsBetween_eq];obtain⟨p,r,e⟩:=StrLaws.partsFrom_ne x y.length 0 (Oa x y 0 x.length (x.length+1));rw[e];exact P9 _ _
theorem uC{v:List Str}(h:∀ p∈a::v,c ∉ p.cps.toList):Txt.split (Ot ⟨#[c]⟩ (a::v)) ⟨#[c]⟩=a::v:=by
 have e:=Qo (Ot ⟨#[c]⟩ (a::v)) ⟨#[c]⟩;have f:=StrLaws.split_free (Ot ⟨#[c]⟩ (a::v)) c;cases hs:Txt.split (Ot ⟨#[c]⟩ (a::v)) ⟨#[c]⟩ with
 | nil=>exact absurd hs (sI _ _)
 | cons b w =>
  rw[hs] at e f;exact r9 f h e
variable{x0:Option SV}{α:Type}
theorem vO{t:ae->M Bool}{f:ae->M PV}{inj h:α->PV}{b:α->Bool}{rest:ae}(xs:List α)(Ht:∀ a∈xs,t (some (.sh (inj a))::rest)=M.ok (b a))(H:∀ a∈xs,f (some (.sh (inj a))::rest)=M.ok (h a)):bu (bD 0) (some t) f (xs.map inj) (x0::rest)=M.ok ((xs.filter b).map h):=by
 induction xs generalizing x0 with
 | nil=>rfl
 | cons a r ih =>
  have i:=ih (x0:=some (.sh (inj a))) (λc hc=>Ht c (NI _ hc)) λc hc=>H c (NI _ hc);rw[N5,bu];show M.bind (M.ok ((x0::rest).set 0 (some (.sh (inj a))))) _=_;rw[M.aA,O3];show M.bind (t _) _=_;rw[Ht a NJ,M.aA];cases e:b a with
  | true=>rw[if_pos rfl,H a NJ,M.aA,i,List.filter_cons_of_pos e];rfl
  | false=>rw[if_neg (by simp),i,List.filter_cons_of_neg (by simp[e])]
variable{n:Nat}
theorem c8(h:n<=10000):n<=sizeLine:=N3 h (by unfold sizeLine;decide)
theorem len_str(h:a.length<=10000):me (.str a)=M.ok (.int a.length):=aq (c8 h)
theorem nU(h:a.length<=10000)(l u:Option Int):Ei (.str a) l u=M.ok (.str (eI a l u)):=aq (c8 (N3 (qx a l u) h))
theorem vJ{r:List Nat}(h:a.length<=10000)(e:a.cps.toList=c::r):aC (.str a) (.int 0)=M.ok (.str ⟨#[c]⟩):=by
 show bG _ (eN ((nZ a.cps.toList 0).map λc=>.str ⟨#[c]⟩))=_;rw[aq (c8 h),e];have z:qV (r.length+1) 0=some 0:=by
  unfold qV;simp
 unfold nZ;rw[NS,z];rfl
theorem xX(c d:Nat)(s:String)(h:(NC s).cps.toList=[d]):((⟨#[c]⟩:Str)=NC s) ↔ c=d:=by
 constructor
 .intro e;have:=congrArg (λs:Str=>s.cps.toList) e;simp only[h] at this;exact(Qj this).1
 .rintro rfl;exact h9 (by rw[h])
variable{l:List Nat}
theorem iK(s:String)(h:(NC s).cps.toList=l):(a=NC s) ↔ a.cps.toList=l:=by
 constructor
 .rintro rfl;exact h
 .intro e;exact h9 (by rw[e,h])
theorem iJ{s:String}(h:(NC s).cps.toList=l)(hl:l.all (λc=>decide (c<0x110000))=true):Sv (NC s):=λc hc=>by
 rw[h] at hc;exact of_decide_eq_true (NY.mp hl c hc)
theorem qb:Sv (NC "0"):=iJ i_ rfl
theorem AX:Sv (NC "-"):=iJ kT rfl
theorem FZ:Sv (NC "-0"):=iJ vN rfl
theorem iQ:Sv (NC ""):=iJ cR rfl
theorem uD(h:c<0x110000):Sv ⟨#[c]⟩:=λd hd=>by
 rw[show (⟨#[c]⟩:Str).cps.toList=[c] from rfl,N9] at hd;lia
def Fp(bs:List Nat):Bool:=decide (bs.head?≠some 48)||decide (bs=[48])
def oa(bs:List Nat):Bool:=decide (1<=bs.length/\bs.length<=30)&&bs.all fg&&Fp bs
theorem xt{bs:List Nat}:bu (bD 0) none (ai A7 (af 0) (λ_=>M.ok (.str (NC "0123456789")))) (bs.map λc=>.str ⟨#[c]⟩) [none]=M.ok (bs.map λc=>.bl (fg c)):=eH bs λa ha=>by dsimp? [A7,vp]
theorem Dm(h:α->Bool)(xs:List α):sD [.lst (xs.map λa=>.bl (h a))]=M.ok (.bl (xs.all h)):=by
 have:=qX (xs.map h);rw[Oo] at this;rw[show (λa=>PV.bl (h a))=PV.bl∘h from rfl,this];simp[TM]
theorem oh(hb:Sv b)(hz:b.length<=10000):fO [.str b]=M.ok (.bl (oa b.cps.toList)):=by
 unfold fO fM oa;have hl:=len_list b;have hg:b.cps.toList.length<=sizeLine:=by rw[hl];exact c8 hz
 dsimp? [len_str hz]
 by_cases h1:(1:Int)<=b.length
 .by_cases h2:(b.length:Int)<=30
  .have h3:1<=b.cps.toList.length/\b.cps.toList.length<=30:=by rw[hl];lia
   simp only[h1,h2,h3,decide_true,if_true,Tu,Qp,if_false,and_self,Tv];dsimp? [h2,decide_true,L2.signsOf,ND,aq hg,xt,Dm];cases ha:b.cps.toList.all fg with
   | false=>dsimp? []
   | true =>
    cases e:b.cps.toList with
    | nil=>rw[e] at h3;exact absurd h3.1 (by decide)
    | cons c r =>
     have hc:c<0x110000:=hb c (by rw[e];exact NJ);dsimp? [vJ hz e,qN (uD hc) qb,fY hb qb,xX c 48 "0" i_,iK "0" i_,e];unfold Fp
     by_cases h:c=48
     .subst h;dsimp? [decide_true,List.head?_cons];simp
     .simp[h];dsimp? []
  .have h3:¬ (1<=b.cps.toList.length/\b.cps.toList.length<=30):=by rw[hl];lia
   simp only[h1,h2,h3,decide_true,decide_false,if_true,Qt];dsimp? [h2,decide_false]
 .have h3:¬ (1<=b.cps.toList.length/\b.cps.toList.length<=30):=by rw[hl];lia
  simp only[h1,h3,decide_false,Qp,if_false,Qt];dsimp? []
def bS(a:Str):Str:=if a.cps.toList.head?=some 45 then eI a (some 1) none else a
theorem qO:(bS a).cps.toList=bd a.cps.toList:=by
 unfold bS
 by_cases h:a.cps.toList.head?=some 45
 .rw[if_pos h];cases e:a.cps.toList with
  | nil=>rw[e] at h;cases h
  | cons c r =>
   rw[e] at h;cases h;have h1:1<=a.length:=by rw[<- len_list,e];simp
   rw[show (1:Int)=((1:Nat):Int) from rfl,Ef a 1 h1,e];rfl
 .rw[if_neg h,p4 h]
theorem Ct(h:Sv a):Sv (bS a):=by
 unfold bS
 split
 .exact h.cut _ _
 .exact h
theorem zG(h:a.length<=10000):(bS a).length<=10000:=by
 unfold bS
 split
 .exact N3 (qx _ _ _) h
 .exact h
def good(cs:List Nat):Bool:=oa (bd cs)&&!decide (cs=[45,48])
theorem good_reads(hz:a.length<=10000)(h:good a.cps.toList=true):a.length<=640/\∃ n,PySem.intText? a=some n:=by
 unfold good oa at h;simp only[Oz,decide_eq_true_eq] at h;obtain⟨⟨⟨⟨h1,h2⟩,h3⟩,h4⟩,h5⟩:=h;have hd:PySem.NumText.AllDigits (bd a.cps.toList):=λc hc=>of_decide_eq_true (NY.mp h3 c hc);have hn:bd a.cps.toList≠[]:=λe=>by rw[e] at h1;exact absurd h1 (by decide)
 by_cases h:a.cps.toList.head?=some 45
 .cases e:a.cps.toList with
  | nil=>rw[e] at h;cases h
  | cons c r =>
   rw[e] at h;cases h;rw[e,pX] at hd hn h2;have hl:a.length<=31:=by rw[<- len_list,e,NS];lia
   exact⟨by lia,_,intText_neg e hd hn (by lia)⟩
 .rw[p4 h] at hd hn h2;have hl:a.length<=30:=by rw[<- len_list];exact h2
  exact⟨by lia,_,intText_digits hd hn (by lia)⟩
def val(a:Str):Int:=(PySem.intText? a).getD 0
theorem t4(hz:a.length<=10000)(h:good a.cps.toList=true):v8 [.str a]=M.ok (.int (val a)):=by
 obtain⟨h1,n,h2⟩:=good_reads hz h;show bG _ (eN ((PySem.intText? a).map .int))=_;unfold val;rw[aq h1,h2];rfl
theorem k4:1<=sizeLine:=by unfold sizeLine;decide
theorem mW(ha:Sv a)(hz:a.length<=10000):dk [.str a]=if good a.cps.toList=true then M.ok (.int (val a)) else some (.error (aL,none)):=by
 unfold dk e_;have key:(xG (bJ (i6 mr (af 0) (λ_=>M.ok (.str (NC "-"))))) (cM (af 0) (bo (λ_=>M.ok (.int 1))) et) (af 0)) [some (.sh (.str a)),none]=M.ok (.str (bS a)):=by
  dsimp? [i6,mr,rW,cM,et,bo,oP,nU hz];unfold bS
  by_cases h:a.cps.toList.head?=some 45
  .dsimp? [h,decide_true]
  .dsimp? [h,decide_false]
 have e1:bQ 2 [.str a]=[some (.sh (.str a)),none]:=rfl;simp only[bq,az,e1,ak,bc,key,M.aA,NS,QU,SN,if_true];dsimp? [oh (Ct ha) (zG hz),fY ha FZ,qO,iK "-0" vN,eR];unfold good;cases h1:oa (bd a.cps.toList) with
 | false=>dsimp? [aq k4]
 | true =>
  by_cases h2:a.cps.toList=[45,48]
  .dsimp? [h2,decide_true,aq k4]
  .have hg:good a.cps.toList=true:=by unfold good;simp[h1,h2]
   dsimp? [h2,decide_false,t4 hz hg]
theorem Ji(a:Str):(eI a none (some 1)=NC "-") ↔ a.cps.toList.head?=some 45:=by
 rw[iK "-" kT];cases e:a.cps.toList with
 | nil =>
  have h:(eI a none (some 1)).length<=0:=by
   have:=qx a none (some 1);rw[<- len_list a,e] at this;exact this
  constructor
  .intro z;rw[<- len_list,z] at h;exact absurd h (by decide)
  .intro z;cases z
 | cons c r =>
  have h1:1<=a.length:=by rw[<- len_list,e];simp
  rw[show (1:Int)=((1:Nat):Int) from rfl,D5 a 1 h1,e];simp
theorem yp{bs:List Nat}:bu (bD 0) (some (bJ (ai vd (af 0) (λ_=>M.ok (.str (NC "0123456789")))))) (af 0) (bs.map λc=>.str ⟨#[c]⟩) [none]=M.ok ((bs.filter λc=>!fg c).map λc=>.str ⟨#[c]⟩):=vO bs (λa ha=>by dsimp? [vd,vp]) λa ha=>by dsimp? []
theorem kb(ha:Sv a)(hz:a.length<=10000):bI [.str a]=M.ok (if good a.cps.toList=true then .int (val a) else .bH):=by
 unfold bI cq;have e1:bQ 2 [.str a]=[some (.sh (.str a)),none]:=rfl;have key:(dG (bJ (ai gu (cM (af 0) et (bo (λ_=>M.ok (.int 1)))) (λ_=>M.ok (.str (NC "-"))))) (ak (bc 1 (cM (af 0) (bo (λ_=>M.ok (.int 1))) et)) aj) aj) [some (.sh (.str a)),some (.sh (.str a))]=M.ok (.nx [some (.sh (.str a)),some (.sh (.str (bS a)))]):=by
  dsimp? [cM,et,bo,oP,nU hz,fY (ha.cut none (some 1)) AX,Ji];unfold bS
  by_cases h:a.cps.toList.head?=some 45
  .dsimp? [h,decide_true]
  .dsimp? [h,decide_false]
 have hb:=Ct ha;have hbz:=zG hz;have hl:=len_list (bS a);have hg:(bS a).cps.toList.length<=sizeLine:=by rw[hl];exact c8 hbz
 simp only[bq,az,e1,ak,bc,af,List.getElem?_cons_zero,M.aA,NS,QU,SN,if_true,m_,Ra,O3,key];dsimp? [fY hb iQ,iK "" cR,len_str hbz,L2.signsOf,ND,aq hg,yp];rw[<- hl,qO];cases hbs:bd a.cps.toList with
 | nil =>
  have g:good a.cps.toList=false:=by unfold good oa;simp[hbs]
  dsimp? [g,decide_true]
 | cons c r =>
  have Mx:(bS a).cps.toList=c::r:=by rw[qO,hbs]
  have hc:c<0x110000:=hb c (by rw[Mx];exact NJ);rw[decide_eq_false (P9 c r)]
  by_cases h2:30<((c::r).length:Int)
  .have g:good a.cps.toList=false:=by
    unfold good oa;rw[hbs];have:¬ ((c::r).length<=30):=by lia
    simp only[this,and_false,decide_false,Qt]
   rw[decide_eq_true h2,g];rfl
  .rw[decide_eq_false h2];cases h3:(c::r).all fg with
   | false =>
    have g:good a.cps.toList=false:=by
     unfold good oa;rw[hbs,h3];simp
    have z:(0:Int)<((c::r).filter λc=>!fg c).length:=by
     obtain⟨d,hd,e⟩:=List.all_eq_false.mp h3;have:d∈(c::r).filter λc=>!fg c:=PX.mpr ⟨hd,by simp[e]⟩;have:=RL this;lia
    rw[decide_eq_true z,g];rfl
   | true =>
    have z:¬ (0:Int)<((c::r).filter λc=>!fg c).length:=by
     rw[List.filter_eq_nil_iff.mpr λd hd=>by simp[NY.mp h3 d hd]]
     decide
    rw[decide_eq_false z];have hn:¬ (30<(c::r).length):=by lia
    have g:good a.cps.toList=(Fp (c::r)&&!decide (a.cps.toList=[45,48])):=by
     unfold good oa;rw[hbs,h3,decide_eq_true (show 1<=(c::r).length/\(c::r).length<=30 from ⟨by simp,by lia⟩)];rfl
    have i:=vJ hbz Mx;dsimp? [i,fY (uD hc) qb,xX c 48 "0" i_,qN ha hb,len_str hbz]
    by_cases h48:c=48
    .subst h48;cases r with
     | cons d r =>
      have hlen:1<((bS a).length:Int):=by rw[<- hl,Mx];simp only[NS];lia
      have g2:good a.cps.toList=false:=by rw[g];simp[Fp]
      dsimp? [decide_true,hlen,g2]
     | nil =>
      have hlen:¬ 1<((bS a).length:Int):=by rw[<- hl,Mx];decide
      by_cases h45:a.cps.toList.head?=some 45
      .have ea:a.cps.toList=[45,48]:=by
        cases e:a.cps.toList with
        | nil=>rw[e] at h45;cases h45
        | cons d s =>
         rw[e] at h45 hbs;cases h45;rw[pX] at hbs;rw[hbs]
       have g2:good a.cps.toList=false:=by rw[g,ea];rfl
       have ne:¬ a=bS a:=λz=>by
        have:=congrArg (λs:Str=>s.cps.toList) z;simp only[Mx,ea] at this;cases this
       dsimp? [decide_true,hlen,decide_false,ne,g2]
      .have eb:bS a=a:=by unfold bS;rw[if_neg h45]
       have ea:¬ a.cps.toList=[45,48]:=λz=>h45 (by rw[z];rfl);have g2:good a.cps.toList=true:=by rw[g];simp[Fp,ea]
       rw[eb] at hlen ⊢;dsimp? [decide_true,hlen,decide_false,g2,t4 hz g2]
    .have ea:¬ a.cps.toList=[45,48]:=λz=>by
      rw[z] at hbs;exact h48 (Qj (show [48]=c::r from hbs)).1.symm
     have g2:good a.cps.toList=true:=by rw[g];simp[Fp,ea,h48]
     dsimp? [h48,decide_false,g2,t4 hz g2]
def sp:Str:=NC " "
theorem vK:(NC " ").cps.toList=[32]:=by decide +kernel
theorem GD:NC " " = ⟨#[32]⟩:=h9 (by rw[vK])
theorem pR:(NC " ").length=1:=by decide +kernel
abbrev Wd(a:Str):List Str:=Txt.split a (NC " ")
def gw(p:Str):Bool:=good p.cps.toList
theorem sy(h:a.length<=10000):jJ a (.str (NC " "))=M.ok (.lst ((Wd a).map .str)):=by
 show bG _ _=_;rw[aq ⟨by rw[pR];rfl,by unfold sizeLine;lia⟩]
theorem uI(h:a.length<=10000):(Wd a).length<=sizeLine:=by
 have:=RM a (NC " ") (by rw[pR];decide);unfold sizeLine;show (Txt.split a (NC " ")).length<=_;lia
theorem Cp{p:Str}(h:Sv a)(hp:p∈Wd a):Sv p:=h.part hp
theorem q0{p:Str}(h:a.length<=10000)(hp:p∈Wd a):p.length<=10000:=N3 (Tn hp) h
def u_(p:Str):PV:=if gw p=true then .int (val p) else .bH
def Fq(p:Str):PyData:=if gw p=true then .int (val p) else .none
theorem vz:∀ ws:List Str,gp (ws.map u_)=some (ws.map Fq)
 | []=>rfl
 | p::r=>by
  show (dat (u_ p)).bind (λd=>(gp (r.map u_)).map (d::·))=_;rw[vz r];unfold u_ Fq
  by_cases h:gw p=true
  .rw[N5,if_pos h,if_pos h];rfl
  .rw[N5,if_neg h,if_neg h];rfl
theorem C2(ws:List Str):(ws.map Fq).all OY=true:=by
 rw[NY];intro d hd;obtain⟨p,_,rfl⟩:=OE.mp hd;unfold Fq
 split <;> simp[OY,OA,OM]
theorem BN(ws:List Str):((ws.map Fq).any λe=>PR e .none)=!ws.all gw:=by
 induction ws with
 | nil=>rfl
 | cons p r ih =>
  rw[N5,Qh,PF,ih];unfold Fq;cases h:gw p
  .simp[PR]
  .simp[PR]
theorem B4(ws:List Str):inD .bH (.lst (ws.map u_))=M.ok (.bl (!ws.all gw)):=by
 unfold inD;show (match gp (ws.map u_) with | some ds=>_ | none=>_)=_;rw[vz];show bG _ _=_;rw[aq ⟨by simp[OY,OA,OM],C2 ws⟩,BN]
variable{ws:List Str}
theorem zu(h:ws.all gw=true):ws.map u_=ws.map λp=>.int (val p):=QY λp hp=>by
 unfold u_;rw[if_pos (NY.mp h p hp)]
theorem AZ(ha:Sv a)(hz:a.length<=10000):cm [.str a]=M.ok (.lst (if a.cps.toList=[] then [] else (Wd a).map u_)):=by
 have key:bu (bD 0) none (ah bI (aa (af 0) ao)) ((Wd a).map .str) [none]=M.ok ((Wd a).map u_):=eH (Wd a) λp hp=>by dsimp? [kb (Cp ha hp) (q0 hz hp)];rfl
 have hg:((Wd a).map PV.str).length<=sizeLine:=by rw[ND];exact uI hz
 unfold cm dX;dsimp? [fY ha iQ,iK "" cR]
 by_cases h:a.cps.toList=[]
 .dsimp? [h,decide_true]
 .dsimp? [h,decide_false,i6,sy hz,aq hg,key]
theorem sO(a:Str):cv [.str a]=M.ok .bH:=by
 unfold cv dF;dsimp? []
variable{e:EX}
theorem rG{f:ae->M PV}{inj h:α->PV}{g:α->Bool}{rest:ae}(xs:List α)(H:∀ a∈xs,f (some (.sh (inj a))::rest)=if g a=true then M.ok (h a) else some (.error e)):bu (bD 0) none f (xs.map inj) (x0::rest)=if xs.all g=true then M.ok (xs.map h) else some (.error e):=by
 induction xs generalizing x0 with
 | nil=>rfl
 | cons a r ih =>
  have i:=ih (x0:=some (.sh (inj a))) λc hc=>H c (NI _ hc);rw[N5,bu];show M.bind (M.ok ((x0::rest).set 0 (some (.sh (inj a))))) _=_;rw[M.aA,O3];show M.bind (f _) _=_;rw[H a NJ,PF];cases hg:g a with
  | false=>rfl
  | true =>
   rw[if_pos rfl,M.aA,i];cases r.all g with
   | false=>rfl
   | true=>rfl
theorem ma(ha:Sv a)(hz:a.length<=10000):bM [.str a]=if a.cps.toList=[] then M.ok (.tup []) else if (Wd a).all gw=true then M.ok (.tup ((Wd a).map λp=>.int (val p))) else some (.error (aL,none)):=by
 have key:bu (bD 0) none (ah dk (aa (af 0) ao)) ((Wd a).map .str) [none]=if (Wd a).all gw=true then M.ok ((Wd a).map λp=>.int (val p)) else some (.error (aL,none)):=rG (Wd a) λp hp=>by dsimp? [mW (Cp ha hp) (q0 hz hp)];rfl
 have hg:((Wd a).map PV.str).length<=sizeLine:=by rw[ND];exact uI hz
 unfold bM cY;dsimp? [sO,fY ha iQ,iK "" cR]
 by_cases h:a.cps.toList=[]
 .dsimp? [h,decide_true]
 .dsimp? [h,decide_false,i6,sy hz,jz,aq hg,key];cases h2:(Wd a).all gw with
  | false=>dsimp? []
  | true=>dsimp? []
theorem xI(o:Out)(k:EX->M Out):jV (M.ok o) k=M.ok o:=rfl
theorem same_int(n:Nat)(i:Int):aH (n+1) [.int i,.int i]=M.ok (.bl true):=by
 unfold aH cw;dsimp? [gy,fz,decide_true]
theorem mz(ns:List Int)(k:Nat)(hk:k<=100):∃ c,aV [.gX (ns.map PV.int),.int (k:Int)]=M.ok (.int c):=by
 unfold aV fw
 by_cases h:(k:Int)<(ns.length:Int)
 .have h':k<ns.length:=by lia
  exact⟨ns[k],by dsimp? [ND,h,decide_true,aT (p:=.gX (ns.map PV.int)) (j:=k) (x:=.int ns[k]) rfl (by rw[NZ,NG h'];rfl)]⟩
 .by_cases h0:(0:Int)<(ns.length:Int)
  .obtain⟨j,hj,ej⟩:∃ j:Nat,j<ns.length/\7*(k:Int)%(ns.length:Int)=(j:Int):=by
    have a:=OF (7*(k:Int)) (show (ns.length:Int)≠0 by lia);have b:=Ol (7*(k:Int)) h0;exact⟨(7*(k:Int)%(ns.length:Int)).toNat,by lia,by lia⟩
   obtain⟨a,ea,a0⟩:∃ a,cC (.int (ns[j]+7919*(k:Int))) (.int 2147483647)=M.ok (.int a)/\0<=a/\a<2147483647:=⟨(ns[j]+7919*(k:Int))%2147483647,aB (j:=2147483647) (by decide),OF _ (by decide),Ol _ (by decide)⟩
   exact⟨a*a%2147483629,by dsimp? [ND,h,h0,decide_false,decide_true,bO (i:=7919) (j:=(k:Int)) (k:=31) (l:=31) (by decide) (by lia),bO (i:=7) (j:=(k:Int)) (k:=31) (l:=31) (by decide) (by lia),aB (i:=7*(k:Int)) h0,ej,aT (p:=.gX (ns.map PV.int)) (j:=j) (x:=.int ns[j]) rfl (by rw[NZ,NG hj];rfl),ea,bO (i:=a) (j:=a) (k:=32) (l:=32) (by lia) (by lia),aB (i:=a*a) (j:=2147483629) (by decide)]⟩
  .exact⟨(7919*(k:Int)+5)*(7919*(k:Int)+5)%2147483629,by dsimp? [ND,h,h0,decide_false,bO (i:=7919) (j:=(k:Int)) (k:=31) (l:=31) (by decide) (by lia),bO (i:=7919*(k:Int)+5) (j:=7919*(k:Int)+5) (k:=31) (l:=31) (by lia) (by lia),aB (i:=(7919*(k:Int)+5)*(7919*(k:Int)+5)) (j:=2147483629) (by decide)]⟩
theorem iW(c:Int)(k:Nat)(hk:k<=100):∃ x,aO [.int c,.int (k:Int)]=M.ok (.int x)/\0<=x/\x<2147483587:=by
 obtain⟨a,ea,a0⟩:∃ a,cC (.int (c+7919*(k:Int)+11)) (.int 2147483647)=M.ok (.int a)/\0<=a/\a<2147483647:=⟨_,aB (by decide),OF _ (by decide),Ol _ (by decide)⟩
 obtain⟨b,eb,b0⟩:∃ b,cC (.int (a*a+48271*(k:Int))) (.int 2147483629)=M.ok (.int b)/\0<=b/\b<2147483629:=⟨_,aB (by decide),OF _ (by decide),Ol _ (by decide)⟩
 refine⟨(b*b+7*b+(k:Int))%2147483587,?_,OF _ (by decide),Ol _ (by decide)⟩;unfold aO eU;dsimp? [bO (i:=7919) (j:=(k:Int)) (k:=31) (l:=31) (by decide) (by lia),ea,bO (i:=a) (j:=a) (k:=32) (l:=32) (by lia) (by lia),bO (i:=48271) (j:=(k:Int)) (k:=31) (l:=31) (by decide) (by lia),eb,bO (i:=b) (j:=b) (k:=32) (l:=32) (by lia) (by lia),bO (i:=7) (j:=b) (k:=32) (l:=32) (by decide) (by lia),aB (i:=b*b+7*b+(k:Int)) (j:=2147483587) (by decide)]
theorem GI:xu (.int 10) (.int 9)=M.ok (.int (10^9)):=by rfl
theorem B3:xu (.int 10) (.int 20)=M.ok (.int (10^20)):=by rfl
theorem wY(c:Int)(k:Nat)(hk:k<=30):∃ n:Int,cH [.int c,.int (k:Int)]=M.ok (.int n)/\n.natAbs<10^29:=by
 obtain⟨m,em,m0,m1⟩:=iW c k (by lia);obtain⟨f,ef,f0,f1⟩:=iW c (k+61) (by lia);have em':aO [.int c,.int (k:Int)]=M.ok (.int m):=em;have ef':aO [.int c,.int ((k:Int)+61)]=M.ok (.int f):=ef;unfold cH eW;have h3:m%3=0\/m%3=1\/(¬ m%3=0/\¬ m%3=1):=by lia
 rcases h3 with h | h | ⟨h,h'⟩
 .exact⟨m/3%9-4,by dsimp? [em',aB (i:=m) (j:=3) (by decide),h,decide_true,cG (i:=m) (j:=3) (by decide) (by decide),aB (i:=m/3) (j:=9) (by decide)],by lia⟩
 .have h':¬ (1:Int)=0:=by decide
  exact⟨m/3%720,by dsimp? [em',aB (i:=m) (j:=3) (by decide),h,h',decide_true,decide_false,cG (i:=m) (j:=3) (by decide) (by decide),aB (i:=m/3) (j:=720) (by decide)],by lia⟩
 .have g0:=OF f (show (10^9:Int)≠0 by decide);have g1:=Ol f (show (0:Int)<10^9 by decide);have e1:=aB (i:=f) (j:=10^9) (by decide);have e2:gf (.int (f%10^9)) (.int (10^20))=M.ok (.int (f%10^9*10^20)):=bO (k:=64) (l:=80) (by lia) (by decide);have hb:(f%10^9*10^20+m).natAbs<10^29:=by lia
  have h2:m/3%2=0\/m/3%2=1:=by lia
  rcases h2 with z | z
  .exact⟨f%10^9*10^20+m,by dsimp? [em',ef',GI,B3,e1,e2,aB (i:=m) (j:=3) (by decide),h,h',decide_false,cG (i:=m) (j:=3) (by decide) (by decide),aB (i:=m/3) (j:=2) (by decide),z];rfl,hb⟩
  .exact⟨0-(f%10^9*10^20+m),by dsimp? [em',ef',GI,B3,e1,e2,aB (i:=m) (j:=3) (by decide),h,h',decide_false,cG (i:=m) (j:=3) (by decide) (by decide),aB (i:=m/3) (j:=2) (by decide),z];rfl,by lia⟩
def Dg(m:Nat):List Nat:=(Nat.toDigits 10 m).map Char.toNat
theorem FU(m:Nat):(Dg m).all fg=true:=by
 rw[NY];intro c hc;obtain⟨ch,Lx,e⟩:=OE.mp hc;have r:=digit_range (Nat.isDigit_of_mem_toDigits (by decide) (by decide) Lx);rw[<- e];exact decide_eq_true r
theorem xR{m:Nat}(h:m<10^29):(Dg m).length<=29:=by
 unfold Dg;rw[ND];exact toDigits_len_pow (by decide) (by decide) h
def tx(n:Int):Str:=NC (toString n)
theorem xS(m:Nat):(tx (m:Int)).cps.toList=Dg m:=W.KIN.signs_num m
theorem xJ(m:Nat)(h:m≠0):(tx (-(m:Int))).cps.toList=45::Dg m:=by
 cases m with
 | zero=>exact absurd rfl h
 | succ k =>
  unfold tx;rw[signs_ofString];show (("-" ++ Nat.repr (k+1):String)).toList.map Char.toNat=_;rw[String.toList_append,Nat.toList_repr,OL];rfl
theorem pF{P:Int->Prop}(h1:∀ m:Nat,P m)(h2:∀ m:Nat,m≠0->P (-(m:Int)))(n:Int):P n:=by
 by_cases h:0<=n
 .obtain⟨m,rfl⟩:=OB h;exact h1 m
 .have:=h2 n.natAbs (by lia)
  rwa [show -((n.natAbs:Nat):Int)=n by lia] at this
theorem z8(m:Nat):NumText.AllDigits (Dg m):=λc hc=>of_decide_eq_true (NY.mp (FU m) c hc)
theorem p9(n:Int)(h:n.natAbs<10^29):(tx n).length<=30:=by
 revert h;refine pF (P:=λn=>n.natAbs<10^29->(tx n).length<=30) (λm h=>?_) (λm h0 h=>?_) n
 .rw[<- len_list,xS];have:=xR (m:=m) (by lia);lia
 .rw[<- len_list,xJ m h0];have:=xR (m:=m) (by lia);simp only[NS];lia
theorem yR(n:Int):∀ c∈(tx n).cps.toList,c=45\/(48<=c/\c<=57):=by
 refine pF (P:=λn=>∀ c∈(tx n).cps.toList,c=45\/(48<=c/\c<=57)) (λm=>?_) (λm h0=>?_) n
 .rw[xS];exact λc hc=>.inr (z8 m c hc)
 .rw[xJ m h0];intro c hc;rcases NU.mp hc with e | e
  .exact .inl e
  .exact .inr (z8 m c e)
theorem vk(n:Int):Sv (tx n):=λc hc=>by have:=yR n c hc;lia
theorem str_int(n:Int)(h:n.natAbs<10^29):ju [.int n]=M.ok (.str (tx n)):=by
 show bG _ _=_;rw[aq]
 .rfl
 .by_cases h0:n.natAbs=0
  .rw[h0];decide
  .rw[R3 h0];exact RE h (by decide +kernel)
def text(xs:List Int):Str:=Ot (NC " ") (xs.map tx)
theorem A9(xs:List Int):Sv (text xs):=Sv.join (iJ vK rfl) _ λp hp=>by
 obtain⟨n,_,rfl⟩:=OE.mp hp;exact vk n
theorem zT(xs:List Int)(h:∀ n∈xs,n.natAbs<10^29):((xs.map tx).map (·.length)).sum<=30*xs.length:=by
 induction xs with
 | nil=>exact NK _
 | cons n r ih =>
  have:=ih λm hm=>h m (NI _ hm);have:=p9 n (h n NJ);simp only[N5,Rp,NS];lia
theorem Ab(ws:List Str)(k:Nat):ws.foldl (λn s=>n+s.length+1) k=k+(ws.map (·.length)).sum+ws.length:=by
 induction ws generalizing k with
 | nil=>rfl
 | cons a r ih =>
  rw[RO,ih];simp only[N5,Rp,NS];lia
theorem ve(xs:List Int)(h:∀ n∈xs,n.natAbs<10^29)(hl:xs.length<=40):fk (NC " ") (.lst (xs.map λn=>.str (tx n)))=M.ok (.str (text xs)):=by
 have e:(xs.map λn=>PV.str (tx n))=(xs.map tx).map PV.str:=by rw[Oo];rfl
 rw[e];show (match strsOf ((xs.map tx).map PV.str) with | some ws=>_ | none=>_)=_;rw[jB];show bG _ _=_;rw[aq]
 .unfold text;rw[<- RX];rfl
 .unfold JoinOk Sh;have b:=zT xs h;rw[pR,Su,Ab,ND];have:¬ (0+((xs.map tx).map (·.length)).sum+xs.length>sizeLine):=by unfold sizeLine;lia
  simp only[this,decide_false,R8]
def rN(a:Str):Option (List Int):=if a.cps.toList=[] then some [] else if (Wd a).all gw=true then some ((Wd a).map val) else none
def nL(a:Str):List PV:=if a.cps.toList=[] then [] else (Wd a).map u_
structure Tt (b:Str) (n:Nat):Prop where
 sv:Sv b
 le:b.length<=n
theorem yq(h:Tt a 10000):bM [.str a]=match rN a with | some xs=>M.ok (.tup (xs.map PV.int)) | none=>some (.error (aL,none)):=by
 rw[ma h.sv h.le];unfold rN
 by_cases e:a.cps.toList=[]
 .rw[if_pos e,if_pos e];rfl
 .rw[if_neg e,if_neg e]
  by_cases e2:(Wd a).all gw=true
  .rw[if_pos e2,if_pos e2];show _=M.ok (PV.tup (((Wd a).map val).map PV.int));rw[Oo];rfl
  .rw[if_neg e2,if_neg e2]
theorem Ci(h:Tt a 10000):cm [.str a]=M.ok (.lst (nL a)):=AZ h.sv h.le
theorem Cy(a:Str):inD .bH (.lst (nL a))=M.ok (.bl (rN a).isNone):=by
 unfold nL rN
 by_cases e:a.cps.toList=[]
 .rw[if_pos e,if_pos e];exact B4 []
 .rw[if_neg e,if_neg e,B4];cases e2:(Wd a).all gw with
  | true=>rfl
  | false=>rfl
theorem vA{xs:List Int}(h:rN a=some xs):nL a=xs.map PV.int:=by
 unfold rN at h;unfold nL
 by_cases e:a.cps.toList=[]
 .rw[if_pos e] at h ⊢;cases h;rfl
 .rw[if_neg e] at h ⊢;cases e2:(Wd a).all gw with
  | true =>
   rw[e2,if_pos rfl] at h;cases h;rw[zu e2,Oo];rfl
  | false=>rw[e2] at h;cases h
theorem Bl{p:Str}(h:gw p=true):32 ∉ p.cps.toList/\p.cps.toList≠[]:=by
 unfold gw good oa at h;simp only[Oz,decide_eq_true_eq] at h;obtain⟨⟨⟨⟨h1,h2⟩,h3⟩,h4⟩,h5⟩:=h;have hd:∀ c∈bd p.cps.toList,48<=c/\c<=57:=λc hc=>of_decide_eq_true (NY.mp h3 c hc)
 by_cases h:p.cps.toList.head?=some 45
 .cases e:p.cps.toList with
  | nil=>rw[e] at h;cases h
  | cons c r =>
   rw[e] at h hd;cases h;rw[pX] at hd;refine⟨λz=>?_,P9 _ _⟩;rcases NU.mp z with z | z
   .cases z
   .have:=hd 32 z;lia
 .rw[p4 h] at hd h1;exact⟨λz=>by have:=hd 32 z;lia,λz=>by rw[z] at h1;exact absurd h1 (by decide)⟩
theorem BJ{p:Str}(h:gw p=true):rN p=some [val p]:=by
 obtain⟨h1,h2⟩:=Bl h;have e:Wd p=[p]:=by
  have:=uC (c:=32) (a:=p) (v:=[]) λq hq=>by rw[N9.mp hq];exact h1
  unfold Wd;rw[GD];exact this
 unfold rN;rw[if_neg h2,e,if_pos]
 .rfl
 .rw[PF,h];rfl
theorem Dr{p:Str}{xs:List Int}(h:gw p=false)(e:rN p=some xs):xs.length≠1:=by
 unfold rN at e
 by_cases z:p.cps.toList=[]
 .rw[if_pos z] at e;cases e;decide
 .rw[if_neg z] at e;cases e2:(Wd p).all gw with
  | false=>rw[e2] at e;cases e
  | true =>
   rw[e2,if_pos rfl] at e;cases e;rw[ND];intro l;have j:=Qo p (NC " ");obtain⟨w,ew⟩:=List.length_eq_one_iff.mp l;have ew':Txt.split p (NC " ")=[w]:=ew;rw[ew'] at j;have:w=p:=j;rw[ew,PF,this,h] at e2;cases e2
abbrev CO:Str:=NC " : "
def pW(p:Str):Str:=(Txt.partition p CO).1
def pM(p:Str):Str:=(Txt.partition p CO).2.1
def pP(p:Str):Str:=(Txt.partition p CO).2.2
theorem CW:(CO.length==0)=false:=by decide +kernel
theorem BY{p:Str}(h:Sv p):Sv (pW p)/\Sv (pM p)/\Sv (pP p):=by
 have e:=StrLaws.partition_sum p CO;have m:∀ c,c∈(pW p).cps.toList\/c∈(pM p).cps.toList\/c∈(pP p).cps.toList->c<0x110000:=λc hc=>h c (by
  rw[<- e,app_list,app_list];rcases hc with z | z | z
  .exact OI _ (OI _ z)
  .exact OI _ (N1 _ z)
  .exact N1 _ z)
 exact⟨λc hc=>m c (.inl hc),λc hc=>m c (.inr (.inl hc)),λc hc=>m c (.inr (.inr hc))⟩
theorem qk{p:Str}(h:Tt p 10000):Tt (pW p) 10000/\Tt (pM p) 10000/\Tt (pP p) 10000:=by
 obtain⟨a,b,c⟩:=BY h.sv;obtain⟨d,e,f⟩:=fact_partition p CO;exact⟨⟨a,N3 d h.le⟩,⟨b,N3 e h.le⟩,⟨c,N3 f h.le⟩⟩
theorem uZ{p:Str}(h:Tt p 10000):vS p (.str CO)=M.ok (.tup [.str (pW p),.str (pM p),.str (pP p)]):=by
 show bG _ _=_;rw[aq ⟨CW,c8 h.le⟩];rfl
def pO(p:Str):Option Int:=if (pM p).cps.toList=[] then some 1 else if gw (pP p)=true then some (val (pP p)) else none
def rL(p:Str):Option (List Int×Int):=(rN (pW p)).bind λxs=>(pO p).map λn=>(xs,n)
def oI:Option Int->PV
 | some n=>.int n
 | none=>.bH
theorem JW(a b c:PV):aC (.tup [a,b,c]) (.int 0)=M.ok a/\aC (.tup [a,b,c]) (.int 1)=M.ok b/\aC (.tup [a,b,c]) (.int 2)=M.ok c:=⟨aT (j:=0) rfl rfl,aT (j:=1) rfl rfl,aT (j:=2) rfl rfl⟩
theorem n_{p:Str}(h:Tt p 10000):dQ [.str p]=match rL p with | some (xs,n)=>M.ok (.tup [.tup (xs.map PV.int),.int n]) | none=>some (.error (aL,none)):=by
 obtain⟨h1,h2,h3⟩:=qk h;obtain⟨i0,i1,i2⟩:=JW (.str (pW p)) (.str (pM p)) (.str (pP p));unfold dQ f9;dsimp? [i6,uZ h,i0,yq h1];unfold rL;cases e1:rN (pW p) with
 | none=>rfl
 | some xs =>
  dsimp? [i1,fY h2.sv iQ,iK "" cR];unfold pO
  by_cases e2:(pM p).cps.toList=[]
  .dsimp? [e2,decide_true];rfl
  .dsimp? [e2,decide_false,i2,yq h3];cases e3:gw (pP p) with
   | true =>
    rw[BJ e3];dsimp? [];rfl
   | false =>
    cases e4:rN (pP p) with
    | none=>rfl
    | some ys =>
     have n:=Dr e3 e4;have n':¬ ((ys.length:Int)=1):=by lia
     dsimp? [ND,n',decide_false,eR,aq k4];rfl
abbrev SC:Str:=NC "; "
theorem ny:(SC.length==0)=false/\1<=SC.length:=by decide +kernel
abbrev Ps(a:Str):List Str:=Txt.split a SC
theorem pz(h:a.length<=10000):jJ a (.str SC)=M.ok (.lst ((Ps a).map .str)):=by
 show bG _ _=_;rw[aq ⟨ny.1,by unfold sizeLine;lia⟩]
theorem yZ(h:a.length<=10000):(Ps a).length<=10001:=by
 have:=RM a SC ny.2;show (Txt.split a SC).length<=_;lia
theorem sk{p:Str}(h:Tt a 10000)(hp:p∈Ps a):Tt p 10000:=⟨h.sv.part hp,N3 (Tn hp) h.le⟩
theorem Cf(x:PV)(xs:List PV):De (.lst (x::xs)) (some 1) none=M.ok (.lst xs):=by
 show M.ok (PV.lst (jj (x::xs) (some ((1:Nat):Int)) none))=_;unfold jj;rw[HT.j9,HT.mF,NS,Qm (by lia)];simp
variable{p:PV}{xs:List PV}{i:Nat}
theorem lA{env:ae}(h:xs.length<=10001):FE i env xs p=M.ok (.nx (env.set i (some (.ow (xs++[p]))))):=if_pos (Pf h (by unfold sizeLine;decide))
variable{q:PV}
theorem yM{env:ae}:xQ i (xs++[q]) p env (.int (-1))=M.ok (.nx (env.set i (some (.ow (xs++[p]))))):=by
 have z:qV (xs++[q]).length (-1)=some xs.length:=by
  unfold qV;rw[if_neg (by decide),if_pos (by rw[NW,Pn];lia)];congr 1;rw[NW,Pn];lia
 show (match qV (xs++[q]).length (-1) with | some j=>M.ok (Out.nx (env.set i (some (.ow ((xs++[q]).set j p))))) | none=>none)=_;rw[z];simp
theorem yh(i j k:Nat)(p q r:PV)(env:ae):zW i j k (.tup [p,q,r]) env=M.ok (((env.set i (some (.sh p))).set j (some (.sh q))).set k (some (.sh r))):=rfl
theorem Dx{p:Str}(h:¬ (pM p).cps.toList=[]):u_ (pP p)=oI (pO p):=by
 unfold u_ pO;rw[if_neg h]
 by_cases g:gw (pP p)=true
 .rw[if_pos g,if_pos g];rfl
 .rw[if_neg g,if_neg g];rfl
theorem kM(env:ae):i5 ao env=M.ok []:=by
 simp only[i5,ao,M.aA];exact if_pos (OQ _)
def dO:Option Int->PyData
 | some n=>.int n
 | none=>.none
theorem ud:∀ os:List (Option Int),gp (os.map oI)=some (os.map dO)
 | []=>rfl
 | none::r=>by
  show (dat .bH).bind (λd=>(gp (r.map oI)).map (d::·))=_;rw[ud r];rfl
 | some n::r=>by
  show (dat (.int n)).bind (λd=>(gp (r.map oI)).map (d::·))=_;rw[ud r];rfl
theorem FQ(os:List (Option Int)):inD .bH (.lst (os.map oI))=M.ok (.bl (os.any (·.isNone))):=by
 unfold inD;show (match gp (os.map oI) with | some ds=>_ | none=>_)=_;rw[ud];show bG _ _=_;have s:(os.map dO).all OY=true:=by
  rw[NY];intro d hd;obtain⟨p,_,rfl⟩:=OE.mp hd;cases p <;> simp[dO,OY,OA,OM]
 rw[aq ⟨by simp[OY,OA,OM],s⟩,TN];congr 2;apply congrArg (λf=>os.any f)
 funext o
 cases o <;> simp[dO,PR]
def Lp(p:Str):PV:=.lst (nL (pW p))
theorem vc{α:Type}(f g:α->Bool):∀ ps:List α,ps.all (λp=>!f p&&!g p)=(!(ps.any f)&&!(ps.any g))
 | []=>rfl
 | p::r=>by
  rw[PF,Qh,Qh,vc f g r];cases f p <;> cases g p <;> cases r.any f <;> cases r.any g <;> rfl
def told(p0:Str)(ps:List Str):Bool:=(rN p0).isSome&&ps.all (λp=>(rL p).isSome)
theorem Ba(p0:Str)(ps:List Str):((rN p0).isNone||(((ps.map pO).any (·.isNone))||decide ((0:Int)<(ps.filter λp=>(rN (pW p)).isNone).length)))=!told p0 ps:=by
 unfold told;have e:(ps.map pO).any (·.isNone)=ps.any λp=>(pO p).isNone:=by rw[TN];rfl
 have e2:decide ((0:Int)<(ps.filter λp=>(rN (pW p)).isNone).length)=ps.any λp=>(rN (pW p)).isNone:=by
  rw[Ql,decide_eq_true_eq,List.any_eq_true];constructor
  .intro h;obtain⟨x,hx⟩:=List.exists_mem_of_length_pos (show 0<(ps.filter λp=>(rN (pW p)).isNone).length by lia);exact⟨x,PX.mp hx⟩
  .rintro⟨x,h1,h2⟩;have:=RL ((PX (p:=λp=>(rN (pW p)).isNone)).mpr ⟨h1,h2⟩);lia
 rw[e,e2];have e3:∀ p,(rL p).isSome=(!(pO p).isNone&&!(rN (pW p)).isNone):=λp=>by
  unfold rL;cases rN (pW p) <;> cases pO p <;> rfl
 have e4:(rN p0).isSome=!(rN p0).isNone:=by cases rN p0 <;> rfl
 rw[e4];have e5:ps.all (λp=>(rL p).isSome)=(!(ps.any λp=>(pO p).isNone)&&!(ps.any λp=>(rN (pW p)).isNone)):=by
  rw[show (λp=>(rL p).isSome)=λp=>(!(pO p).isNone&&!(rN (pW p)).isNone) from funext e3];exact vc _ _ ps
 rw[e5];cases (rN p0).isNone <;> cases (ps.any λp=>(pO p).isNone) <;> cases (ps.any λp=>(rN (pW p)).isNone) <;> rfl
variable{ps:List Str}{p0:Str}
theorem o5(h:Tt a 10000)(e:Ps a=p0::ps):cK [.str a]=M.ok (if told p0 ps=true then .lst [.lst (nL p0),.lst (ps.map Lp),.lst (ps.map λp=>oI (pO p))] else .bH):=by
 have tt:∀ p∈ps,Tt p 10000:=λp hp=>sk h (by rw[e];exact NI _ hp);have t0:Tt p0 10000:=sk h (by rw[e];exact NJ);have l0:ps.length<=10000:=by
  have:=yZ h.le;rw[e,NS] at this;lia
 have sp:=pz h.le;rw[e] at sp;unfold cK eZ;dsimp? [i6,sp,kM,fH,bo,oP,et,Cf];refine dz ps (λr env=>∃ (d:List Str) (y4 y5 y6 y7:Option SV),env=[some (.sh (.str a)),some (.sh (.lst (.str p0::ps.map PV.str))),some (.ow (d.map Lp)),some (.ow (d.map λp=>oI (pO p))),y4,y5,y6,y7,none]/\ps=d++r) ⟨[],none,none,none,none,rfl,rfl⟩ ?_ ?_
 .rintro p r env ⟨d,y4,y5,y6,y7,rfl,hd⟩;have tp:=tt p (by rw[hd];simp);obtain⟨h1,h2,h3⟩:=qk tp;have dl:d.length<=10000:=by
   have:=congrArg S7 hd;rw[NW] at this;lia
  refine⟨_,[some (.sh (.str a)),some (.sh (.lst (.str p0::ps.map PV.str))),some (.ow ((d++[p]).map Lp)),some (.ow ((d++[p]).map λp=>oI (pO p))),some (.sh (.str p)),some (.sh (.str (pW p))),some (.sh (.str (pM p))),some (.sh (.str (pP p))),none],rfl,?_,d++[p],_,_,_,_,rfl,by rw[hd];simp⟩;have k1:(d.map Lp).length<=10001:=by rw[ND];lia
  have k2:(d.map λp=>oI (pO p)).length<=10001:=by rw[ND];lia
  dsimp? [ED,i6,uZ tp,yh,Ci h1,j4,ownAt,lA k1,lA k2,qN h2.sv iQ,iK "" cR]
  by_cases em:(pM p).cps.toList=[]
  .have eo:oI (pO p)=.int 1:=by unfold pO;rw[if_pos em];rfl
   dsimp? [em,decide_true,OL,eo];rfl
  .have eo:=Dx em;unfold u_ gw at eo;dsimp? [em,decide_false,EL,kb h3.sv h3.le,ownAt,eo,yM,OL];rfl
 .rintro env ⟨d,y4,y5,y6,y7,rfl,hd⟩;rw[Oh] at hd;subst hd;have i0:aC (.lst (.str p0::ps.map PV.str)) (.int 0)=M.ok (.str p0):=aT (j:=0) rfl rfl;have hg:ps.length<=sizeLine:=c8 l0;have key:bu (bD 0) (some (bJ (ai inD (λ_=>M.ok .bH) (af 0)))) (af 0) (ps.map Lp) [none]=M.ok ((ps.filter λp=>(rN (pW p)).isNone).map Lp):=vO ps (λp _=>by unfold Lp;dsimp? [Cy]) λp _=>by dsimp? []
  have io:inD .bH (.lst (ps.map λp=>oI (pO p)))=M.ok (.bl ((ps.map pO).any (·.isNone))):=by
   have:=FQ (ps.map pO)
   rwa [Oo] at this
  have o:=Ba p0 ps;dsimp? [i0,Ci t0,Cy,io,aq hg,key,ND];have o':told p0 ps=!((rN p0).isNone||(((ps.map pO).any (·.isNone))||decide ((0:Int)<(ps.filter λp=>(rN (pW p)).isNone).length))):=by rw[o,Bool.not_not]
  rw[o'];cases (rN p0).isNone with
  | true=>rfl
  | false =>
   cases (ps.map pO).any (·.isNone) with
   | true=>rfl
   | false =>
    cases decide ((0:Int)<(ps.filter λp=>(rN (pW p)).isNone).length) with
    | true=>rfl
    | false=>dsimp? []
theorem Bk(x:M α):x.bind (λa=>M.ok a)=x:=by
 cases x with
 | none=>rfl
 | some x=>cases x <;> rfl
def lv(p:Str):List Int×Int:=(rL p).getD ([],0)
def So(p0:Str):List Int:=(rN p0).getD []
def Lo(ps:List Str):List (List Int):=ps.map λp=>(lv p).1
def Po(ps:List Str):List Int:=ps.map λp=>(lv p).2
theorem Am(h:told p0 ps=true):rN p0=some (So p0)/\∀ p∈ps,rL p=some (lv p):=by
 unfold told at h;obtain⟨h1,h2⟩:=Pz.mp h;refine⟨?_,λp hp=>?_⟩
 .unfold So;cases e:rN p0 with
  | none=>rw[e] at h1;cases h1
  | some x=>rfl
 .have:=NY.mp h2 p hp;unfold lv;cases e:rL p with
  | none=>rw[e] at this;cases this
  | some x=>rfl
variable{z:List Int×Int}
theorem nJ{p:Str}(h:rL p=some z):rN (pW p)=some z.1/\pO p=some z.2:=by
 unfold rL at h;cases e1:rN (pW p) with
 | none=>rw[e1] at h;cases h
 | some xs =>
  rw[e1] at h;cases e2:pO p with
  | none=>rw[e2] at h;cases h
  | some n=>rw[e2] at h;cases h;exact⟨rfl,rfl⟩
theorem lJ(h:Tt a 10000)(e:Ps a=p0::ps)(t:told p0 ps=true):cK [.str a]=M.ok (.lst [lI (So p0),.lst ((Lo ps).map lI),lI (Po ps)]):=by
 rw[o5 h e,if_pos t];obtain⟨t1,t2⟩:=Am t;have a1:ps.map Lp=(Lo ps).map lI:=by
  unfold Lo;rw[Oo];refine QY λp hp=>?_;unfold Lp;rw[vA (nJ (t2 p hp)).1];rfl
 have a2:(ps.map λp=>oI (pO p))=(Po ps).map PV.int:=by
  unfold Po;rw[Oo];refine QY λp hp=>?_;rw[(nJ (t2 p hp)).2];rfl
 rw[vA t1,a1,a2];rfl
theorem uH(h:Tt a 10000)(e:Ps a=p0::ps)(t:told p0 ps=false):cK [.str a]=M.ok .bH:=by
 rw[o5 h e,t];rfl
theorem jt(h:Tt a 10000)(e:Ps a=p0::ps):bb [.str a]=if told p0 ps=true then fJ aw bA [] [tI (So p0),.lst ((Lo ps).map tI),lI (Po ps)] else some (.error (aL,none)):=by
 have tt:∀ p∈ps,Tt p 10000:=λp hp=>sk h (by rw[e];exact NI _ hp);have t0:Tt p0 10000:=sk h (by rw[e];exact NJ);have l0:ps.length<=sizeLine:=by
  have:=yZ h.le;rw[e,NS] at this;exact c8 (by lia)
 have sp:=pz h.le;rw[e] at sp;have i0:aC (.lst (.str p0::ps.map PV.str)) (.int 0)=M.ok (.str p0):=aT (j:=0) rfl rfl;have key:bu (bD 0) none (ah dQ (aa (af 0) ao)) (ps.map PV.str) [none]=if ps.all (λp=>(rL p).isSome)=true then M.ok (ps.map λp=>.tup [tI (lv p).1,.int (lv p).2]) else some (.error (aL,none)):=rG ps λp hp=>by
  dsimp? [n_ (tt p hp)];unfold lv;cases rL p with
  | none=>rfl
  | some z=>rfl
 have k1:bu (bD 0) none (ai aC (af 0) (λ_=>M.ok (.int 0))) (ps.map λp=>.tup [tI (lv p).1,.int (lv p).2]) [none]=M.ok (ps.map λp=>tI (lv p).1):=eH ps λp _=>by
  dsimp? [show aC (.tup [tI (lv p).1,.int (lv p).2]) (.int 0)=M.ok (tI (lv p).1) from aT (j:=0) rfl rfl]
 have k2:bu (bD 0) none (ai aC (af 0) (λ_=>M.ok (.int 1))) (ps.map λp=>.tup [tI (lv p).1,.int (lv p).2]) [none]=M.ok (ps.map λp=>.int (lv p).2):=eH ps λp _=>by
  dsimp? [show aC (.tup [tI (lv p).1,.int (lv p).2]) (.int 1)=M.ok (.int (lv p).2) from aT (j:=1) rfl rfl]
 have el:(ps.map λp=>tI (lv p).1)=(Lo ps).map tI:=by unfold Lo;rw[Oo];rfl
 have ep:(ps.map λp=>PV.int (lv p).2)=(Po ps).map PV.int:=by unfold Po;rw[Oo];rfl
 unfold bb dZ;dsimp? [sO,i6,sp,i0,yq t0];unfold told So;cases e1:rN p0 with
 | none=>rfl
 | some S =>
  dsimp? [fH,bo,oP,et,Cf,jz,ND,aq l0,key];cases e2:ps.all (λp=>(rL p).isSome) with
  | false=>rfl
  | true =>
   dsimp? [ND,aq l0,k1,k2,el,ep];exact Bk _
theorem o7{set:PV->ae->M ae}{body:ae->M Out}{α:Type}{inj:α->PV}{ok:α->Bool}{stop:α->M Out}(J:List α->ae->Prop)(hs:∀ a k,(stop a).bind (zL k)=stop a)
  (H:∀ a r env,J (a::r) env->∃ e',set (inj a) env=M.ok e'/\(ok a=true->∃ J5,body e'=M.ok (.nx J5)/\J r J5)/\(ok a=false->body e'=stop a)):∀ (xs:List α) (env:ae),J xs env ->
  (∃ J5,xs.find? (λa=>!ok a)=none/\gF set body (xs.map inj) env=M.ok (.nx J5)/\J [] J5)\/∃ a,xs.find? (λa=>!ok a)=some a/\gF set body (xs.map inj) env=stop a
 | [],env,h=>.inl ⟨env,rfl,rfl,h⟩
 | a::r,env,h=>by
  obtain⟨e',h1,h2,h3⟩:=H a r env h;rw[N5,gF,h1,M.aA,List.find?_cons];cases e:ok a with
  | true =>
   obtain⟨J5,h4,h5⟩:=h2 e;rw[h4];exact o7 J hs H r J5 h5
  | false =>
   rw[h3 e];exact .inr ⟨a,rfl,hs a _⟩
variable{body:ae->M Out}
theorem eE{β:Type}{k:Out->M β}{r:M β}{set:PV->ae->M ae}{inj:α->PV}(ok:α->Bool)(stop:α->M Out)(xs:List α){env:ae}(J:List α->ae->Prop)(h:J xs env)(hs:∀ a k,(stop a).bind (zL k)=stop a)
  (H:∀ a r env,J (a::r) env->∃ e',set (inj a) env=M.ok e'/\(ok a=true->∃ J5,body e'=M.ok (.nx J5)/\J r J5)/\(ok a=false->body e'=stop a))
  (h1:xs.find? (λa=>!ok a)=none->∀ J5,J [] J5->k (.nx J5)=r) (h2:∀ a,xs.find? (λa=>!ok a)=some a->(stop a).bind k=r):M.bind (gF set body (xs.map inj) env) k=r:=by
 rcases o7 J hs H xs env h with ⟨J5,e1,e2,e3⟩ | ⟨a,e1,e2⟩
 .rw[e2,M.aA];exact h1 e1 J5 e3
 .rw[e2];exact h2 a e1
theorem pA(d:α)(f:α->Nat->PV):∀ (xs:List α),xs.zipIdx.map (λz=>f z.1 z.2)=(N2 xs.length).map λk=>f (xs.getD k d) k:=λxs=>by
 apply List.ext_getElem
 .simp
 .intro i h1 h2;simp at h1 h2;simp[Om,NG h2]
def fb(n:Nat)(ok:Nat->Bool):Option Nat:=(N2 n).find? λk=>!ok k
theorem mv{ok:Nat->Bool}(h:fb n ok=none):∀ k,k<n->ok k=true:=λk hk=>by
 have:=List.find?_eq_none.mp h k (Oi.mpr hk);simpa using this
theorem k9(i:Int):eF [.int i]=M.ok (.bl true):=by rfl
theorem vv{inj:α->PV}{h:α->Bool}(xs:List α)(n:Int)(hp:p=.tup (xs.map inj)\/p=.lst (xs.map inj))(H:∀ a∈xs,eF [inj a]=M.ok (.bl (h a)))(hz:xs.length<=sizeLine):gj [p,.int n]=M.ok (.bl (decide ((xs.length:Int)=n)&&xs.all h)):=by
 have key:bu (bD 0) none (ah eF (aa (af 0) ao)) (xs.map inj) [none]=M.ok (xs.map λa=>.bl (h a)):=eH xs λa ha=>by dsimp? [H a ha]
 have MR:sD [.lst (xs.map λa=>.bl (h a))]=M.ok (.bl (xs.all h)):=by
  have:=qX (xs.map h);rw[Oo] at this;rw[show (λa=>PV.bl (h a))=PV.bl∘h from rfl,this];simp[TM]
 unfold gj ka;rcases hp with rfl | rfl
 all_goals
  dsimp? [ND]
  by_cases e:(xs.length:Int)=n
  .simp only[e,decide_true,Tu,M.aA,Qp,if_false,m_,Tv];dsimp? [ND,aq hz,key,MR]
  .simp only[e,decide_false,R8,M.aA,if_true,rf,Qt];dsimp? []
theorem yl(xs:List Int)(n:Int)(hz:xs.length<=sizeLine):gj [tI xs,.int n]=M.ok (.bl (decide ((xs.length:Int)=n))):=by
 exact(vv (p:=tI xs) (h:=λ_=>true) xs n (.inl rfl) (λa _=>k9 a) hz).trans (by rw[NY.mpr λ_ _=>rfl,Tw])
theorem E4(xs:List Int)(n:Int)(hz:xs.length<=sizeLine):gj [lI xs,.int n]=M.ok (.bl (decide ((xs.length:Int)=n))):=by
 exact(vv (p:=lI xs) (h:=λ_=>true) xs n (.inr rfl) (λa _=>k9 a) hz).trans (by rw[NY.mpr λ_ _=>rfl,Tw])
theorem FL{f:List Int->PV}(hf:f=tI\/f=lI)(xs:List Int)(n:Int)(hz:xs.length<=sizeLine):gj [f xs,.int n]=M.ok (.bl (decide ((xs.length:Int)=n))):=by
 rcases hf with rfl | rfl
 .exact yl xs n hz
 .exact E4 xs n hz
theorem zf{f:List Int->PV}(hf:f=tI\/f=lI)(xs:List Int):bR (f xs)=some (xs.map PV.int):=by rcases hf with rfl | rfl <;> rfl
theorem within_int(x a b:Int):ff [.int x,.int a,.int b]=M.ok (.bl (decide (a<=x/\x<=b))):=by
 unfold ff fq;dsimp? [k9]
 by_cases h:a<=x
 .simp only[h,decide_true,if_true,true_and];dsimp? []
 .simp only[h,decide_false,false_and];dsimp? []
theorem dj(h:bR p=some xs):me p=M.ok (.int xs.length):=by
 cases p <;> first | (cases h;rfl) | cases h
theorem jw(xs:List Int)(hp:bR p=some (xs.map PV.int))(h1:1<=xs.length)(h6:xs.length<=6)(hx:∀ x∈xs,2<=x/\x<=360):bf [p]=M.ok .bH:=by
 unfold bf cA;have a1:¬ (6:Int)<xs.length:=by lia
 have a2:¬ (xs.length:Int)=0:=by lia
 dsimp? [a1,a2,decide_false,dj hp,ND,qp xs hp];refine dz xs.zipIdx (λzs env=>(∃ b c,env=[some (.sh p),b,c])/\∀ z∈zs,2<=z.1/\z.1<=360) ⟨⟨_,_,rfl⟩,λz hz=>hx z.1 (Rb hz)⟩ ?_ ?_
 .rintro⟨a,i⟩ r env ⟨⟨b,c,rfl⟩,hz⟩;have ha:=hz (a,i) NJ;refine⟨_,[some (.sh p),some (.sh (.int i)),some (.sh (.int a))],rfl,?_,⟨_,_,rfl⟩,λz Ma=>hz z (NI _ Ma)⟩;dsimp? [within_int,ha,and_self,decide_true]
 .rintro J5 ⟨⟨b,c,rfl⟩,_⟩;rfl
theorem iY{f:List Int->PV}(hf:f=tI\/f=lI)(n:Nat)(xs:List (List Int))(h8:xs.length<=8)(hx:∀ x∈xs,x.length=n)(hn:n<=100):bz [.lst (xs.map f),.int n]=M.ok .bH:=by
 unfold bz cJ;have a1:¬ (8:Int)<xs.length:=by lia
 dsimp? [a1,decide_false,ND,vU];refine dz xs.zipIdx (λzs env=>(∃ b c,env=[some (.sh (.lst (xs.map f))),some (.sh (.int n)),b,c])/\∀ z∈zs,z.1.length=n) ⟨⟨_,_,rfl⟩,λz hz=>hx z.1 (Rb hz)⟩ ?_ ?_
 .rintro⟨a,i⟩ r env ⟨⟨b,c,rfl⟩,hz⟩;have ha:a.length=n:=hz (a,i) NJ;refine⟨_,[some (.sh (.lst (xs.map f))),some (.sh (.int n)),some (.sh (.int i)),some (.sh (f a))],rfl,?_,⟨_,_,rfl⟩,λz Ma=>hz z (NI _ Ma)⟩;dsimp? [FL hf a n (bp (by lia)),ha,decide_true]
 .rintro J5 ⟨⟨b,c,rfl⟩,_⟩;rfl
theorem jb(xs:List PV)(pr:List Int)(hp:p=tI pr\/p=lI pr)(h8:xs.length<=8)(hl:pr.length=xs.length)(hx:∀ x∈pr,1<=x/\x<=1000):cy [.lst xs,p]=M.ok (tI pr):=by
 have sq:bR p=some (pr.map PV.int):=by rcases hp with rfl | rfl <;> rfl
 have nn:gy p .bH=M.ok (.bl false):=by rcases hp with rfl | rfl <;> rfl
 have ix:∀ i:Nat,i<pr.length->aC p (.int (i:Int))=M.ok (.int (pr.getD i 0)):=λi hi=>by
  have e:(pr.map PV.int)[i]?=some (.int (pr.getD i 0)):=by rw[NZ,NG hi,Om,NG hi];rfl
  rcases hp with rfl | rfl
  .exact aT (p:=tI pr) (j:=i) rfl e
  .exact aT (p:=lI pr) (j:=i) rfl e
 have l1:=dj sq;rw[ND,hl] at l1;have mx:mH (λi j=>if j>i then j else i) [.int (xs.length:Int),.int (xs.length:Int)]=M.ok (.int (xs.length:Int)):=by
  show M.ok (PV.int (if (xs.length:Int)>(xs.length:Int) then _ else _))=_;rw[if_neg (by lia)]
 unfold cy dI;dsimp? [nn,l1,mx,cT (n:=(xs.length:Int)) (by lia) (by lia),Og];refine dz (N2 xs.length) (λzs env=>(∃ y,env=[some (.sh (.lst xs)),some (.sh p),y])/\∀ z∈zs,z<xs.length) ⟨⟨_,rfl⟩,λz hz=>Oi.mp hz⟩ ?_ ?_
 .rintro i r env ⟨⟨y,rfl⟩,hz⟩;have hi:=hz i NJ;have hv:=hx (pr.getD i 0) (by rw[Om,NG (by lia)];exact Pc _);have n1:¬ (xs.length:Int)<=(i:Int):=by lia
  refine⟨_,[some (.sh (.lst xs)),some (.sh p),some (.sh (.int (i:Int)))],rfl,?_,⟨_,rfl⟩,λz h=>hz z (NI _ h)⟩;dsimp? [l1,n1,decide_false,ix i (by lia),within_int,hv,and_self,decide_true]
 .rintro J5 ⟨⟨y,rfl⟩,_⟩;dsimp? [sq];rfl
def ou(xs J4:List Int):List Int:=(xs.zip J4).map λz=>z.1%z.2
theorem rj(p q:PV)(xs J4:List Int)(hp:bR p=some (xs.map PV.int))(hq:bR q=some (J4.map PV.int))(hs:∀ s∈J4,0<s)(hz:xs.length<=1000):jg [p,q]=M.ok (tI (ou xs J4)):=by
 have key:bu (gg 0 1) none (ai cC (af 0) (af 1)) ((xs.zip J4).map λz=>.tup [.int z.1,.int z.2]) [none,none]=M.ok ((xs.zip J4).map λz=>.int (z.1%z.2)):=by
  refine t8 (p:=λz:Int×Int=>PV.int z.1) (q:=λz:Int×Int=>PV.int z.2) (xs.zip J4) λz hz=>?_;have:=hs z.2 (OU (a:=z.1) (b:=z.2) hz).2;dsimp? [aB this]
 unfold jg mq;have hl:(xs.zip J4).length<=sizeLine:=by rw[Pw];exact bp (N3 (Nat.min_le_left _ _) hz)
 dsimp? [j5 xs J4 hp hq,ND,aq hl,key];rw[tI,ou,Oo];rfl
theorem wU(a b c:PV):aC (.tup [a,b,c]) (.int 0)=M.ok a:=aT (j:=0) rfl rfl
theorem Gb(a b c:PV):aC (.tup [a,b,c]) (.int 1)=M.ok b:=aT (j:=1) rfl rfl
theorem Gv(a b c:PV):aC (.tup [a,b,c]) (.int 2)=M.ok c:=aT (j:=2) rfl rfl
theorem xA(a b:Int)(ha:a.natAbs<2^60)(hb:b.natAbs<2^60):∃ s t,km [.int a,.int b]=M.ok (.tup [.int (PJ a b),.int s,.int t])/\s*a+t*b=PJ a b/\s.natAbs<=b.natAbs+1/\t.natAbs<=a.natAbs+(b.natAbs+1)*a.natAbs+b.natAbs+1:=by
 let J:ae->Prop:=λenv=>∃ r s t r' s' t' x y,env=[some (.sh (.int a)),some (.sh (.int b)),some (.sh ((PV.tup [PV.int r,PV.int s,PV.int t]))),some (.sh ((PV.tup [PV.int r',PV.int s',PV.int t']))),x,y]/\Eu.St a b r s t r' s' t'
 let m:ae->Nat:=λenv=>match env with
  | [_,_,_,some (.sh (.tup [.int r,_,_])),_,_]=>r.natAbs
  | _=>0
 have hk:(b.natAbs+1)*a.natAbs<=2^60*2^60:=To (by lia) (by lia);have hk2:(2:Nat)^60*2^60=2^120:=by decide
 have start:J [some (.sh (.int a)),some (.sh (.int b)),some (.sh ((PV.tup [PV.int a,PV.int 1,PV.int 0]))),some (.sh ((PV.tup [PV.int b,PV.int 0,PV.int 1]))),none,none]:=⟨_,_,_,_,_,_,_,_,rfl,Eu.start a b⟩
 have loop:=wH (u:=bJ (ai oR (ai aC (af 3) (λ_=>M.ok (.int 0))) (λ_=>M.ok (.int 0)))) (b:=(ak (bc 4 (ai dM (ai aC (af 2) (λ_=>M.ok (.int 0))) (ai aC (af 3) (λ_=>M.ok (.int 0)))))
  (ak (bc 5 (dH (aa (ai nO (ai aC (af 2) (λ_=>M.ok (.int 0))) (ai gf (af 4) (ai aC (af 3) (λ_=>M.ok (.int 0))))) (aa (ai nO (ai aC (af 2) (λ_=>M.ok (.int 1))) (ai gf (af 4) (ai aC (af 3) (λ_=>M.ok (.int 1))))) (aa (ai nO (ai aC (af 2) (λ_=>M.ok (.int 2))) (ai gf (af 4) (ai aC (af 3) (λ_=>M.ok (.int 2))))) ao)))))
  (ak (bc 2 (af 3))
  (ak (bc 3 (af 5))
  aj))))) J m ?_ _ start
 .obtain⟨J5,e1,⟨r,s,t,r',s',t',x,y,rfl,st⟩,e2⟩:=loop;have MM:r'=0:=by
   revert e2;dsimp? [wU];intro e2;have:(!decide (r'=0))=false:=by injection e2 with e2;injection e2
   simpa using this
  subst MM;obtain⟨d1,d2⟩:=Eu.done st;have hg:(r.natAbs:Int)=PJ a b:=by
   have h1:r.natAbs∣PJ a b:=Int.dvd_gcd (Tp.mpr d1) (Tp.mpr d2);have h2:((PJ a b:Nat):Int)∣r:=by
    rw[st.c0];exact Int.dvd_add (Sk (S4 ..) (Rx _ _)) (Sk (Int.gcd_dvd_right ..) (Rx _ _))
   have h3:PJ a b∣r.natAbs:=Int.ofNat_dvd_left.mp h2;rw[Nat.dvd_antisymm h1 h3]
  unfold km kd;dsimp? [];rw[e1];dsimp? [wU,Gb,Gv]
  by_cases hneg:r<0
  .refine⟨-s,-t,?_,?_,by rw[R7];exact st.b0,by rw[R7];exact st.d0⟩
   .simp only[hneg,decide_true,if_true];dsimp? [];rw[show -r=(PJ a b:Int) by lia]
   .have:=st.c0;rw[Int.neg_mul,Int.neg_mul];lia
  .refine⟨s,t,?_,?_,st.b0,st.d0⟩
   .simp only[hneg,decide_false,Qp,if_false];dsimp? [];rw[show r=(PJ a b:Int) by lia]
   .have:=st.c0;lia
 .rintro env ⟨r,s,t,r',s',t',x,y,rfl,st⟩
  by_cases h0:r'=0
  .refine .inl ?_;dsimp? [wU];simp[h0]
  .refine .inr ⟨?_,?_⟩
   .dsimp? [wU];simp[h0]
   .obtain⟨Mb,lt⟩:=Eu.turn st h0;have b1:=st.m1;have b0:=st.m0;have c1:=st.b1;have c2:=st.d1;have c3:=Mb.m1;have q1:(r.fdiv r').natAbs<=r.natAbs+1:=by
     obtain⟨f1,f2,f3⟩:=Eu.oZ r r' h0;generalize r.fdiv r'=q at *;have e:q*r'=r-(r-q*r'):=by lia
     have e2:(q*r').natAbs<=r.natAbs+(r-q*r').natAbs:=by lia
     rw[QB] at e2;have:q.natAbs*1<=q.natAbs*r'.natAbs:=Qd _ (by lia);rcases Nat.lt_or_ge (r.natAbs+1) q.natAbs with h | h
     .have h5:(r.natAbs+2)*r'.natAbs<=q.natAbs*r'.natAbs:=QL _ (by lia);have h6:r.natAbs*1<=r.natAbs*r'.natAbs:=Qd _ (by lia);rw[Nat.add_mul] at h5;lia
     .exact h
    have q2:(r.fdiv r').natAbs<2^200:=by lia
    refine⟨[some (.sh (.int a)),some (.sh (.int b)),some (.sh ((PV.tup [PV.int r',PV.int s',PV.int t']))),some (.sh ((PV.tup [PV.int (r-r.fdiv r'*r'),PV.int (s-r.fdiv r'*s'),PV.int (t-r.fdiv r'*t')]))),some (.sh (.int (r.fdiv r'))),some (.sh ((PV.tup [PV.int (r-r.fdiv r'*r'),PV.int (s-r.fdiv r'*s'),PV.int (t-r.fdiv r'*t')])))],?_,⟨_,_,_,_,_,_,_,_,rfl,Mb⟩,lt⟩;dsimp? [wU,Gb,Gv,pI h0 (NP (show r'.natAbs<2^200 by lia) (QK (by decide) (by decide))),bO (k:=200) (l:=200) q2 (show r'.natAbs<2^200 by lia),bO (k:=200) (l:=200) q2 (show s'.natAbs<2^200 by lia),bO (k:=200) (l:=200) q2 (show t'.natAbs<2^200 by lia)]
def R(J4:List Int):Int:=(Lc.FI (J4.map S5):Nat)
structure Sz (J4:List Int):Prop where
 h1:1<=J4.length
 h6:J4.length<=6
 hx:∀ x∈J4,2<=x/\x<=360
structure Acc (J4 r:List Int) (acc:Nat):Prop where
 pos:0<acc
 le:acc<=2^(9*(6-r.length))
 len:r.length<=6
 val:(r.map S5).foldl RK acc=Lc.FI (J4.map S5)
 B7:∀ x∈r,2<=x/\x<=360
variable{J4:List Int}
theorem Acc.start(h:Sz J4):Acc J4 J4 1:=⟨by decide,Nat.one_le_two_pow,h.h6,rfl,h.hx⟩
variable{acc:Nat}
theorem Acc.lt{r:List Int}(h:Acc J4 r acc):acc<2^60:=by
 have h2:(2:Nat)^(9*(6-r.length))<=2^54:=QK (by decide) (by lia);have:=h.le;lia
theorem Acc.turn{r:List Int}{x:Int}(h:Acc J4 (x::r) acc):Acc J4 r (RK acc x.toNat)/\(acc:Int)/(PJ acc x:Nat)*x=(RK acc x.toNat:Nat)/\(acc:Int)/(PJ acc x:Nat)<=acc/\0<PJ acc x:=by
 have hx:=h.B7 x NJ;have hp:=h.pos;obtain⟨n,rfl⟩:=OB (show 0<=x by lia);have hg:PJ (acc:Int) (n:Int)=Nat.gcd acc n:=rfl;refine⟨⟨Nat.lcm_pos hp (by lia),?_,?_,h.val,λy hy=>h.B7 y (NI _ hy)⟩,?_,?_,?_⟩
 .have h1:RK acc n<=acc*n:=Tz (Nat.mul_pos hp (by lia)) (Nat.lcm_dvd (Nat.dvd_mul_right ..) (Nat.dvd_mul_left ..));have h2:acc*n<=2^(9*(6-(r.length+1)))*2^9:=To h.le (by lia);have hl:r.length+1<=6:=h.len;rw[<- Nat.pow_add,show 9*(6-(r.length+1))+9=9*(6-r.length) by lia] at h2;exact N3 h1 h2
 .have hl:r.length+1<=6:=h.len;lia
 .rw[hg,Og,<- Lc.zD];norm_cast
 .rw[hg];exact Int.ofNat_le.mpr (Nat.div_le_self acc (Nat.gcd acc n))
 .rw[hg];exact Nat.gcd_pos_of_pos_left _ hp
theorem gG(J4:List Int)(hp:bR p=some (J4.map PV.int))(h:Sz J4):eX [p]=M.ok (.int (R J4)):=by
 unfold eX eV;dsimp? [hp];refine dz J4 (λr env=>∃ acc x,env=[some (.sh p),some (.sh (.int (acc:Nat))),x]/\Acc J4 r acc) ⟨1,_,rfl,.start h⟩ ?_ ?_
 .rintro a r env ⟨acc,x,rfl,A⟩;obtain⟨A2,e1,e2,e3⟩:=A.turn;have l1:=A.lt;have ha:=A.B7 a NJ;obtain⟨s,t,ec,_,_,_⟩:=xA (acc:Int) a (by lia) (by lia);have g1:PJ acc a<=acc:=Tz A.pos (Int.ofNat_dvd.mp (S4 ..));have d0:0<=(acc:Int)/(PJ acc a:Nat):=Tf (by lia) (by lia);refine⟨_,[some (.sh p),some (.sh (.int (RK acc a.toNat:Nat))),some (.sh (.int a))],rfl,?_,_,_,rfl,A2⟩;dsimp? [ec,wU,cG (i:=(acc:Int)) (show (0:Int)<(PJ acc a:Nat) by lia) (show ((PJ acc a:Nat):Int)<2^64 by lia),bO (k:=64) (l:=64) (show ((acc:Int)/(PJ acc a:Nat)).natAbs<2^64 by lia) (show a.natAbs<2^64 by lia),e1]
 .rintro J5 ⟨acc,x,rfl,A⟩;dsimp? [];have:=A.val;rw[R,<- this];rfl
def ux(ns J4:List Int)(levers:List (List Int)):List (Str×PV):=[("dial_sizes", tI J4),("lever_settings", .tup (levers.map tI)),("lever_prices", tI ns),("least_round", .int (R J4))]
def qB(ns J4:List Int)(levers:List (List Int)):PV:=.obj aw (ux ns J4 levers)
theorem s_(f:Str)(p:PV):∀ fs:List (Str×PV),(qA f p fs).length<=fs.length+1
 | []=>by simp[qA]
 | (g,q)::r=>by
  have:=s_ f p r;unfold qA
  split
  .simp
  .simp;lia
theorem jM{f:Str}{fs:List (Str×PV)}(h:fs.length<=n):(qA f p fs).length<=n+1:=N3 (s_ f p fs) (by lia)
theorem jc(a C:Addr)(f:Str)(p:PV)(fs:List (Str×PV))(r:ae)(h:fs.length<1000):yV 0 C f p (some (.bd a C fs)::r)=M.ok (.nx (some (.bd a C (qA f p fs))::r)):=by
 show bG _ _=_;rw[aq ⟨rfl,h⟩];rfl
theorem vR{pp:PV}{pr:List Int}{f:List Int->PV}(hf:f=tI\/f=lI)(J4:List Int)(levers:List (List Int))(hpp:pp=tI pr\/pp=lI pr)(Kp:pr.length=levers.length)(hpx:∀ x∈pr,1<=x/\x<=1000)(hp:bR p=some (J4.map PV.int))(h:Sz J4)(h8:levers.length<=8)(hl:∀ l∈levers,l.length=J4.length):fJ aw bA [] [p,.lst (levers.map f),pp]=M.ok (qB pr J4 (levers.map λl=>ou l J4)):=by
 have key:∀ a,bA a ([p,.lst (levers.map f),pp]++[])=M.ok (ux pr J4 (levers.map λl=>ou l J4)):=by
  intro a;have e1:bu (bD 0) none (ah jg (aa (af 0) (aa (af 1) ao))) (levers.map f) [none,some (.sh p)]=M.ok (levers.map λl=>tI (ou l J4)):=by
   refine eH levers λl hm=>?_;have hs:=hl l hm;have:=rj (f l) p l J4 (zf hf l) hp (λs hs=>by have:=h.hx s hs;lia) (by rw[hs];have:=h.h6;lia);dsimp? [this]
  unfold bA da;simp only[n6];rw[aq (show ([p,PV.lst (levers.map f),pp]++([]:List PV)).length+1=4 from rfl)];simp only[ug,sC];dsimp? [hp,dj hp,jw J4 hp h.h1 h.h6 h.hx,iY hf J4.length levers h8 hl (by have:=h.h6;lia),l4,hp,dj hp,ND,aq (bp (show levers.length<=1000 by lia)),e1,jb (levers.map f) pr hpp (show (levers.map f).length<=8 by rw[ND];exact h8) (by rw[ND];exact Kp) hpx,gG J4 hp h];rw[jc _ _ _ _ _ _ (by simp)];dsimp? [l4,hp,dj hp,ND,aq (bp (show levers.length<=1000 by lia)),e1,jb (levers.map f) pr hpp (show (levers.map f).length<=8 by rw[ND];exact h8) (by rw[ND];exact Kp) hpx,gG J4 hp h];rw[jc _ _ _ _ _ _ (Pf (jM (OQ 0)) (by decide))];dsimp? [l4,hp,dj hp,ND,aq (bp (show levers.length<=1000 by lia)),e1,jb (levers.map f) pr hpp (show (levers.map f).length<=8 by rw[ND];exact h8) (by rw[ND];exact Kp) hpx,gG J4 hp h];rw[jc _ _ _ _ _ _ (Pf (jM (jM (OQ 0))) (by decide))];dsimp? [l4,hp,dj hp,ND,aq (bp (show levers.length<=1000 by lia)),e1,jb (levers.map f) pr hpp (show (levers.map f).length<=8 by rw[ND];exact h8) (by rw[ND];exact Kp) hpx,gG J4 hp h];rw[jc _ _ _ _ _ _ (Pf (jM (jM (jM (OQ 0)))) (by decide))];dsimp? [];show bG _ _=_;rw[aq ⟨rfl,rfl⟩];rw[ux,Oo];rfl
 unfold fJ;rw[qF key];rfl
theorem zK(J4:List Int)(levers:List (List Int)):(ux ns J4 levers).lookup (NC "dial_sizes")=some (tI J4):=rfl
theorem xr(J4:List Int)(levers:List (List Int)):(ux ns J4 levers).lookup (NC "lever_settings")=some (.tup (levers.map tI)):=rfl
theorem GP(J4:List Int)(levers:List (List Int)):(ux ns J4 levers).lookup (NC "sizes")=none:=rfl
theorem Gz(J4:List Int)(levers:List (List Int)):(ux ns J4 levers).lookup (NC "levers")=none:=rfl
theorem yx(J4:List Int)(levers:List (List Int)):cb [qB ns J4 levers]=M.ok (tI J4):=by
 unfold cb dm;dsimp? [tZ,qB,beq_self_eq_true,zK]
theorem xc(J4:List Int)(levers:List (List Int)):bL [qB ns J4 levers]=M.ok (.tup (levers.map tI)):=by
 unfold bL cZ;dsimp? [tZ,qB,beq_self_eq_true,xr]
variable{levers:List (List Int)}
theorem vD{g:ae->M PV}{env:ae}(h:g env=M.ok (qB ns J4 levers)):dD aw "sizes" cb g ao env=M.ok (tI J4):=by
 have:=yx (ns:=ns) J4 levers;rw[dD,h,M.aA];show bG _ (M.bind (ao env) _)=_;rw[aq ⟨rfl,GP J4 levers⟩];exact this
theorem rh{g:ae->M PV}{env:ae}(h:g env=M.ok (qB ns J4 levers)):dD aw "levers" bL g ao env=M.ok (.tup (levers.map tI)):=by
 have:=xc (ns:=ns) J4 levers;rw[dD,h,M.aA];show bG _ (M.bind (ao env) _)=_;rw[aq ⟨rfl,Gz J4 levers⟩];exact this
def As(S:List Int)(k:Nat):Bool:=decide (2<=S.getD k 0/\S.getD k 0<=360)
def pQ(k:Nat):EX:=(br,some [("dial", .int (k:Int))])
theorem wZ(xs:List Int)(hp:bR p=some (xs.map PV.int))(h:6<xs.length):bf [p]=some (.error (bj,none)):=by
 unfold bf cA;have a1:(6:Int)<xs.length:=by lia
 dsimp? [a1,decide_true,dj hp,ND,eR,aq k4]
theorem zC(hp:bR p=some []):bf [p]=some (.error (pQ 0)):=by
 unfold bf cA;have l:me p=M.ok (.int 0):=dj hp;dsimp? [l,fI,(show decide ((6:Int)<0)=false from rfl),decide_true];rfl
theorem uc(xs:List Int)(hp:bR p=some (xs.map PV.int))(h1:1<=xs.length)(h6:xs.length<=6):bf [p]=match fb xs.length (As xs) with | none=>M.ok .bH | some k=>some (.error (pQ k)):=by
 unfold bf cA;have a1:¬ (6:Int)<xs.length:=by lia
 have a2:¬ (xs.length:Int)=0:=by lia
 have z:(xs.zipIdx.map λz=>PV.tup [.int (z.2:Int),.int z.1])=(N2 xs.length).map λk=>.tup [.int (k:Int),.int (xs.getD k 0)]:=pA 0 (λa k=>PV.tup [.int (k:Int),.int a]) xs;dsimp? [a1,a2,decide_false,dj hp,ND,qp xs hp,z];refine eE (As xs) (λk=>some (.error (pQ k))) (N2 xs.length) (λr env=>∃ b c,env=[some (.sh p),b,c]) ⟨_,_,rfl⟩ (λ_ _=>rfl) ?_ (λe J5 hj=>?_) λk e=>?_
 .rintro k r env ⟨b,c,rfl⟩;refine⟨[some (.sh p),some (.sh (.int k)),some (.sh (.int (xs.getD k 0)))],rfl,λhk=>⟨[some (.sh p),some (.sh (.int k)),some (.sh (.int (xs.getD k 0)))],?_,_,_,rfl⟩,λhk=>?_⟩
  .have:=of_decide_eq_true hk;dsimp? [within_int,this,and_self,decide_true]
  .have:=of_decide_eq_false hk;dsimp? [within_int,this,decide_false,fI];rfl
 .obtain⟨b,c,rfl⟩:=hj;rw[show fb xs.length (As xs)=none from e];rfl
 .rw[show fb xs.length (As xs)=some k from e];rfl
def xa(n:Nat)(Ls:List (List Int))(k:Nat):Bool:=decide ((Ls.getD k []).length=n)
def qM(k:Nat):EX:=(aZ,some [("lever", .int (k:Int))])
def Ap(Pr:List Int)(k:Nat):Bool:=decide (1<=Pr.getD k 0/\Pr.getD k 0<=1000)
def qq(k:Nat):EX:=(aW,some [("lever", .int (k:Int))])
theorem rH(n:Nat)(Ls:List (List Int))(h:8<Ls.length):bz [.lst (Ls.map tI),.int n]=some (.error (bj,none)):=by
 unfold bz cJ;have a1:(8:Int)<Ls.length:=by lia
 dsimp? [a1,decide_true,ND,eR,aq k4]
theorem uo(n:Nat)(Ls:List (List Int))(h8:Ls.length<=8)(hz:∀ l∈Ls,l.length<=sizeLine):bz [.lst (Ls.map tI),.int n]=match fb Ls.length (xa n Ls) with | none=>M.ok .bH | some k=>some (.error (qM k)):=by
 unfold bz cJ;have a1:¬ (8:Int)<Ls.length:=by lia
 have z:(Ls.zipIdx.map λz=>PV.tup [.int (z.2:Int),tI z.1])=(N2 Ls.length).map λk=>.tup [.int (k:Int),tI (Ls.getD k [])]:=pA [] (λa k=>PV.tup [.int (k:Int),tI a]) Ls;have en:Fo [.lst (Ls.map tI)]=M.ok ((N2 Ls.length).map λk=>.tup [.int (k:Int),tI (Ls.getD k [])]):=by
  rw[<- z];exact vU Ls
 dsimp? [a1,decide_false,ND,en];refine eE (xa n Ls) (λk=>some (.error (qM k))) (N2 Ls.length) (λr env=>(∃ b c,env=[some (.sh (.lst (Ls.map tI))),some (.sh (.int n)),b,c])/\∀ k∈r,k<Ls.length) ⟨⟨_,_,rfl⟩,λk hk=>Oi.mp hk⟩ (λ_ _=>rfl) ?_ (λe J5 hj=>?_) λk e=>?_
 .rintro k r env ⟨⟨b,c,rfl⟩,hr⟩;have hk:=hr k NJ;have hm:Ls.getD k []∈Ls:=by rw[Om,NG hk];exact Pc hk
  have rw1:=yl (Ls.getD k []) n (hz _ hm);have ed:decide (((Ls.getD k []).length:Int)=(n:Int))=xa n Ls k:=by
   unfold xa;rw[Ql,decide_eq_true_eq,decide_eq_true_eq];lia
  rw[ed] at rw1;refine⟨[some (.sh (.lst (Ls.map tI))),some (.sh (.int n)),some (.sh (.int k)),some (.sh (tI (Ls.getD k [])))],rfl,λh=>⟨[some (.sh (.lst (Ls.map tI))),some (.sh (.int n)),some (.sh (.int k)),some (.sh (tI (Ls.getD k [])))],?_,⟨_,_,rfl⟩,λj hj=>hr j (NI _ hj)⟩,λh=>?_⟩
  .dsimp? [rw1,h]
  .dsimp? [rw1,h,fI];rfl
 .obtain⟨⟨b,c,rfl⟩,_⟩:=hj;rw[show fb Ls.length (xa n Ls)=none from e];rfl
 .rw[show fb Ls.length (xa n Ls)=some k from e];rfl
theorem uw(xs:List PV)(Pr:List Int)(hl:Pr.length=xs.length)(h8:xs.length<=8):cy [.lst xs,lI Pr]=match fb xs.length (Ap Pr) with | none=>M.ok (tI Pr) | some k=>some (.error (qq k)):=by
 have ix:∀ i:Nat,i<Pr.length->aC (lI Pr) (.int (i:Int))=M.ok (.int (Pr.getD i 0)):=λi hi=>aT (p:=lI Pr) (j:=i) rfl (by rw[NZ,NG hi,Om,NG hi];rfl);have mx:mH (λi j=>if j>i then j else i) [.int (xs.length:Int),.int (xs.length:Int)]=M.ok (.int (xs.length:Int)):=by
  show M.ok (PV.int (if (xs.length:Int)>(xs.length:Int) then _ else _))=_;rw[if_neg (by lia)]
 have nn:gy (lI Pr) .bH=M.ok (.bl false):=rfl;unfold cy dI;dsimp? [nn,hl,mx,cT (n:=(xs.length:Int)) (by lia) (by lia),Og];refine eE (Ap Pr) (λk=>some (.error (qq k))) (N2 xs.length) (λr env=>(∃ y,env=[some (.sh (.lst xs)),some (.sh (lI Pr)),y])/\∀ k∈r,k<xs.length) ⟨⟨_,rfl⟩,λk hk=>Oi.mp hk⟩ (λ_ _=>rfl) ?_ (λe J5 hj=>?_) λk e=>?_
 .rintro k r env ⟨⟨y,rfl⟩,hr⟩;have hk:=hr k NJ;have c1:¬ ((xs.length:Int)<=(k:Int)):=by lia
  refine⟨[some (.sh (.lst xs)),some (.sh (lI Pr)),some (.sh (.int k))],rfl,λh=>⟨[some (.sh (.lst xs)),some (.sh (lI Pr)),some (.sh (.int k))],?_,⟨_,rfl⟩,λj hj=>hr j (NI _ hj)⟩,λh=>?_⟩
  .have:=of_decide_eq_true h;dsimp? [hl,c1,decide_false,ix k (by lia),within_int,this,and_self,decide_true]
  .have:=of_decide_eq_false h;dsimp? [hl,c1,decide_false,ix k (by lia),within_int,this,fI];rfl
 .obtain⟨⟨y,rfl⟩,_⟩:=hj;rw[show fb xs.length (Ap Pr)=none from e];dsimp? [];rfl
 .rw[show fb xs.length (Ap Pr)=some k from e];rfl
inductive Oc where
 | many | dial (k:Nat) | lever (k:Nat) | price (k:Nat) | good
def oc(S:List Int)(Ls:List (List Int))(Pr:List Int):Oc :=
 if 6<S.length then .many else if S=[] then .dial 0 else match fb S.length (As S) with
  | some k=>.dial k
  | none=>if 8<Ls.length then .many else match fb Ls.length (xa S.length Ls) with
   | some k=>.lever k
   | none=>match fb Ls.length (Ap Pr) with
    | some k=>.price k
    | none=>.good
theorem jR{r:PV}(h:bf [p]=some (.error e)):fJ aw bA [] [p,q,r]=some (.error e):=by
 have key:∀ a,bA a ([p,q,r]++[])=some (.error e):=λa=>by
  unfold bA da;simp only[n6];rw[aq (show ([p,q,r]++([]:List PV)).length+1=4 from rfl)];simp only[ug,sC];dsimp? [h]
 unfold fJ;rw[qF key];rfl
theorem lO{r:PV}(h:bf [p]=M.ok .bH)(hl:me p=M.ok (.int n))(h2:bz [q,.int n]=some (.error e)):fJ aw bA [] [p,q,r]=some (.error e):=by
 have key:∀ a,bA a ([p,q,r]++[])=some (.error e):=λa=>by
  unfold bA da;simp only[n6];rw[aq (show ([p,q,r]++([]:List PV)).length+1=4 from rfl)];simp only[ug,sC];dsimp? [h,hl,h2]
 unfold fJ;rw[qF key];rfl
theorem rO{pp:PV}(S:List Int)(Ls:List (List Int))(h:Sz S)(h8:Ls.length<=8)(hl:∀ l∈Ls,l.length=S.length)(h3:cy [.lst (Ls.map tI),pp]=some (.error e)):fJ aw bA [] [tI S,.lst (Ls.map tI),pp]=some (.error e):=by
 have hp:bR (tI S)=some (S.map PV.int):=rfl;have key:∀ a,bA a ([tI S,.lst (Ls.map tI),pp]++[])=some (.error e):=λa=>by
  have e1:bu (bD 0) none (ah jg (aa (af 0) (aa (af 1) ao))) (Ls.map tI) [none,some (.sh (tI S))]=M.ok (Ls.map λl=>tI (ou l S)):=by
   refine eH Ls λl hm=>?_;have hs:=hl l hm;have:=rj (tI l) (tI S) l S rfl hp (λs hs=>by have:=h.hx s hs;lia) (by rw[hs];have:=h.h6;lia);dsimp? [this]
  unfold bA da;simp only[n6];rw[aq (show ([tI S,PV.lst (Ls.map tI),pp]++([]:List PV)).length+1=4 from rfl)];simp only[ug,sC];dsimp? [jw S hp h.h1 h.h6 h.hx,iY (.inl rfl) S.length Ls h8 hl (by have:=h.h6;lia),l4,ND,aq (bp (show Ls.length<=1000 by lia)),e1,h3];rw[jc _ _ _ _ _ _ (by simp)];dsimp? [l4,ND,aq (bp (show Ls.length<=1000 by lia)),e1,h3];rw[jc _ _ _ _ _ _ (Pf (jM (OQ 0)) (by decide))];dsimp? [l4,h3]
 unfold fJ;rw[qF key];rfl
def ex:Oc->EX
 | .many=>(bj,none)
 | .dial k=>pQ k
 | .lever k=>qM k
 | .price k=>qq k
 | .good=>(aL,none)
theorem kh{P:α->Prop}{d:α}{xs:List α}(h:∀ k,k<xs.length->P (xs.getD k d)):∀ x∈xs,P x:=λx hx=>by
 obtain⟨k,hk,rfl⟩:=Sd hx;have:=h k hk
 rwa [Om,NG hk] at this
theorem tw(S:List Int)(Ls:List (List Int))(Pr:List Int)(hl:Pr.length=Ls.length)(hz:∀ l∈Ls,l.length<=sizeLine):fJ aw bA [] [tI S,.lst (Ls.map tI),lI Pr]=match oc S Ls Pr with | .good=>M.ok (qB Pr S (Ls.map λl=>ou l S)) | o=>some (.error (ex o)):=by
 unfold oc
 by_cases c1:6<S.length
 .rw[if_pos c1];exact jR (wZ S rfl c1)
 rw[if_neg c1]
 by_cases c2:S=[]
 .rw[if_pos c2];subst c2;exact jR (zC rfl)
 rw[if_neg c2];have l1:1<=S.length:=Si.mpr c2;have nd:=uc (p:=tI S) S rfl l1 (by lia);cases e1:fb S.length (As S) with
 | some k=>rw[e1] at nd;exact jR nd
 | none =>
  rw[e1] at nd;show _=match (if 8<Ls.length then Oc.many else _) with | .good=>_ | o=>_
  by_cases c3:8<Ls.length
  .rw[if_pos c3];exact lO nd (qj S) (rH S.length Ls c3)
  rw[if_neg c3];have lo:=uo S.length Ls (by lia) hz;cases e2:fb Ls.length (xa S.length Ls) with
  | some k=>rw[e2] at lo;exact lO nd (qj S) lo
  | none =>
   rw[e2] at lo;have sz:Sz S:=⟨l1,by lia,kh (d:=0) λk hk=>of_decide_eq_true (mv e1 k hk)⟩
   have hL:∀ l∈Ls,l.length=S.length:=kh (d:=[]) λk hk=>of_decide_eq_true (mv e2 k hk);have po:=uw (Ls.map tI) Pr (by rw[ND];exact hl) (by rw[ND];lia);rw[ND] at po;cases e3:fb Ls.length (Ap Pr) with
   | some k =>
    rw[e3] at po;exact rO S Ls sz (by lia) hL po
   | none =>
    exact vR (.inl rfl) S Ls (.inr rfl) hl (kh (d:=0) λk hk=>of_decide_eq_true (mv e3 k (by lia))) rfl sz (by lia) hL
def wr:Oc->PV
 | .many=>.tup [.str (NC "many")]
 | .dial k=>.tup [.str (NC "dial"),.int (k:Int)]
 | .lever k=>.tup [.str (NC "lever"),.int (k:Int)]
 | .price k=>.tup [.str (NC "price"),.int (k:Int)]
 | .good=>.bH
theorem uz(xs ys:List Int):gu (lI xs) (lI ys)=M.ok (.bl (decide (xs=ys))):=by
 simp only[gu,kD,dat,lI,pL,QT,wW];rw[aq (by simp[OY,OA,OM,lT,mR,R6,L2.noMix_ints])];unfold TJ;rw[L2.same_ints];rfl
theorem Hf(S:List Int)(k:Nat)(h:k<S.length):aC (lI S) (.int (k:Int))=M.ok (.int (S.getD k 0)):=aT (p:=lI S) (j:=k) rfl (by rw[NZ,NG h,Om,NG h];rfl)
theorem JC(Ls:List (List Int))(k:Nat)(h:k<Ls.length):aC (.lst (Ls.map lI)) (.int (k:Int))=M.ok (lI (Ls.getD k [])):=aT (p:=.lst (Ls.map lI)) (j:=k) rfl (by rw[NZ,NG h,Om,NG h];rfl)
theorem qG(a x b:Int):(if decide (a<=x)=true then M.ok (PV.bl (decide (x<=b))) else M.ok (PV.bl false))=M.ok (PV.bl (decide (a<=x/\x<=b))):=by
 by_cases h:a<=x
 .rw[decide_eq_true h,if_pos rfl];simp[h]
 .rw[decide_eq_false h,if_neg (by simp)];simp[h]
theorem yz(S:List Int)(Ls:List (List Int))(Pr:List Int)(hl:Pr.length=Ls.length):fS [lI S,.lst (Ls.map lI),lI Pr]=M.ok (wr (oc S Ls Pr)):=by
 unfold fS f7 oc
 by_cases c1:6<S.length
 .rw[if_pos c1];have M4:(6:Int)<S.length:=by lia
  dsimp? [M4,decide_true];rfl
 rw[if_neg c1];have M4:¬ (6:Int)<S.length:=by lia
 by_cases c2:S=[]
 .rw[if_pos c2];subst c2;have mx:mH (λi j=>if j>i then j else i) [.int 1,.int ((0:Nat):Int)]=M.ok (.int 1):=rfl;have eq0:gu (lI []) (.lst [])=M.ok (.bl true):=uz [] [];dsimp? [(show decide ((6:Int)<((0:Nat):Int))=false from rfl),mx,cT (n:=1) (by decide) (by decide)];show M.bind (gF _ _ [.int 0] _) _=_;rw[gF];dsimp? [bD,eq0];rfl
 rw[if_neg c2];have l1:1<=S.length:=Si.mpr c2;have mx:mH (λi j=>if j>i then j else i) [.int 1,.int (S.length:Int)]=M.ok (.int (S.length:Int)):=by
  show M.ok (PV.int (if (S.length:Int)>1 then _ else _))=_
  by_cases z:(S.length:Int)>1
  .rw[if_pos z]
  .rw[if_neg z,show (S.length:Int)=1 by lia]
 have eq0:gu (lI S) (.lst [])=M.ok (.bl false):=by
  have:=uz S [];rw[decide_eq_false c2] at this;exact this
 dsimp? [M4,decide_false,mx,cT (n:=(S.length:Int)) (by lia) (by lia),Og];refine eE (As S) (λk=>M.ok (.rt (wr (.dial k)))) (N2 S.length) (λr env=>(∃ y,env=[some (.sh (lI S)),some (.sh (.lst (Ls.map lI))),some (.sh (lI Pr)),y])/\∀ k∈r,k<S.length) ⟨⟨_,rfl⟩,λk hk=>Oi.mp hk⟩ (λ_ _=>rfl) ?_ (λe J5 hj=>?_) λk e=>?_
 .rintro k r env ⟨⟨y,rfl⟩,hr⟩;have hk:=hr k NJ;refine⟨[some (.sh (lI S)),some (.sh (.lst (Ls.map lI))),some (.sh (lI Pr)),some (.sh (.int k))],rfl,λh=>⟨[some (.sh (lI S)),some (.sh (.lst (Ls.map lI))),some (.sh (lI Pr)),some (.sh (.int k))],?_,⟨_,rfl⟩,λj hj=>hr j (NI _ hj)⟩,λh=>?_⟩
  .have h':decide (2<=S.getD k 0/\S.getD k 0<=360)=true:=h;dsimp? [eq0,Hf S k hk,qG,h']
  .have h':decide (2<=S.getD k 0/\S.getD k 0<=360)=false:=h;dsimp? [eq0,Hf S k hk,qG,h'];rfl
 .obtain⟨⟨y,rfl⟩,_⟩:=hj;rw[show fb S.length (As S)=none from e];show _=M.ok (wr (if 8<Ls.length then Oc.many else _))
  by_cases c3:8<Ls.length
  .rw[if_pos c3];have c3':(8:Int)<Ls.length:=by lia
   dsimp? [c3',decide_true,ND];rfl
  rw[if_neg c3];have c3':¬ (8:Int)<Ls.length:=by lia
  dsimp? [c3',decide_false,ND,cT (n:=(Ls.length:Int)) (by lia) (by lia),Og];refine eE (xa S.length Ls) (λk=>M.ok (.rt (wr (.lever k)))) (N2 Ls.length) (λr env=>(∃ y,env=[some (.sh (lI S)),some (.sh (.lst (Ls.map lI))),some (.sh (lI Pr)),y])/\∀ k∈r,k<Ls.length) ⟨⟨_,rfl⟩,λk hk=>Oi.mp hk⟩ (λ_ _=>rfl) ?_ (λe J5 hj=>?_) λk e=>?_
  .rintro k r env ⟨⟨y,rfl⟩,hr⟩;have hk:=hr k NJ;have ed:decide (((Ls.getD k []).length:Int)=(S.length:Int))=xa S.length Ls k:=by
    unfold xa;rw[Ql,decide_eq_true_eq,decide_eq_true_eq];lia
   refine⟨[some (.sh (lI S)),some (.sh (.lst (Ls.map lI))),some (.sh (lI Pr)),some (.sh (.int k))],rfl,λh=>⟨[some (.sh (lI S)),some (.sh (.lst (Ls.map lI))),some (.sh (lI Pr)),some (.sh (.int k))],?_,⟨_,rfl⟩,λj hj=>hr j (NI _ hj)⟩,λh=>?_⟩
   .dsimp? [JC Ls k hk,ed,h]
   .dsimp? [JC Ls k hk,ed,h];rfl
  .obtain⟨⟨y,rfl⟩,_⟩:=hj;rw[show fb Ls.length (xa S.length Ls)=none from e];show _=M.ok (wr (match fb Ls.length (Ap Pr) with | some k=>Oc.price k | none=>Oc.good));dsimp? [hl,cT (n:=(Ls.length:Int)) (by lia) (by lia),Og];refine eE (Ap Pr) (λk=>M.ok (.rt (wr (.price k)))) (N2 Ls.length) (λr env=>(∃ y,env=[some (.sh (lI S)),some (.sh (.lst (Ls.map lI))),some (.sh (lI Pr)),y])/\∀ k∈r,k<Ls.length) ⟨⟨_,rfl⟩,λk hk=>Oi.mp hk⟩ (λ_ _=>rfl) ?_ (λe J5 hj=>?_) λk e=>?_
   .rintro k r env ⟨⟨y,rfl⟩,hr⟩;have hk:=hr k NJ;refine⟨[some (.sh (lI S)),some (.sh (.lst (Ls.map lI))),some (.sh (lI Pr)),some (.sh (.int k))],rfl,λh=>⟨[some (.sh (lI S)),some (.sh (.lst (Ls.map lI))),some (.sh (lI Pr)),some (.sh (.int k))],?_,⟨_,rfl⟩,λj hj=>hr j (NI _ hj)⟩,λh=>?_⟩
    .have h':decide (1<=Pr.getD k 0/\Pr.getD k 0<=1000)=true:=h;dsimp? [Hf Pr k (by lia),qG,h']
    .have h':decide (1<=Pr.getD k 0/\Pr.getD k 0<=1000)=false:=h;dsimp? [Hf Pr k (by lia),qG,h'];rfl
   .obtain⟨⟨y,rfl⟩,_⟩:=hj;rw[show fb Ls.length (Ap Pr)=none from e];rfl
   .rw[show fb Ls.length (Ap Pr)=some k from e];rfl
  .rw[show fb Ls.length (xa S.length Ls)=some k from e];rfl
 .rw[show fb S.length (As S)=some k from e];rfl
theorem pk(h:bb [p]=some (.error (aL,none))):aJ [p]=M.ok (.tup [.str (NC "text")]):=by
 unfold aJ bY;dsimp? [pV,h,jV,gy,fz,gi];rfl
theorem wx(h:bb [p]=some (.error (ex (.many)))):aJ [p]=M.ok (wr (.many)):=by
 unfold aJ bY;dsimp? [pV,h,jV,gy,fz,gi];rfl
variable{k:Nat}
theorem pd(h:bb [p]=some (.error (ex (.dial k)))):aJ [p]=M.ok (wr (.dial k)):=by
 unfold aJ bY;dsimp? [pV,h,jV,gy,fz,gi];rfl
theorem t6(h:bb [p]=some (.error (ex (.lever k)))):aJ [p]=M.ok (wr (.lever k)):=by
 unfold aJ bY;dsimp? [pV,h,jV,gy,fz,gi];rfl
theorem tH(h:bb [p]=some (.error (ex (.price k)))):aJ [p]=M.ok (wr (.price k)):=by
 unfold aJ bY;dsimp? [pV,h,jV,gy,fz,gi];rfl
theorem tV(ns J4:List Int)(levers:List (List Int)):cn [qB ns J4 levers]=M.ok (tI ns):=by rfl
theorem Ig(xs ys:List PV):zip2 [.tup xs,.tup ys]=M.ok ((xs.zip ys).map λz=>.tup [z.1,z.2]):=by
 show M.ok (Q2 _ xs ys)=_;rw[List.zip,S3]
theorem lE{α:Type}:∀ (xs:List α) (z:α×α),z∈xs.zip xs->z.1=z.2/\z.1∈xs
 | [],_,h=>nomatch h
 | x::r,z,h=>by
  rcases NU.mp (show z∈(x,x)::r.zip r from h) with e | e
  .rw[e];exact⟨rfl,NJ⟩
  .exact⟨(lE r z e).1,NI _ (lE r z e).2⟩
theorem gY(n:Nat)(h:Sv a):aH (n+1) [.str a,.str a]=M.ok (.bl true):=by
 show az 4 (cw (aH n)) _=_;unfold cw;dsimp? [gy,fz,decide_true,fY h h]
theorem g9(n:Nat)(xs:List PV)(h:∀ x∈xs,aH (n+1) [x,x]=M.ok (.bl true)):aH (n+2) [.tup xs,.tup xs]=M.ok (.bl true):=by
 show az 4 (cw (aH (n+1))) _=_;unfold cw;dsimp? [gy,fz,decide_true,Ig];refine dz (xs.zip xs) (λzs env=>(∃ b c p,env=[p,p,b,c]/\p=some (.sh (.tup xs)))/\∀ z∈zs,z.1=z.2/\z.1∈xs) ⟨⟨_,_,_,rfl,rfl⟩,λz hz=>lE xs z hz⟩ ?_ ?_
 .rintro⟨a,a'⟩ r env ⟨⟨b,c,p,rfl,hp⟩,hz⟩;obtain⟨e,hm⟩:a=a'/\a∈xs:=hz (a,a') NJ;subst e;refine⟨_,[p,p,some (.sh a),some (.sh a)],rfl,?_,⟨_,_,_,rfl,hp⟩,λz Ma=>hz z (NI _ Ma)⟩;dsimp? [h a hm]
 .rintro J5 ⟨⟨b,c,p,rfl,hp⟩,_⟩;rfl
theorem p6(n:Nat)(xs:List Int):aH (n+2) [tI xs,tI xs]=M.ok (.bl true):=g9 n _ λx hx=>by
 obtain⟨i,_,rfl⟩:=OE.mp hx;exact same_int n i
theorem sW(h:aH 4 [p,p]=M.ok (.bl true)):bX [p,p]=M.ok (.bl true):=by
 unfold bX bq;exact h
theorem yT(s:String)(h:(NC s).cps.toList.all (λc=>decide (c<0x110000))=true):Sv (NC s):=iJ rfl h
theorem wz(S:List Int)(Ls:List (List Int))(Pr:List Int):bX [.tup [.str (NC "told"),tI S,.tup (Ls.map tI),tI Pr],.tup [.str (NC "told"),tI S,.tup (Ls.map tI),tI Pr]]=M.ok (.bl true):=by
 refine sW (g9 2 _ λx hx=>?_);simp only[NU,P8,or_false] at hx;rcases hx with rfl | rfl | rfl | rfl
 .exact gY 2 (yT _ (by decide +kernel))
 .exact p6 1 S
 .refine g9 1 _ λx hx=>?_;obtain⟨l,_,rfl⟩:=OE.mp hx;exact p6 0 l
 .exact p6 1 Pr
theorem mn(o:Oc)(h:o≠.good):bX [wr o,wr o]=M.ok (.bl true):=by
 cases o with
 | good=>exact absurd rfl h
 | many =>
  refine sW (g9 2 _ λx hx=>?_);rw[N9] at hx;subst hx;exact gY 2 (yT _ (by decide +kernel))
 | dial k | lever k | price k =>
  refine sW (g9 2 _ λx hx=>?_);simp only[NU,P8,or_false] at hx;rcases hx with rfl | rfl
  .exact gY 2 (yT _ (by decide +kernel))
  .exact same_int 2 _
theorem wM:bX [.tup [.str (NC "text")],.tup [.str (NC "text")]]=M.ok (.bl true):=by
 refine sW (g9 2 _ λx hx=>?_);rw[N9] at hx;subst hx;exact gY 2 (yT _ (by decide +kernel))
theorem sE{ns:List Int}{g:ae->M PV}{env:ae}(h:g env=M.ok (qB ns J4 levers)):dD aw "prices" cn g ao env=M.ok (tI ns):=by
 unfold dD;rw[h,M.aA];have:=tV ns J4 levers;unfold qB at this;simp only[qB,ao,M.aA];exact this
variable{Ls:List (List Int)}{Pr:List Int}
theorem wN{S:List Int}(h:bb [p]=M.ok (qB Pr S Ls)):aJ [p]=M.ok (.tup [.str (NC "told"),tI S,.tup (Ls.map tI),tI Pr]):=by
 have h1:(λ_:ae=>M.ok (qB Pr S Ls)) []=M.ok (qB Pr S Ls):=rfl;unfold aJ bY;dsimp? [pV,h,xI,gy,fz];rw[vD (J4:=S) (levers:=Ls) (ns:=Pr) rfl,rh (J4:=S) (levers:=Ls) (ns:=Pr) rfl,sE (J4:=S) (levers:=Ls) (ns:=Pr) rfl];dsimp? []
theorem o6{f:List Int->PV}(hf:f=tI\/f=lI)(S:List Int)(Ls:List (List Int))(hp:bR p=some (S.map PV.int))(hq:bR q=some (Ls.map f))(hs:∀ s∈S,0<s)(h8:Ls.length<=1000)(hz:S.length<=1000):eg [p,q]=M.ok (.tup ((Ls.map λl=>ou l S).map tI)):=by
 have key:bu (bD 0) none (ah eM (aa (ck (cF (oH zip2 (aa (af 0) (aa (af 1) ao))) (gg 0 1) none (ai cC (af 0) (af 1)) 2 [])) ao)) (Ls.map f) [none,some (.sh p)]=M.ok (Ls.map λl=>tI (ou l S)):=by
  refine eH Ls λl hm=>?_;have MR:bu (gg 0 1) none (ai cC (af 0) (af 1)) ((l.zip S).map λz=>.tup [.int z.1,.int z.2]) [none,none]=M.ok ((l.zip S).map λz=>.int (z.1%z.2)):=by
   refine t8 (p:=λz:Int×Int=>PV.int z.1) (q:=λz:Int×Int=>PV.int z.2) (l.zip S) λz hz=>?_;have:=hs z.2 (OU (a:=z.1) (b:=z.2) hz).2;dsimp? [aB this]
  have hl:(l.zip S).length<=sizeLine:=by rw[Pw];exact bp (N3 (SQ _ _) hz)
  have zz:=j5 (p:=f l) (q:=p) l S (zf hf l) hp;dsimp? [zz,ND,aq hl,MR];rw[tI,ou,Oo];rfl
 unfold eg dW;dsimp? [hq,ND,aq (bp h8),key];rw[Oo];rfl
theorem F8(a b c:PV):aC (.lst [a,b,c]) (.int 0)=M.ok a:=aT (j:=0) rfl rfl
theorem Gd(a b c:PV):aC (.lst [a,b,c]) (.int 1)=M.ok b:=aT (j:=1) rfl rfl
theorem Gs(a b c:PV):aC (.lst [a,b,c]) (.int 2)=M.ok c:=aT (j:=2) rfl rfl
theorem A6{S:List Int}(h:oc S Ls Pr=.good):S.length<=6/\Ls.length<=8/\∀ s∈S,0<s:=by
 unfold oc at h
 by_cases c1:6<S.length
 .rw[if_pos c1] at h;cases h
 rw[if_neg c1] at h
 by_cases c2:S=[]
 .rw[if_pos c2] at h;cases h
 rw[if_neg c2] at h;cases e1:fb S.length (As S) with
 | some k=>rw[e1] at h;cases h
 | none =>
  rw[e1] at h
  by_cases c3:8<Ls.length
  .rw[show (if 8<Ls.length then Oc.many else _)=Oc.many from if_pos c3] at h;cases h
  .refine⟨by lia,by lia,kh (d:=0) λk hk=>?_⟩;have:=of_decide_eq_true (mv e1 k hk);lia
theorem jF(a:Str):∃ p0 ps,Ps a=p0::ps:=by
 cases e:Ps a with
 | nil=>exact absurd e (by
   exact sI a SC)
 | cons p r=>exact⟨p,r,rfl⟩
theorem DQ{p:Str}(tp:Tt p 10000)(h:rL p=some (lv p)):(lv p).1.length<=sizeLine:=by
 have:=(nJ h).1;unfold rN at this
 split at this
 .rw[<- NX this];exact OQ _
 .split at this
  .rw[<- NX this,ND];exact uI (qk tp).1.le
  .cases this
theorem sx(h:Tt a 10000):∃ p,aJ [.str a]=M.ok p/\cX [.str a]=M.ok p/\bX [p,p]=M.ok (.bl true):=by
 obtain⟨p0,ps,e⟩:=jF a;have rv:=jt h e;cases t:told p0 ps with
 | false =>
  rw[t,if_neg (by simp)] at rv;refine⟨_,pk rv,?_,wM⟩;unfold cX eJ;dsimp? [uH h e t,gy,fz]
 | true =>
  rw[t,if_pos rfl] at rv;have hl:(Po ps).length=(Lo ps).length:=by unfold Po Lo;rw[ND,ND]
  have hz:∀ l∈Lo ps,l.length<=sizeLine:=λl hm=>by
   unfold Lo at hm;obtain⟨p,hp,rfl⟩:=OE.mp hm;obtain⟨_,t2⟩:=Am t;have tp:Tt p 10000:=sk h (by rw[e];exact NI _ hp);exact DQ tp (t2 p hp)
  have mo:=tw (So p0) (Lo ps) (Po ps) hl hz;have wk:=yz (So p0) (Lo ps) (Po ps) hl;rw[mo] at rv;have du:∀ o,o≠Oc.good->oc (So p0) (Lo ps) (Po ps)=o->cX [.str a]=M.ok (wr o):=λo ho eo=>by
   have nn:i9 (wr o) .bH=M.ok (.bl true):=by
    cases o with
    | good=>exact absurd rfl ho
    | _=>rfl
   rw[eo] at wk;unfold cX eJ;dsimp? [lJ h e t,gy,fz,F8,Gd,Gs,wk,nn]
  cases eo:oc (So p0) (Lo ps) (Po ps) with
  | good =>
   rw[eo] at rv wk;refine⟨_,wN rv,?_,wz _ _ _⟩;obtain⟨g1,g2,g3⟩:=A6 eo;have nn:i9 (wr .good) .bH=M.ok (.bl false):=rfl;have rl:=o6 (p:=lI (So p0)) (q:=.lst ((Lo ps).map lI)) (.inr rfl) (So p0) (Lo ps) rfl rfl g3 (by lia) (by lia);unfold cX eJ;dsimp? [lJ h e t,gy,fz,F8,Gd,Gs,wk,nn,rl];rfl
  | many =>
   rw[eo] at rv;exact⟨_,wx rv,du _ (λz=>nomatch z) eo,mn _ (λz=>nomatch z)⟩
  | dial k =>
   rw[eo] at rv;exact⟨_,pd rv,du _ (λz=>nomatch z) eo,mn _ (λz=>nomatch z)⟩
  | lever k =>
   rw[eo] at rv;exact⟨_,t6 rv,du _ (λz=>nomatch z) eo,mn _ (λz=>nomatch z)⟩
  | price k =>
   rw[eo] at rv;exact⟨_,tH rv,du _ (λz=>nomatch z) eo,mn _ (λz=>nomatch z)⟩
theorem pY(xs:List Int)(hp:bR p=some (xs.map PV.int))(h:∀ n∈xs,n.natAbs<10^29)(hl:xs.length<=40):bN [p]=M.ok (.str (text xs)):=by
 have key:bu (bD 0) none (ah ju (aa (af 0) ao)) (xs.map PV.int) [none]=M.ok (xs.map λn=>.str (tx n)):=eH xs λn hn=>by dsimp? [str_int n (h n hn)]
 have hg:(xs.map PV.int).length<=sizeLine:=by rw[ND];exact c8 (by lia)
 unfold bN c5;dsimp? [i6,hp,aq hg,key,ve xs h hl]
theorem len_app(a b:Str):(a++b).length=a.length+b.length:=Str.length_append a b
theorem Tt.app{a b:Str}{n m:Nat}(ha:Tt a n)(hb:Tt b m):Tt (a++b) (n+m):=⟨ha.sv.app hb.sv,by rw[len_app];have:=ha.le;have:=hb.le;lia⟩
theorem Tt.up(m:Nat)(ha:Tt a n)(h:n<=m):Tt a m:=⟨ha.sv,N3 ha.le h⟩
theorem Tt.cut{a:Str}{n:Nat}(ha:Tt a n)(l u:Option Int):Tt (eI a l u) n:=⟨ha.sv.cut l u,N3 (qx a l u) ha.le⟩
theorem Tt.add{m:Nat}(ha:Tt a n)(hb:Tt b m)(h:n+m<=10000:=by lia):bK (.str a) (.str b)=M.ok (.str (a++b)):=aq (c8 (by have:=ha.le;have:=hb.le;lia))
theorem jP(s:String)(n:Nat)(h:((NC s).cps.toList.all (λc=>decide (c<0x110000))&&decide ((NC s).length<=n))=true):Tt (NC s) n:=by
 obtain⟨h1,h2⟩:=Pz.mp h;exact⟨iJ rfl h1,of_decide_eq_true h2⟩
def sA:Str:=NC " !\"#$&'()*+,-./0123456789:;<=>?@ABCDEFGHIJKLMNOPQRSTUVWXYZ[]^_abcdefghijklmnopqrstuvwxyz{|}~\n"
def sB:Str:=NC "  --00119  ;;::-0 1:; "
theorem tA:Tt sA 1000:=jP _ _ (by decide +kernel)
theorem tB:Tt sB 1000:=jP _ _ (by decide +kernel)
theorem IM:1<=sA.length:=by decide +kernel
variable{j:Int}
theorem Eo(h:Tt a n)(hn:n<=10000)(h0:0<=j)(h1:j<a.length):∃ d,aC (.str a) (.int j)=M.ok (.str ⟨#[d]⟩)/\Tt ⟨#[d]⟩ 1:=by
 obtain⟨k,rfl⟩:=OB h0;have hk:k<a.cps.toList.length:=by rw[len_list];lia
 refine⟨a.cps.toList[k],?_,uD (h.sv _ (Pc hk)),NK _⟩;show bG _ (eN ((nZ a.cps.toList (k:Int)).map λc=>.str ⟨#[c]⟩))=_;rw[aq (c8 (N3 h.le hn))];have z:nZ a.cps.toList (k:Int)=some a.cps.toList[k]:=by
  unfold nZ qV;rw[if_pos (Sw k),if_pos (by lia)];show a.cps.toList[(k:Int).toNat]?=_;rw[Og,NG hk]
 rw[z];rfl
theorem AI{k:Int}:∃ d,fy [.int k]=M.ok (.str ⟨#[d]⟩)/\Tt ⟨#[d]⟩ 1:=by
 have t:=tA.app tB;have hl:(0:Int)<(sA++sB).length:=by rw[len_app];have:=IM;lia
 obtain⟨d,e,h⟩:=Eo t (by decide) (OF k (show ((sA++sB).length:Int)≠0 by lia)) (Ol k hl);refine⟨d,?_,h⟩;unfold fy gJ;have a:bK (.str (NC " !\"#$&'()*+,-./0123456789:;<=>?@ABCDEFGHIJKLMNOPQRSTUVWXYZ[]^_abcdefghijklmnopqrstuvwxyz{|}~\n")) (.str (NC "  --00119  ;;::-0 1:; "))=M.ok (.str (sA++sB)):=tA.add tB
 dsimp? [a,len_str (N3 t.le (by decide)),aB (i:=k) hl,e]
theorem pick(h:∀ p∈ws,Tt p n)(h0:0<=j)(h1:j<ws.length):∃ p,aC (.lst (ws.map PV.str)) (.int j)=M.ok (.str p)/\Tt p n:=by
 obtain⟨k,rfl⟩:=OB h0;have hk:k<ws.length:=by lia
 exact⟨ws[k],aT (xs:=ws.map PV.str) rfl (by rw[NZ,NG hk];rfl),h _ (Pc hk)⟩
theorem CM(a b c d e f g h i:PV):lstK [a,b,c,d,e,f,g,h,i]=M.ok (.lst [a,b,c,d,e,f,g,h,i]):=aq (bp (show 9<=1000 by decide))
theorem xO(a b c d e f g h:PV):lstK [a,b,c,d,e,f,g,h]=M.ok (.lst [a,b,c,d,e,f,g,h]):=aq (bp (show 8<=1000 by decide))
def wt(ws:List Str):Nat:=(ws.map (·.length)).sum+ws.length
theorem ib(us vs:List Str):wt (us++vs)=wt us+wt vs:=by
 unfold wt;rw[OL,List.sum_append,NW];lia
theorem fZ(ws:List Str)(k:Nat):wt (ws.take k)+wt (ws.drop k)=wt ws:=by
 rw[<- ib,List.take_append_drop]
theorem z0(ws:List Str)(k:Nat)(q:Str)(h:k<ws.length):wt (ws.set k q)<=wt ws+q.length:=by
 have e:ws.set k q=ws.take k++q::ws.drop (k+1):=by rw[List.set_eq_take_append_cons_drop,if_pos h]
 have a:=fZ ws k;have b:wt (ws.drop k)=wt [ws[k]]+wt (ws.drop (k+1)):=by rw[<- ib,List.singleton_append,RN]
 rw[e,ib,show q::ws.drop (k+1)=[q]++ws.drop (k+1) from rfl,ib];have c:wt [q]=q.length+1:=by simp[wt]
 have d:1<=wt [ws[k]]:=by simp[wt]
 lia
theorem GU(ws:List Str)(k:Nat):ws.foldl (λn s=>n+s.length+2) k=k+(ws.map (·.length)).sum+2*ws.length:=by
 induction ws generalizing k with
 | nil=>rfl
 | cons a r ih =>
  rw[RO,ih];simp only[N5,Rp,NS];lia
theorem IP:SC.length=2:=by decide +kernel
theorem jS(ws:List Str)(h:wt ws<=5000):fk SC (.lst (ws.map PV.str))=M.ok (.str (Ot SC ws)):=by
 show (match strsOf (ws.map PV.str) with | some ws=>_ | none=>_)=_;rw[jB];show bG _ _=_;rw[aq]
 .rw[<- RX];rfl
 .unfold JoinOk Sh;unfold wt at h;rw[IP,Su,GU];have:¬ (0+(ws.map (·.length)).sum+2*ws.length>sizeLine):=by unfold sizeLine;lia
  simp only[this,decide_false,R8]
theorem B2:Sv SC:=iJ rfl (by decide +kernel)
theorem i8(ws:List Str)(hs:∀ p∈ws,Sv p)(h:wt ws<=5000):Tt (Ot SC ws) 10000:=⟨Sv.join B2 _ hs,by
 have:=QC SC ws;unfold wt at h;rw[IP] at this;lia⟩
theorem B6(xs:List PV)(k:Nat):De (.lst xs) none (some (k:Int))=M.ok (.lst (xs.take k)):=by
 show M.ok (PV.lst (jj xs none (some (k:Int))))=_;unfold jj;rw[HT.j9,HT.mF,R5,Nat.sub_zero]
 by_cases h:k<=xs.length
 .rw[Qm h]
 .rw[S6 (by lia),O9 (NK _),O9 (by lia)]
theorem vx(xs:List PV)(k:Nat):De (.lst xs) (some (k:Int)) none=M.ok (.lst (xs.drop k)):=by
 show M.ok (PV.lst (jj xs (some (k:Int)) none))=_;unfold jj;rw[HT.j9,HT.mF]
 by_cases h:k<=xs.length
 .rw[Qm h,O9 (by simp)]
 .rw[S6 (by lia),O8 (NK _),O8 (by lia)];simp
theorem DG(xs:List PV)(k:Nat)(h:k<xs.length):De (.lst xs) (some (k:Int)) (some ((k:Int)+1))=M.ok (.lst ((xs.drop k).take 1)):=by
 show M.ok (PV.lst (jj xs (some (k:Int)) (some ((k+1:Nat):Int))))=_;unfold jj;rw[HT.j9,HT.j9,Qm (by lia),Qm (by lia),Nat.add_sub_cancel_left]
theorem AU(xs ys:List PV)(h:xs.length+ys.length<=10000):bK (.lst xs) (.lst ys)=M.ok (.lst (xs++ys)):=aq (c8 h)
theorem p8(a:Str):uf (M.ok (.str a))=M.ok (.str a):=by rfl
theorem gC(a:Int):uf (M.ok (.int a))=M.ok (.int a):=by rfl
theorem Gh{env:ae}(h:k<xs.length):xQ i xs p env (.int (k:Int))=M.ok (.nx (env.set i (some (.ow (xs.set k p))))):=by
 have z:qV xs.length (k:Int)=some k:=by
  unfold qV;rw[if_pos (Sw k),if_pos (by lia),Og]
 show (match qV xs.length (k:Int) with | some j=>_ | none=>_)=_;rw[z]
def six:List String:=["1", "0", "1000", "1001", "-5", "07", "", "5 6", "3 : 4"]
def JA:List String:=["1 5", "361", "", " ", "2", "360 2", "5 0", "0"]
theorem CJ:∀ p∈six.map NC,Tt p 10:=λp hp=>by
 obtain⟨s,hs,rfl⟩:=OE.mp hp;have h:(six.all λs=>(NC s).cps.toList.all (λc=>decide (c<0x110000))&&decide ((NC s).length<=10))=true:=by decide +kernel
 exact jP s 10 (NY.mp h s hs)
theorem Ea:∀ p∈JA.map NC,Tt p 10:=λp hp=>by
 obtain⟨s,hs,rfl⟩:=OE.mp hp;have h:(JA.all λs=>(NC s).cps.toList.all (λc=>decide (c<0x110000))&&decide ((NC s).length<=10))=true:=by decide +kernel
 exact jP s 10 (NY.mp h s hs)
theorem dn(i j:Int)(h:¬ i=j):decide (i=j)=false:=decide_eq_false h
theorem t7{c:Int}(ha:Tt a 2100)(h0:0<=c):∃ b,er [.str a,.int c]=M.ok (.str b)/\Tt b 10000:=by
 have hz:a.length<=10000:=N3 ha.le (by decide);have hl:(0:Int)<(a.length:Int)+1:=by lia
 obtain⟨p0,ps,ep⟩:=jF a;have w:=RM a SC ny.2;have wP:wt (Ps a)<=2101:=by have:=ha.le;show (List.map (·.length) (Txt.split a SC)).sum+(Txt.split a SC).length<=2101;lia
 have sP:∀ p∈Ps a,Tt p 2100:=λp hp=>⟨ha.sv.part hp,N3 (Tn hp) ha.le⟩
 have lP:0<(Ps a).length:=by rw[ep];exact Nat.succ_pos _
 have nP:(Ps a).length<=2101:=by unfold wt at wP;lia
 have so:vH a (.str SC)=M.ok ((Ps a).map .str):=by
  show bG _ _=_;rw[aq ⟨ny.1,by unfold sizeLine;lia⟩]
 have jn:Ot SC (Ps a)=a:=Qo a SC;generalize Ps a=P at *;have e1:=cG (i:=c) (j:=8) (by decide) (by decide);have e2:=aB (i:=c/8) hl;have e3:=aB (i:=c) (j:=8) (by decide);have e4:=cG (i:=c) (j:=4000) (by decide) (by decide);have e5:=aB (i:=c/8) (j:=(P.length:Int)) (by lia);have e6:=cG (i:=c) (j:=640) (by decide) (by decide);obtain⟨k,hk,kk⟩:∃ k:Nat,c/8%(P.length:Int)=(k:Int)/\k<P.length:=by
  have a1:=OF (c/8) (show (P.length:Int)≠0 by lia);have a2:=Ol (c/8) (show (0:Int)<P.length by lia);exact⟨(c/8%(P.length:Int)).toNat,by lia,by lia⟩
 rw[hk] at e5;obtain⟨d,ed,hd⟩:=AI (k:=c/4000);generalize hat:c/8%((a.length:Int)+1)=at' at e2;have c1:=ha.cut none (some at');have c2:=ha.cut (some at') none;have c3:=ha.cut (some (at'+1)) none;have lb:uf (M.ok (.int (k:Int)))=M.ok (.int (k:Int)):=rfl;have kP:k<(P.map PV.str).length:=by rw[ND];exact kk
 have h8:c%8=0\/c%8=1\/c%8=2\/c%8=3\/c%8=4\/c%8=5\/c%8=6\/c%8=7:=by lia
 have td:=fZ P k;have td1:=fZ (P.drop k) 1;have td2:=fZ P (k+1);have lt1:wt (P.take k)<=wt P:=by lia
 have dr:(P.drop k).take 1=[P[k]]:=by rw[<- RN kk];rfl
 unfold er dJ;rcases h8 with z | z | z | z | z | z | z | z
 .refine⟨a,?_,ha.sv,hz⟩;have jo:=jS P (by lia);rw[jn] at jo;dsimp? [len_str hz,e1,e2,e3,z,gQ,so,g8,ownAt,ND,e5,gC,dn 0 1 (by decide),dn 0 2 (by decide),dn 0 3 (by decide),dn 0 4 (by decide),dn 0 5 (by decide),dn 0 6 (by decide),dn 0 7 (by decide),i6,jo]
 .refine⟨eI a none (some at')++⟨#[d]⟩++eI a (some at') none,?_,((c1.app hd).app c2).up 10000 (by lia)⟩;dsimp? [len_str hz,e1,e2,e3,z,gQ,so,g8,ownAt,ND,e5,gC,decide_true,e4,ed,cM,et,bo,oP,nU hz,c1.add hd,(c1.app hd).add c2]
 .refine⟨eI a none (some at')++⟨#[d]⟩++eI a (some (at'+1)) none,?_,((c1.app hd).app c3).up 10000 (by lia)⟩;dsimp? [len_str hz,e1,e2,e3,z,gQ,so,g8,ownAt,ND,e5,gC,dn 2 1 (by decide),decide_true,e4,ed,cM,et,bo,oP,nU hz,c1.add hd,(c1.app hd).add c3]
 .refine⟨eI a none (some at')++eI a (some (at'+1)) none,?_,(c1.app c3).up 10000 (by lia)⟩;dsimp? [len_str hz,e1,e2,e3,z,gQ,so,g8,ownAt,ND,e5,gC,dn 3 1 (by decide),dn 3 2 (by decide),decide_true,cM,et,bo,oP,nU hz,c1.add c3]
 .have hw:wt (P.take k++(P.drop k).take 1++P.drop k)<=5000:=by rw[ib,ib];lia
  refine⟨Ot SC (P.take k++(P.drop k).take 1++P.drop k),?_,i8 _ (λp hp=>?_) hw⟩
  .have jo:=jS _ hw;rw[OL,OL,Sl,Sl,TF] at jo;have x1:=AU ((P.map PV.str).take k) (((P.map PV.str).drop k).take 1) (by rw[O1,O1,PK,ND];lia);have x2:=AU ((P.map PV.str).take k++((P.map PV.str).drop k).take 1) ((P.map PV.str).drop k) (by rw[NW,O1,O1,PK,ND];lia);dsimp? [len_str hz,e1,e2,e3,z,gQ,so,g8,ownAt,ND,e5,gC,dn 4 1 (by decide),dn 4 2 (by decide),dn 4 3 (by decide),decide_true,i6,fH,et,bo,oP,B6,vx,DG _ _ kP,x1,x2,jo,p8]
  .rcases OZ.mp hp with h | h
   .rcases OZ.mp h with h | h
    .exact(sP p (P6 h)).sv
    .exact(sP p (P5 (P6 h))).sv
   .exact(sP p (P5 h)).sv
 .have hw:wt (P.take k++P.drop (k+1))<=5000:=by rw[ib];lia
  refine⟨Ot SC (P.take k++P.drop (k+1)),?_,i8 _ (λp hp=>?_) hw⟩
  .have jo:=jS _ hw;rw[OL,Sl,TF] at jo;have x1:=AU ((P.map PV.str).take k) ((P.map PV.str).drop (k+1)) (by rw[O1,PK,ND];lia);have sf:De (.lst (P.map PV.str)) (some ((k:Int)+1)) none=M.ok (.lst ((P.map PV.str).drop (k+1))):=vx _ (k+1);dsimp? [len_str hz,e1,e2,e3,z,gQ,so,g8,ownAt,ND,e5,gC,dn 5 1 (by decide),dn 5 2 (by decide),dn 5 3 (by decide),dn 5 4 (by decide),decide_true,i6,fH,et,bo,oP,B6,sf,x1,jo,p8]
  .rcases OZ.mp hp with h | h
   .exact(sP p (P6 h)).sv
   .exact(sP p (P5 h)).sv
 .have e7:=aB (i:=c/640) (j:=9) (by decide);obtain⟨q,eq,hq⟩:=pick CJ (j:=c/640%9) (by lia) (show _<(9:Int) by lia);have eq':aC (.lst [.str (NC "1"),.str (NC "0"),.str (NC "1000"),.str (NC "1001"),.str (NC "-5"),.str (NC "07"),.str (NC ""),.str (NC "5 6"),.str (NC "3 : 4")]) (.int (c/640%9))=M.ok (.str q):=eq;have ix:aC (.lst (P.map PV.str)) (.int (k:Int))=M.ok (.str P[k]):=aT (xs:=P.map PV.str) rfl (by rw[NZ,NG kk];rfl);have tk:=sP P[k] (Pc kk);have tc:Tt (NC " : ") 10:=jP _ _ (by decide +kernel);have hw:wt (P.set k (P[k]++NC " : " ++ q))<=5000:=by
   have a1:=z0 P k (P[k]++NC " : " ++ q) kk;have a2:=((tk.app tc).app hq).le;lia
  refine⟨Ot SC (P.set k (P[k]++NC " : " ++ q)),?_,i8 _ (λp hp=>?_) hw⟩
  .have jo:=jS _ hw;rw[TQ] at jo;dsimp? [len_str hz,e1,e2,e3,z,gQ,so,g8,ownAt,ND,e5,gC,dn 6 1 (by decide),dn 6 2 (by decide),dn 6 3 (by decide),dn 6 4 (by decide),dn 6 5 (by decide),dn 6 7 (by decide),decide_true,i6,EL,ix,tk.add tc,e6,e7,CM,eq',(tk.app tc).add hq,p8,Gh kP,jo]
  .rcases Rh hp with h | h
   .exact(sP p h).sv
   .rw[h];exact((tk.app tc).app hq).sv
 .have e7:=aB (i:=c/640) (j:=8) (by decide);obtain⟨q,eq,hq⟩:=pick Ea (j:=c/640%8) (by lia) (show _<(8:Int) by lia);have eq':aC (.lst [.str (NC "1 5"),.str (NC "361"),.str (NC ""),.str (NC " "),.str (NC "2"),.str (NC "360 2"),.str (NC "5 0"),.str (NC "0")]) (.int (c/640%8))=M.ok (.str q):=eq;have hw:wt (P.set k q)<=5000:=by
   have a1:=z0 P k q kk;have a2:=hq.le;lia
  refine⟨Ot SC (P.set k q),?_,i8 _ (λp hp=>?_) hw⟩
  .have jo:=jS _ hw;rw[TQ] at jo;dsimp? [len_str hz,e1,e2,e3,z,gQ,so,g8,ownAt,ND,e5,gC,dn 7 1 (by decide),dn 7 2 (by decide),dn 7 3 (by decide),dn 7 4 (by decide),dn 7 5 (by decide),dn 7 6 (by decide),decide_true,i6,EL,e6,e7,xO,eq',Gh kP,jo]
  .rcases Rh hp with h | h
   .exact(sP p h).sv
   .rw[h];exact hq.sv
theorem uX{γ β:Type}{set:PV->ae->M ae}{inj:α->PV}{k:Out->M β}{R:γ->M β}{Q:γ->Prop}(xs:List α)(J:List α->ae->Prop){env:ae}(h:J xs env)
  (H:∀ a r env,J (a::r) env->∃ e' J5,set (inj a) env=M.ok e'/\body e'=M.ok (.nx J5)/\J r J5) (hk:∀ J5,J [] J5->∃ L,k (.nx J5)=R L/\Q L):∃ L,M.bind (gF set body (xs.map inj) env) k=R L/\Q L:=by
 obtain⟨J5,e,h'⟩:=mI J H xs env h;obtain⟨L,a,b⟩:=hk J5 h';exact⟨L,by rw[e,M.aA];exact a,b⟩
theorem HW(a b c d:Int)(j:Int)(h0:0<=j)(h1:j<4):∃ x,aC (.lst (([a,b,c,d]:List Int).map PV.int)) (.int j)=M.ok (.int x)/\(x=a\/x=b\/x=c\/x=d):=by
 obtain⟨k,rfl⟩:=OB h0;have hk:k=0\/k=1\/k=2\/k=3:=by lia
 rcases hk with rfl | rfl | rfl | rfl
 .exact⟨a,rfl,.inl rfl⟩
 .exact⟨b,rfl,.inr (.inl rfl)⟩
 .exact⟨c,rfl,.inr (.inr (.inl rfl))⟩
 .exact⟨d,rfl,.inr (.inr (.inr rfl))⟩
theorem rK(c:Int)(h0:0<=c):∃ S,fU [.int c]=M.ok (lI S)/\Sz S:=by
 have e1:=aB (i:=c) (j:=6) (by decide);have b0:=OF c (show (6:Int)≠0 by decide);have b1:=Ol c (show (0:Int)<6 by decide);obtain⟨n,hn⟩:=OB (show 0<=1+c%6 by lia);unfold fU fL;have rg:=cT (n:=1+c%6) (by lia) (by lia);rw[hn,Og] at rg;dsimp? [kM,e1,hn,rg];refine uX (N2 n) (λr env=>∃ (d:List Int) (y z:Option SV),env=[some (.sh (.int c)),some (.ow (d.map PV.int)),y,z]/\d.length+r.length=n/\(∀ k∈r,k<10)/\∀ x∈d,2<=x/\x<=360) ⟨[],none,none,rfl,by simp,λk hk=>by have:=Oi.mp hk;lia,λ_ h=>nomatch h⟩ ?_ ?_
 .rintro k r env ⟨d,y,z,rfl,hl,hr,hd⟩;have hk:=hr k NJ;obtain⟨m,em,m0,m1⟩:=iW c k (by lia);obtain⟨x,ex,hx⟩:=HW 359 11 5 359 (m%4) (by lia) (by lia);simp only[N5,Q0] at ex;have x0:0<x:=by lia
  have f0:=OF (m/4) (show x≠0 by lia);have f1:=Ol (m/4) x0;rw[NS] at hl;refine⟨_,[some (.sh (.int c)),some (.ow ((d++[2+m/4%x]).map PV.int)),some (.sh (.int k)),some (.sh (.int m))],rfl,?_,d++[2+m/4%x],_,_,rfl,by rw[NW,Pn];lia,λj hj=>hr j (NI _ hj),λx hx=>?_⟩
  .have ap:(d.map PV.int).length<=10001:=by rw[ND];lia
   dsimp? [em,aB (i:=m) (j:=4) (by decide),cG (i:=m) (j:=4) (by decide) (by decide),ex,aB (i:=m/4) x0,j4,ownAt,lA ap,OL]
  .rcases OZ.mp hx with h | h
   .exact hd x h
   .rw[N9.mp h];lia
 .rintro env ⟨d,y,z,rfl,hl,_,hd⟩;have hl':d.length=n:=by simpa using hl
  refine⟨d,?_,by lia,by lia,hd⟩;dsimp? [];rfl
theorem qi(ns:List Int)(m n:Nat)(hm:m<=8)(hn:n<=6):∃ Ls:List (List Int),eY [.gX (ns.map PV.int),.int 2,.int (m:Int),.int (n:Int)]=M.ok (.lst (Ls.map lI))/\Ls.length=m/\∀ l∈Ls,l.length=n/\∀ x∈l,x.natAbs<10^29:=by
 have one:∀ j:Nat,j<=10->∃ l:List Int,bu (bD 0) none (ah cH (aa (ah aV (aa (af 1) (aa (ai bK (af 2) (af 3)) ao))) (aa (af 0) ao))) ((N2 n).map λi:Nat=>PV.int (i:Int)) [none,some (.sh (.gX (ns.map PV.int))),some (.sh (.int 2)),some (.sh (.int (j:Int)))]=M.ok (l.map PV.int)/\l.length=n/\∀ x∈l,x.natAbs<10^29:=λj hj=>by
  obtain⟨c,ec⟩:=mz ns (2+j) (by lia);have ec':aV [.gX (ns.map PV.int),.int (2+(j:Int))]=M.ok (.int c):=by rw[<- ec];simp
  have hx:∀ k:Nat,∃ x:Int,k<=30->cH [.int c,.int (k:Int)]=M.ok (.int x)/\x.natAbs<10^29:=λk=>by
   by_cases h:k<=30
   .obtain⟨x,a,b⟩:=wY c k h;exact⟨x,λ_=>⟨a,b⟩⟩
   .exact⟨0,λz=>absurd z h⟩
  obtain⟨g,hg⟩:=Ry hx;refine⟨(N2 n).map g,?_,by simp,λx hx=>?_⟩
  .rw[Oo];refine eH (N2 n) λk hk=>?_;have:=Oi.mp hk;dsimp? [ec',(hg k (by lia)).1];rfl
  .obtain⟨k,hk,rfl⟩:=OE.mp hx;have:=Oi.mp hk;exact(hg k (by lia)).2
 have rn:=cT (n:=(n:Int)) (by lia) (by lia);have rm:=cT (n:=(m:Int)) (by lia) (by lia);rw[Og] at rn rm;have gl:((N2 n).map λi:Nat=>PV.int (i:Int)).length<=sizeLine:=by rw[ND,Rm];exact bp (by lia)
 unfold eY fc;dsimp? [kM,rm];refine uX (N2 m) (λr env=>∃ (d:List (List Int)) (y:Option SV),env=[some (.sh (.gX (ns.map PV.int))),some (.sh (.int 2)),some (.sh (.int (m:Int))),some (.sh (.int (n:Int))),some (.ow (d.map lI)),y]/\d.length+r.length=m/\(∀ k∈r,k<m)/\∀ l∈d,l.length=n/\∀ x∈l,x.natAbs<10^29) ⟨[],none,rfl,by simp,λk hk=>Oi.mp hk,λ_ h=>nomatch h⟩ ?_ ?_
 .rintro k r env ⟨d,y,rfl,hl,hr,hd⟩;have hk:=hr k NJ;obtain⟨l,el,l1,l2⟩:=one k (by lia);refine⟨_,[some (.sh (.gX (ns.map PV.int))),some (.sh (.int 2)),some (.sh (.int (m:Int))),some (.sh (.int (n:Int))),some (.ow ((d++[l]).map lI)),some (.sh (.int k))],rfl,?_,d++[l],_,rfl,by simp only[NW,NS,QU] at hl ⊢;lia,λj hj=>hr j (NI _ hj),λx hx=>?_⟩
  .have ap:(d.map lI).length<=10001:=by rw[ND];lia
   dsimp? [rn,aq gl,el,j4,ownAt,lA ap,OL];rfl
  .rcases OZ.mp hx with h | h
   .exact hd x h
   .rw[N9.mp h];exact⟨l1,l2⟩
 .rintro env ⟨d,y,rfl,hl,_,hd⟩;refine⟨d,?_,by simpa using hl,hd⟩;dsimp? []
abbrev CP:Str:=NC " : "
theorem q_:Tt CP 10:=jP _ _ (by decide +kernel)
theorem jY(xs:List Int)(h:∀ n∈xs,n.natAbs<10^29)(hl:xs.length<=6):Tt (text xs) 186:=⟨A9 xs,by
 have a:=QC (NC " ") (xs.map tx);have b:=zT xs h;rw[pR,ND] at a;unfold text;lia⟩
def pt(z:List Int×Int):Str:=if z.2=1 then text z.1 else text z.1++CP++tx z.2
structure Lg (z:List Int×Int):Prop where
 l6:z.1.length<=6
 nx:∀ n∈z.1,n.natAbs<10^29
 p0:1<=z.2
 p1:z.2<=1000
theorem CA(h:Lg z):Tt (pt z) 226:=by
 have t:=jY z.1 h.nx h.l6;unfold pt
 split
 .exact t.up 226 (by lia)
 .exact((t.app q_).app ⟨vk z.2,p9 z.2 (by have:=h.p0;have:=h.p1;lia)⟩).up 226 (by lia)
def rz(S:List Int)(zs:List (List Int×Int)):List Str:=text S::zs.map pt
theorem um(S:List Int)(zs:List (List Int×Int))(hS:Sz S)(hz:∀ z∈zs,Lg z)(h8:zs.length<=8):(∀ p∈rz S zs,Sv p)/\wt (rz S zs)<=2010:=by
 have tS:=jY S (λn hn=>by have:=hS.hx n hn;lia) hS.h6;have one:∀ zs:List (List Int×Int),(∀ z∈zs,Lg z)->wt (zs.map pt)<=227*zs.length:=λzs=>by
  induction zs with
  | nil=>intro _;exact NK _
  | cons z r ih =>
   intro h;have a:=ih λx hx=>h x (NI _ hx);have b:=(CA (h z NJ)).le;rw[N5,show pt z::r.map pt=[pt z]++r.map pt from rfl,ib,NS];have c:wt [pt z]=(pt z).length+1:=by simp[wt]
   lia
 constructor
 .intro p hp;rcases NU.mp hp with e | e
  .rw[e];exact tS.sv
  .obtain⟨z,hm,rfl⟩:=OE.mp e;exact(CA (hz z hm)).sv
 .have a:=one zs hz;unfold rz;rw[show text S::zs.map pt=[text S]++zs.map pt from rfl,ib];have c:wt [text S]=(text S).length+1:=by simp[wt]
  have:=tS.le;lia
theorem zY{S:List Int}{zs:List (List Int×Int)}(hS:Sz S)(hz:∀ z∈zs,Lg z)(h8:zs.length<=8):Tt (Ot SC (rz S zs)) 2100:=by
 obtain⟨a,b⟩:=um S zs hS hz h8;refine⟨Sv.join B2 _ a,?_⟩;have:=QC SC (rz S zs);have l:(rz S zs).length<=9:=by unfold rz;rw[NS,ND];lia
 unfold wt at b;rw[IP] at this;lia
theorem yK(n:Int):text [n]=tx n:=by rfl
theorem B8(xs:List Int)(hp:bR p=some (xs.map PV.int))(h:∀ n∈xs,n.natAbs<10^29)(hl:xs.length<=40){g:ae->M PV}{env:ae}(hg:g env=M.ok p):i6 fk (λ_=>M.ok (.str (NC " "))) (ck (cF (itemsOf g) (bD 0) none (ah ju (aa (af 0) ao)) 1 [])) env=M.ok (.str (text xs)):=by
 have key:bu (bD 0) none (ah ju (aa (af 0) ao)) (xs.map PV.int) [none]=M.ok (xs.map λn=>.str (tx n)):=eH xs λn hn=>by dsimp? [str_int n (h n hn)]
 have hz:(xs.map PV.int).length<=sizeLine:=by rw[ND];exact c8 (by lia)
 dsimp? [i6,hg,hp,aq hz,key,ve xs h hl]
theorem oB(l:List Int)(pr:Int)(hp:bR p=some (l.map PV.int))(h:Lg (l,pr)):dN [p,.int pr]=M.ok (.str (pt (l,pr))):=by
 have s1:=pY l hp h.nx (by have:=h.l6;simp only at this;lia);have s2:=pY (p:=.lst [.int pr]) [pr] rfl (λn hn=>by rw[N9.mp hn];have:=h.p0;have:=h.p1;simp only at *;lia) (by simp);have t:=jY l h.nx h.l6;have tp:Tt (tx pr) 30:=⟨vk pr,p9 pr (by have:=h.p0;have:=h.p1;simp only at *;lia)⟩
 unfold dN f6 pt
 by_cases e:pr=1
 .rw[if_pos e];dsimp? [e,decide_true,s1]
 .rw[if_neg e];dsimp? [e,decide_false,s1,s2,yK,t.add q_,(t.app q_).add tp]
theorem og(Pr S:List Int)(Ls:List (List Int))(hS:Sz S)(hz:∀ z∈Ls.zip Pr,Lg z)(h8:Ls.length<=8):fN [qB Pr S Ls]=M.ok (.str (Ot SC (rz S (Ls.zip Pr)))):=by
 have ml:dD aw "levers" bL (af 0) ao [some (.sh (qB Pr S Ls)),none]=M.ok (.tup (Ls.map tI)):=rh rfl;have mp:dD aw "prices" cn (af 0) ao [some (.sh (qB Pr S Ls)),none]=M.ok (tI Pr):=sE rfl;have z:zip2 [.tup (Ls.map tI),tI Pr]=M.ok ((Ls.zip Pr).map λz=>.tup [tI z.1,.int z.2]):=j5 Ls Pr rfl rfl;have MZ:(Ls.zip Pr).length<=8:=by rw[Pw];lia
 have key:bu (gg 0 1) none (ah dN (aa (af 0) (aa (af 1) ao))) ((Ls.zip Pr).map λz=>.tup [tI z.1,.int z.2]) [none,none]=M.ok ((Ls.zip Pr).map λz=>.str (pt z)):=by
  refine t8 (p:=λz:List Int×Int=>tI z.1) (q:=λz:List Int×Int=>PV.int z.2) (Ls.zip Pr) λz hm=>?_;dsimp? [oB (p:=tI z.1) z.1 z.2 rfl (hz z hm)]
 have ms:dD aw "sizes" cb (af 0) ao [some (.sh (qB Pr S Ls)),some (.sh (.lst ((Ls.zip Pr).map λz=>.str (pt z))))]=M.ok (tI S):=vD rfl;have s1:=pY (p:=tI S) S rfl (λn hn=>by have:=hS.hx n hn;lia) (by have:=hS.h6;lia);obtain⟨_,w⟩:=um S (Ls.zip Pr) hS hz MZ;have jo:=jS (rz S (Ls.zip Pr)) (by lia);have jo':fk SC (.lst (.str (text S)::(Ls.zip Pr).map λz=>.str (pt z)))=M.ok (.str (Ot SC (rz S (Ls.zip Pr)))):=by
  rw[<- jo];unfold rz;rw[N5,Oo];rfl
 have gz:(Ls.zip Pr).length<=sizeLine:=bp (by lia);have ad:bK (.lst [.str (text S)]) (.lst ((Ls.zip Pr).map λz=>.str (pt z)))=M.ok (.lst ([.str (text S)]++(Ls.zip Pr).map λz=>.str (pt z))):=AU _ _ (by rw[ND,Pn];lia);unfold fN fX;dsimp? [ml,mp,z,ND,aq gz,key,i6,ms,s1,ad,jo']
theorem lR{f:List Int->PV}(hf:f=tI\/f=lI)(S:List Int)(Ls:List (List Int))(Pr:List Int)(hq:bR q=some (Ls.map f))(hS:Sz S)(hz:∀ z∈Ls.zip Pr,Lg z)(h8:Ls.length<=8):cS [lI S,q,lI Pr]=M.ok (.str (Ot SC (rz S (Ls.zip Pr)))):=by
 have MZ:(Ls.zip Pr).length<=8:=by rw[Pw];lia
 have z:zip2 [q,lI Pr]=M.ok ((Ls.zip Pr).map λz=>.tup [f z.1,.int z.2]):=j5 Ls Pr hq rfl;have j1:=B8 (p:=lI S) S rfl (λn hn=>by have:=hS.hx n hn;lia) (by have:=hS.h6;lia) (g:=af 0) (env:=[some (.sh (lI S)),some (.sh q),some (.sh (lI Pr)),none,none,none,none]) rfl;have d1:i5 (aa (i6 fk (λ_=>M.ok (.str (NC " "))) (ck (cF (itemsOf (af 0)) (bD 0) none (ah ju (aa (af 0) ao)) 1 []))) ao) [some (.sh (lI S)),some (.sh q),some (.sh (lI Pr)),none,none,none,none]=M.ok [.str (text S)]:=by
  simp only[i5,aa,j1,ao,M.aA];exact if_pos (bp (show 1<=1000 by decide))
 unfold cS gE;simp only[bq,az,bQ,NS,QU,N5,Q0,S0,RP,Nat.reduceAdd,Nat.reduceSub,NV,aq trivial,if_true,ak,oj,ite_true];rw[d1];dsimp? [z];refine dz (Ls.zip Pr) (λr env=>∃ (d:List (List Int×Int)) (y4 y5 y6:Option SV),env=[some (.sh (lI S)),some (.sh q),some (.sh (lI Pr)),some (.ow (.str (text S)::d.map λz=>.str (pt z))),y4,y5,y6]/\Ls.zip Pr=d++r) ⟨[],none,none,none,rfl,rfl⟩ ?_ ?_
 .rintro⟨l,pr⟩ r env ⟨d,y4,y5,y6,rfl,hd⟩;have hm:=hz (l,pr) (by rw[hd];simp);have dl:d.length<=8:=by
   have:=congrArg S7 hd;rw[NW] at this;lia
  have j2:=B8 (p:=f l) l (zf hf l) hm.nx (by have:=hm.l6;simp only at this;lia) (g:=af 4) (env:=[some (.sh (lI S)),some (.sh q),some (.sh (lI Pr)),some (.ow (.str (text S)::d.map λz=>.str (pt z))),some (.sh (f l)),some (.sh (.int pr)),y6]) rfl;have t:=jY l hm.nx hm.l6;have pl0:=hm.p0;have pl1:=hm.p1;simp only at pl0 pl1;have tp:Tt (tx pr) 30:=⟨vk pr,p9 pr (by lia)⟩
  refine⟨_,[some (.sh (lI S)),some (.sh q),some (.sh (lI Pr)),some (.ow (.str (text S)::(d++[(l,pr)]).map λz=>.str (pt z))),some (.sh (f l)),some (.sh (.int pr)),some (.sh (.str (pt (l,pr))))],rfl,?_,d++[(l,pr)],_,_,_,rfl,by rw[hd];simp⟩;have ap:(PV.str (text S)::d.map λz=>PV.str (pt z)).length<=10001:=by rw[NS,ND];lia
  simp only[ak,bc,O3,Ra];rw[j2];unfold pt at *
  by_cases e:pr=1
  .dsimp? [e,decide_true,j4,ownAt,lA ap,OL,if_pos]
  .dsimp? [e,decide_false,str_int pr (by lia),t.add q_,(t.app q_).add tp,j4,ownAt,lA ap,OL]
 .rintro env ⟨d,y4,y5,y6,rfl,hd⟩;rw[Oh] at hd;subst hd;obtain⟨_,w⟩:=um S (Ls.zip Pr) hS hz MZ;have jo:=jS (rz S (Ls.zip Pr)) (by lia);have jo':fk SC (.lst (.str (text S)::(Ls.zip Pr).map λz=>.str (pt z)))=M.ok (.str (Ot SC (rz S (Ls.zip Pr)))):=by
   rw[<- jo];unfold rz;rw[N5,Oo];rfl
  dsimp? [i6,jo']
theorem wB(h:cv [p]=some (.error (aL,none))):bb [p]=some (.error (aL,none)):=by
 unfold bb dZ;dsimp? [h]
def F1:List PV:=[.bH,.int 5,.bl true,.lst [.str (NC "2")],.tup [.str (NC "2")],.emp,.lst [.int 2],.tup [.int 2,.int 3]]
theorem zO:∀ p∈F1,cv [p]=some (.error (aL,none)):=by
 intro p hp;unfold cv dF;simp only[F1,NU,P8,or_false] at hp;rcases hp with rfl | rfl | rfl | rfl | rfl | rfl | rfl | rfl <;> dsimp? [eR,aq k4]
theorem Gk{Q:PV->Prop}{ws:List PV}(h:∀ p∈ws,Q p)(h0:0<=j)(h1:j<ws.length):∃ p,aC (.lst ws) (.int j)=M.ok p/\Q p:=by
 obtain⟨k,rfl⟩:=OB h0;have hk:k<ws.length:=by lia
 exact⟨ws[k],aT (xs:=ws) rfl (NG hk),h _ (Pc hk)⟩
theorem tP:aJ [.str (NC "")]=M.ok (wr (.dial 0)):=by
 have tt:Tt (NC "") 10000:=(jP "" 10 (by decide +kernel)).up 10000 (by lia);obtain⟨p0,ps,e⟩:=jF (NC "");have hp:p0=NC "" /\ ps=[]:=by
  have w:=RM (NC "") SC ny.2;rw[show Txt.split (NC "") SC=p0::ps from e,show (NC "").length=0 by decide +kernel] at w;simp only[N5,Rp,NS] at w;have l0:p0.length=0:=by lia
  have lp:ps.length=0:=by lia
  refine⟨h9 ?_,Rz.mp lp⟩;rw[cR];exact Rz.mp (by rw[len_list];exact l0)
 obtain⟨rfl,rfl⟩:=hp;have r0:rN (NC "")=some []:=by unfold rN;rw[if_pos cR]
 have t:told (NC "") []=true:=by unfold told;rw[r0];rfl
 have rv:=jt tt e;rw[t,if_pos rfl,tw (So (NC "")) (Lo []) (Po []) rfl (λ_ h=>nomatch h)] at rv;have s0:So (NC "")=[]:=by unfold So;rw[r0];rfl
 rw[s0] at rv;exact pd rv
theorem FD(s:String)(h:(NC s).cps.toList.all (λc=>decide (c<0x110000))=true):SO (NC s)=true:=(yT s h).ok
theorem A0:gu (.tup [.str (NC "text")]) (.tup [.str (NC "text")])=M.ok (.bl true):=by
 have h:=FD "text" (by decide +kernel);simp only[gu,kD,dat,gp,QT,wW,QF];rw[aq (by simp[OY,OA,QA,QS,OM,R6,Tq,h])];simp[TJ,TR,M.aA]
theorem Av:gu (.tup [.str (NC "dial"),.int 0]) (.tup [.str (NC "dial"),.int 0])=M.ok (.bl true):=by
 have h:=FD "dial" (by decide +kernel);simp only[gu,kD,dat,gp,QT,wW,QF];rw[aq (by simp[OY,OA,QA,QS,OM,R6,Tq,h])];simp[TJ,TR,M.aA]
theorem DN(S l:List Int)(hS:Sz S)(pr:Int)(h1:1<=pr)(h2:pr<=1000):Lg (ou l S,pr):=by
 refine⟨?_,λn hn=>?_,h1,h2⟩
 .unfold ou;simp only[ND,Pw];have:=hS.h6;lia
 .unfold ou at hn;obtain⟨z,hz,rfl⟩:=OE.mp hn;have:=hS.hx z.2 (OU (a:=z.1) (b:=z.2) hz).2;have a:=OF z.1 (show z.2≠0 by lia);have b:=Ol z.1 (show 0<z.2 by lia);lia
theorem DM(ns:List Int):pN [.gX (ns.map PV.int)]=M.ok (.bl true):=by
 obtain⟨c0,ec0⟩:=mz ns 0 (by decide);obtain⟨c1,ec1⟩:=mz ns 1 (by decide);have M6:aV [.gX (ns.map PV.int),.int 0]=M.ok (.int c0):=ec0;have M7:aV [.gX (ns.map PV.int),.int 1]=M.ok (.int c1):=ec1;obtain⟨a1,ea1,a10,a11⟩:=iW c0 1 (by decide);have ea1':aO [.int c0,.int 1]=M.ok (.int a1):=ea1;obtain⟨a4,ea4,a40,a41⟩:=iW c0 4 (by decide);have ea4':aO [.int c0,.int 4]=M.ok (.int a4):=ea4;obtain⟨b2,eb2,b20,b21⟩:=iW c1 2 (by decide);have eb2':aO [.int c1,.int 2]=M.ok (.int b2):=eb2;obtain⟨S,eS,hS⟩:=rK a1 a10;obtain⟨m,hm⟩:=OB (show 0<=b2%9 by lia);have m8:m<=8:=by lia
 obtain⟨Ls,eL,lL,hL⟩:=qi ns m S.length m8 hS.h6;have e9:=aB (i:=b2) (j:=9) (by decide);rw[hm] at e9;have rm:=cT (n:=(m:Int)) (by lia) (by lia);rw[Og] at rm;have hx:∀ j:Nat,∃ x:Int,j<=8->aO [.int c1,.int (20+(j:Int))]=M.ok (.int x)/\0<=x:=λj=>by
  by_cases h:j<=8
  .obtain⟨x,e,x0,_⟩:=iW c1 (20+j) (by lia);exact⟨x,λ_=>⟨by rw[<- e];simp,x0⟩⟩
  .exact⟨0,λz=>absurd z h⟩
 obtain⟨g,hg⟩:=Ry hx;have k1:bu (bD 0) none (ah aO (aa (ah aV (aa (af 1) (aa (λ_=>M.ok (.int 1)) ao))) (aa (ai bK (λ_=>M.ok (.int 20)) (af 0)) ao))) ((N2 m).map λi:Nat=>PV.int (i:Int)) [none,some (.sh (.gX (ns.map PV.int)))]=M.ok ((N2 m).map λj=>.int (g j)):=by
  refine eH (N2 m) λj hj=>?_;have:=Oi.mp hj;dsimp? [M7,(hg j (by lia)).1]
 let pr:Nat->Int:=λj=>if g j%2=0 then 1 else 1+g j/2%1000
 have k2:bu (bD 0) none (ai aC (g_ (aa (λ_=>M.ok (.int 1)) (aa (ai bK (λ_=>M.ok (.int 1)) (ai cC (ai dM (af 0) (λ_=>M.ok (.int 2))) (λ_=>M.ok (.int 1000)))) ao))) (ai cC (af 0) (λ_=>M.ok (.int 2)))) ((N2 m).map λj=>.int (g j)) [none]=M.ok ((N2 m).map λj=>.int (pr j)):=by
  refine eH (inj:=λj=>PV.int (g j)) (N2 m) λj hj=>?_;have e1:=aB (i:=g j) (j:=2) (by decide);have e2:=cG (i:=g j) (j:=2) (by decide) (by decide);have e3:=aB (i:=g j/2) (j:=1000) (by decide);have h2:g j%2=0\/g j%2=1:=by lia
  rcases h2 with z | z
  .dsimp? [e1,e2,e3,z,show aC (.lst [.int 1,.int (1+g j/2%1000)]) (.int 0)=M.ok (.int 1) from rfl];simp only[pr,z,if_true]
  .dsimp? [e1,e2,e3,z,show aC (.lst [.int 1,.int (1+g j/2%1000)]) (.int 1)=M.ok (.int (1+g j/2%1000)) from rfl];simp[pr,z]
 have prb:∀ x∈(N2 m).map pr,1<=x/\x<=1000:=λx hx=>by
  obtain⟨j,_,rfl⟩:=OE.mp hx;show 1<=(if g j%2=0 then 1 else 1+g j/2%1000)/\(if g j%2=0 then 1 else 1+g j/2%1000)<=1000
  split <;> lia
 have ePr:((N2 m).map λj=>PV.int (pr j))=((N2 m).map pr).map PV.int:=by rw[Oo];rfl
 rw[ePr] at k2;have lPr:((N2 m).map pr).length=Ls.length:=by simp[lL]
 generalize (N2 m).map pr=Pr at k2 prb lPr;have MP:∀ z∈Ls.zip Pr,Lg z:=λz hz=>by
  have a:=hL z.1 (OU (a:=z.1) (b:=z.2) hz).1;have b:=prb z.2 (OU (a:=z.1) (b:=z.2) hz).2;exact⟨by have:=hS.h6;lia,a.2,b.1,b.2⟩
 have MY:∀ z∈(Ls.map λl=>ou l S).zip Pr,Lg z:=λz hz=>by
  have a:=(OU (a:=z.1) (b:=z.2) hz).1;have b:=prb z.2 (OU (a:=z.1) (b:=z.2) hz).2;obtain⟨l,hl,e⟩:=OE.mp a;have:=DN S l hS z.2 b.1 b.2;rw[e] at this;exact this
 have lz:(Ls.zip Pr).length<=8:=by rw[Pw];lia
 have lr:((Ls.map λl=>ou l S).zip Pr).length<=8:=by rw[Pw,ND];lia
 have tx1:cS [lI S,.lst (Ls.map lI),.lst (Pr.map PV.int)]=_:=lR (f:=lI) (.inr rfl) (q:=.lst (Ls.map lI)) S Ls Pr rfl hS MP (by lia);have tx2:cS [lI S,.tup ((Ls.map λl=>ou l S).map tI),.lst (Pr.map PV.int)]=_:=lR (f:=tI) (.inl rfl) (q:=.tup ((Ls.map λl=>ou l S).map tI)) S (Ls.map λl=>ou l S) Pr rfl hS MY (by rw[ND];lia);have mk:fJ aw bA [] [lI S,.lst (Ls.map lI),.lst (Pr.map PV.int)]=_:=vR (p:=lI S) (pp:=lI Pr) (f:=lI) (.inr rfl) S Ls (.inr rfl) lPr prb rfl hS (by lia) (λl hl=>(hL l hl).1);have sv:=og Pr S (Ls.map λl=>ou l S) hS MY (by rw[ND];lia);have rl:=o6 (p:=lI S) (q:=.lst (Ls.map lI)) (.inr rfl) S Ls rfl rfl (λs hs=>by have:=hS.hx s hs;lia) (by lia) (by have:=hS.h6;lia);have tt1:=zY (zs:=Ls.zip Pr) hS MP lz;have tt2:=zY (zs:=(Ls.map λl=>ou l S).zip Pr) hS MY lr;have ss:=sW (gY 3 tt2.sv);generalize Ot SC (rz S (Ls.zip Pr))=t1 at *;generalize Ot SC (rz S ((Ls.map λl=>ou l S).zip Pr))=t2 at *;obtain⟨p1,r1,d1,q1⟩:=sx (tt1.up 10000 (by lia));have gm:(N2 m).length<=sizeLine:=by rw[Rm];exact bp (by lia)
 obtain⟨od,eod,hod⟩:=Gk zO (j:=a4%8) (by lia) (show _<(8:Int) by lia);have eod':aC (.lst [.bH,.int 5,.bl true,.lst [.str (NC "2")],.tup [.str (NC "2")],.emp,.lst [.int 2],.tup [.int 2,.int 3]]) (.int (a4%8))=M.ok od:=eod;have r7:=cT (n:=7) (by decide) (by decide);have rd:=pk (wB hod);have w0:wr (.dial 0)=.tup [.str (NC "dial"),.int 0]:=rfl;have re:=tP;rw[w0] at re;unfold pN zj;dsimp? [M6,M7,ea1',eS,eb2',e9,eL,ND,lL,rm,aq gm,k1,k2,tx1,mk,sv,rl,tx2,ss,r1,d1,q1,r7];refine dz (N2 (S5 7)) (λr env=>(∃ (y z w:Option SV),env=[some (.sh (.gX (ns.map PV.int))),some (.sh (lI S)),some (.sh (.lst (Ls.map lI))),w,some (.sh (.lst (Pr.map PV.int))),some (.sh (.str t1)),y,z,none])/\∀ k∈r,k<7) ⟨⟨_,_,_,rfl⟩,λk hk=>Oi.mp hk⟩ ?_ ?_
 .rintro k r env ⟨⟨y,z,w,rfl⟩,hr⟩;have hk:=hr k NJ;obtain⟨c,e1⟩:=mz ns (10+k) (by lia);have Mg:aV [.gX (ns.map PV.int),.int (10+(k:Int))]=M.ok (.int c):=by rw[<- e1];simp
  obtain⟨x,e2,x0,x1⟩:=iW c (50+k) (by lia);have e2':aO [.int c,.int (50+(k:Int))]=M.ok (.int x):=by rw[<- e2];simp
  obtain⟨b,e3,hb⟩:=t7 tt1 x0;obtain⟨p2,r2,d2,q2⟩:=sx hb;refine⟨_,[some (.sh (.gX (ns.map PV.int))),some (.sh (lI S)),some (.sh (.lst (Ls.map lI))),w,some (.sh (.lst (Pr.map PV.int))),some (.sh (.str t1)),some (.sh (.int k)),some (.sh (.str b)),none],rfl,?_,⟨_,_,_,rfl⟩,λj hj=>hr j (NI _ hj)⟩;dsimp? [Mg,e2',e3,r2,d2,q2]
 .rintro env ⟨⟨y,z,w,rfl⟩,_⟩;dsimp? [xO,M6,ea4',aB (i:=a4) (j:=8) (by decide),eod',rd,A0,re,Av]
end tF
theorem PySem.Challenge.cw_dialvault_k16_vaults_as_texts_holds : PySem.Challenge.rw_dialvault_k16_vaults_as_texts.Holds :=
  tF.hold HD.said λns _ _ => tF.DM ns
end