import PyProof.Rows.All
import Wide.All
import OpenK.AllK
import Wide.FinOn
import Lean
import PyProof.EqAt
import PyProof.EqKinds
import PyProof.TupleCall
import PySem.Challenge.RW_dialvault_k54_settings_led
set_option Elab.async false
set_option linter.all false
set_option maxRecDepth 100000
set_option maxHeartbeats 0
open PySem renaming wpAny_bind->Np,wpAny_pure->Nx,wpAny_field->NV,wpAny_setField_rec->N7,wpAny_seqItems->Oc,wpAny_callSpecial?_slot->Of,wpAny_newObj_type->OI,wpAny_mono->OP,wpAny_call_entry->OS,wpAny_holding->O6,wpAny_onRaise->O7,wpAny_Call_Name_kw->Po,wpAny_passesOwn->Pz,wpAny_truthy_bool->PC,mem_of_lookup->PN,wpAny_loadPart->PX,wpAny_pyIter_tuple->P4,wpAny_attempt->Qc,wpAny_rule->Qg,wpAny_letGo->Qk,wpAny_standAt->Qw,wpAny_execs_nil->QD,call_meets->QG,codeAny_mono->QV,wpAny_pyIter_enum->QW,wpAny_setField->QX,plainObj_wpAny_Assign_Attribute->Q3,wpAny_pyIter_zip->Q8,wpAny_call->Q9,wpAny_updateSeq_pair->Ri,wpAny_loadPart'->Ru,wpAny_newFunctionEnv_cells->RI,wpAny_letOwnedTupleGo_enum->RN,wpAny_binaryOp_repeat_ref->RV,wpAny_letOwnedTupleGo_zip->RW,wpAny_pyIter_list->R1,wpAny_loadPart_at->R3,noFill_tuple_add->Sb,wpAny_isInstance->Sd,typeIs_int->Sn,wpAny_ite_false->SD,codeAny_call_function->SE,codeAny_handlers_test->SH,isSubtype_stop->SO,codeAny_call_builtin->SQ,wpAny_handleBy_cons->S8,seq_tuple_add->S9,Within->TF,wpAny_assign_Name->TH,concat_meets->TZ,wpAny_sequenceKey->T3,wpAny_typeOf->T4,seqIndex_neg->T5,slot_list_getitem->T6,callType_new->T8,seqSlot_of->Uo,seqIndex_of->Ux,wpAny_Name->UM
open PySem.Heap renaming get?_push_of_some->Nq,get?_push_size->Ny,lt_size->Nz,size_push->NY,get?_update_other->OB,get?_update_self->OL,get?_none_of_le->Qf,SameBut->Qm
open PySem.W renaming Frag->Nr,kitOne->NI,findIn->N1,keepIn->Oi,kia_one->Oq,fnOf->OE,emptyDict->OJ,looks_findIn->OR,InstAt->O8,codeIn->O9,instObj->Pa,clsIn->PM,any_some->PU,exmOne->PZ,isFn->P1,callWith_K->P6,lookIn->Qh,typeIn->Qi,Looks->QA,takerIn->QE,hasDictIn->QM,specialIn->QN,kitx_list->QO,kitx_dict->QS,cellsFrom_some->QT,methodCall_KW->Q5,plainGet->Q6,excIn->Rb,takesIn->Ro,findObj->Rt,plainGet_of->Ry,looks_clsIn->Rz,looks_mroIn->RB,kitAny->RP,methodObj->RZ,mroIn->R5,nsIn->Sq,looks_typeIn->SS,findObj_own->S3,callWith_K0->S6,kitx_float->Tg,kitx_tuple->Th,codeRec_of->Ti,check_slot->To,looks_find->Tp,isNs_of_in->Tr,tail_of_in->Tt,plainOver->TL,set_plain->TM,kitx_none->TU,kitx_bool->TV,handedIn->Ug,kitx_int->Uh,kitx_str->Ui,kitx_own->Uj,shadowIn->Ul,makesIn->UB,bind_fn->UC,exm_one->UE,mg_of->UT,KitX->U1
open List renaming getElem?_eq_getElem->Nt,length_map->Nu,replicate->Nv,size_toArray->ND,mem_cons_of_mem->NH,mem_cons->NJ,length_append->NO,getD_eq_getElem?_getD->NR,getElem?_map->NT,mem_cons_self->NU,map_cons->NX,getElem?_append_right->N2,getElem_mem->N4,getElem?_set->N5,mem_singleton->N6,getElem?_eq_some_iff->N8,getElem?_append_left->N9,mem_iff_getElem->Oa,mem_append_right->Oe,append_nil->Og,all_eq_true->Oh,length_zipIdx->Oj,replicate_succ->Oo,mem_nil_iff->Ov,range->Oz,lookup_cons->OD,map_map->ON,length_zip->OO,length_cons->OQ,flatten_cons->OX,fst_mem_of_mem_zipIdx->OZ,mem_append->O0,of_mem_zip->O1,getElem_zipIdx->Pc,length_take->Pj,mem_range->Pn,length_mapIdx->Pq,set_cons_zero->Pr,drop_eq_getElem_cons->Py,append_assoc->PD,getElem?_take_of_lt->PK,length_drop->PY,take_of_length_le->P5,drop_eq_nil_of_le->P7,map_replicate->P8,length_set->P9,nil_append->P_,length_singleton->Qd,lookup->Qj,map_nil->Qp,cons_append->Qt,map_append->QF,set_cons_succ->QH,getElem?_replicate->QI,mem_map->QY,take_succ_eq_append_getElem->Q0,length_replicate->Q4,zipIdx_cons->Q7,mem_append_left->Rc,getElem?_set_ne->Rf,nodup_cons->Rp,zipIdx_nil->Rq,forIn_cons->Rr,filterMap_cons->Rv,length_zipWith->RC,foldl->RM,forIn_nil->RO,find?_eq_none->RU,snd_lt_of_mem_zipIdx->RX,length->R0,map_take->R7,find?_range_eq_some->R8,not_mem_nil->Sk,getElem?_set_self->Sl,zipWith->Ss,drop_of_length_le->Sy,getElem?_eq_none->SJ,mem_of_getElem?->SN,getElem?_mapIdx->SW,drop_zero->SX,getElem?_range->S7,all_cons->Tc,mem_filterMap->Td,zip_cons_cons->Tu,ext_getElem?->T_,length_range->Uc,length_tail->Up,take_length->Ur,ext_getElem->Ut,getElem_map->Uw,mem_filter->UA,all_map->U3
open PySem.Value renaming ref->NB,none->Ob,type->OW,bool->Pk,builtin->Ra,int->R9,str->R_,float->SK,bytes->U4
open Nat renaming le_refl->NC,lt_of_lt_of_le->NG,ne_of_lt->NP,le_trans->NZ,zero_le->Om,lt_of_le_of_lt->OC,le_add_right->OT,lt_succ_self->O3,gcd->O_,ne_of_gt->Pd,lt_irrefl->PJ,mul_le_mul_left->PR,min_le_right->Qn,mul_comm->Qq,mul_assoc->QC,le_of_lt->QL,mul_le_mul->QZ,le_succ->Rh,pow_le_pow_right->Rk,mul_le_mul_right->Rm,dvd_mul_right->R4,lcm->Sw,lt_or_ge->Sx,le_of_eq->TQ,add_comm->T7,sub_zero->Ua,succ_ne_self->Uq,gcd_dvd_left->Us,log2_lt->Uy,min_le_left->UJ,div_le_self->UK,not_lt_zero->UL,le_of_dvd->UY
open PySem.Str renaming ofString->NF
open PySem.W.Fast renaming te4187177175401517315->NK,te5923862056798008813->NL,te14364793385576792824->N_,te10110043849684766642->Pf
open PySem.Builtin.SmallTypes renaming nextOf->NN,ownedTupleIsFree->NW,ownedTupleHandOut->OH
open Option.some renaming inj->NQ
open Option renaming map_eq_some_iff->NS,getD_some->Qs,isSome_iff_exists->Qx,bind_eq_some_iff->QK,getD_none->Uk,bind_some->Um,map_some->UG
open Eq renaming trans->N3
open Int renaming emod_lt_of_pos->Od,emod_nonneg->Ot,eq_ofNat_of_zero_le->Ow,toNat_natCast->Ox,mul_assoc->Ph,gcd->Pu,emod_add_mul_ediv->Pw,natAbs_mul->P0,fdiv_eq_ediv_of_nonneg->Ql,mul_add->Rl,mul_le_mul_of_nonneg_left->Rn,dvd_trans->R6,dvd_mul_left->Si,emod_eq_zero_of_dvd->Sj,mul_comm->Sv,mul_ediv_add_emod->SI,natAbs_neg->SY,dvd_add->S0,lt_of_le_of_lt->Tv,natCast_nonneg->Tw,ofNat_le->Ub,dvd_mul_right->Ud,gcd_dvd_left->Uu,sub_mul->Uz,ediv_nonneg->UI,mul_nonneg->UN,natAbs_dvd->UP,mul_le_mul->UQ,toNat->UZ
open PyProof.Rows renaming slot_tuple_getitem->Ol,callWith_type1->OV,assignInOrder_cons->RH,subscriptTail_builtinR->Sm,boot_zip->SG,entry_tuple_getitem->S4,args_tuple_getitem->Tj,assignInOrder_nil->TJ
open Bool renaming and_eq_true->Ou,false_ne_true->OF,and_eq_true_iff->OU,false_eq_true->RT,eq_iff_iff->SA,false_and->SM,not_eq_true'->T9,not_false->UO,not_true->UU,true_and->UW,and_true->UX
open False renaming elim->OA
open Array renaming getElem?_eq_some_iff->OG,length_toList->Rx,find?_toList->Te,toList->U0
open PySem.AutoSeq1 renaming wpAny_loadPart'->OM,sub_tuple_tuple->QB,idx_int->Sg
open PySem.PyData renaming canLay0->OY,int->O4,depth->Pe,canLayAll0->PF,depthAll->Qa,list->U5,eqv->U8
open Ne renaming symm->O5
open True renaming intro->Pb
open PySem.Obj renaming mapFields->Pg,data_mapFields->Pp,isFreed_of_fields->Qe,mapSeq->RL
open PySem.Builtin.Slice renaming slicePlaces->Px,sliceAdjust->Qu,sliceApplied->RJ
open PySem.Builtin.Tuple renaming tupleExact->PL,tupleItemsOf->RK,tupleTooMany->RQ
open PySem.F renaming args_tuple_add_2->Qy,entry_tuple_add->QJ,slot_tuple_add->QU,excBase_ValueError->RS,attr_ValueError->Se,plainAttrs_list->Sh
open PySem.Builtin.List renaming listTooLong->Qz
open PySem.SeqAt renaming noMixAll->Q2,shaped->Tz,shaped->Ue,noMix->U6
open PySem.NameKind renaming free->Q_,cell->S_
open PySem.Shared renaming heap->Rj
open PySem.Heap.SameBut renaming update->RA
open PySem.Builtin.Int renaming intBits->RD
open PySem.Spec renaming sameAll->RE
open PySem.Calls renaming Name_function_global->RG,callWith_builtin->So
open Sum renaming inl->RY,inr->S1
open PySem.Flow renaming next->Sa
open Nat.succ renaming inj->Su
open PyProof.Rows.IsTup renaming new->S2
open PySem.EntryCells renaming newEntry->S5
open PySem.W.Looks renaming here->Tf
open PySem.Code renaming quiet_builtin->Tq,isFrame->TY
open PySem.Within renaming cons->TN
open PySem.Heap.Ns1 renaming of_empty->TR
open PySem.Around renaming under->TX
open Classical renaming skolem->Uv
open ForInStep renaming yield->UD
open PySem.W.Frag renaming In->UH
open Prod renaming snd->UR,fst->US
open PySem.Heap.IsSliceOf renaming new->U7
noncomputable section
theorem aR(h:True:=by rfl):True:=h
theorem aD(h:True:=by decide):True:=h
theorem aI(h:True:=by intro _;rfl):True:=h
theorem aK(h:True:=by kernel_rfl):True:=h
theorem aF(h:True:=by first | exact .inl rfl | exact .inr rfl | assumption):True:=h
theorem aU(h:True:=by with_unfolding_all rfl):True:=h
theorem aN(h:True:=by decide +kernel):True:=h
theorem aG(h:True:=by first | exact .inl rfl | exact .inr rfl):True:=h
namespace L2
open PySem PySem.Spec PyProof.Rows
abbrev Key:=Sum Int Str
def B7:Key->Value->Bool
 | .inl k,v=>Value.isInt k v
 | .inr x,v=>Value.isStrOf x v
def IC(w:World):Key->Int
 | .inl k=>hashInt k
 | .inr x=>hashStr w x
theorem b_:∀ {k:Key} {v:Value},B7 k v=true->(∃ i t,k=RY i/\v=R9 i t)\/(∃ x t,k=S1 x/\v=R_ x t)
 | .inl i,v,h=>by
  obtain⟨t,e⟩:=Value.isInt_shape (k:=i) (v:=v) h;exact .inl ⟨i,t,rfl,e⟩
 | .inr x,v,h=>by
  obtain⟨t,e⟩:=Value.isStrOf_shape (x:=x) (v:=v) h;exact .inr ⟨x,t,rfl,e⟩
theorem ED(a b:Int):decide ((RY a:Key)=RY b)=(a==b):=by
 by_cases e:a=b
 .subst e;simp
 .have h:¬ (RY a:Key)=RY b:=λq=>e (Sum.inl.inj q);rw[decide_eq_false h];exact(beq_eq_false_iff_ne.mpr e).symm
theorem Er(a b:Str):decide ((S1 a:Key)=S1 b)=decide (a=b):=by
 by_cases e:a=b
 .subst e;simp
 .have h:¬ (S1 a:Key)=S1 b:=λq=>e (Sum.inr.inj q);rw[decide_eq_false h,decide_eq_false e]
theorem CT(a:Int)(b:Str):decide ((RY a:Key)=S1 b)=false:=decide_eq_false (λq=>nomatch q)
theorem C9(a:Str)(b:Int):decide ((S1 a:Key)=RY b)=false:=decide_eq_false (λq=>nomatch q)
def pB(prog:Program)(w:World):PySem.KeyKind prog w Key where
 is:=B7
 hash:=IC w
 inj:=λv a b ha hb=>by
  rcases b_ ha with ⟨i,t,rfl,rfl⟩ | ⟨x,t,rfl,rfl⟩
  .rcases b_ hb with ⟨j,u,rfl,e⟩ | ⟨y,u,rfl,e⟩
   .injection e with e1 _;rw[e1]
   .exact nomatch e
  .rcases b_ hb with ⟨j,u,rfl,e⟩ | ⟨y,u,rfl,e⟩
   .exact nomatch e
   .injection e with e1 _;rw[e1]
 byValue:=λk v h=>by
  rcases b_ h with ⟨i,t,rfl,rfl⟩ | ⟨x,t,rfl,rfl⟩ <;> rfl
 pyHash:=λhv h=>by
  rcases b_ hv with ⟨i,t,rfl,rfl⟩ | ⟨x,t,rfl,rfl⟩
  .exact wpAny_pyHash_int h
  .exact wpAny_pyHash_str h
 eqBool:=λhu hv h=>by
  rcases b_ hu with ⟨i,t,rfl,rfl⟩ | ⟨x,t,rfl,rfl⟩
  .rcases b_ hv with ⟨j,u,rfl,rfl⟩ | ⟨y,u,rfl,rfl⟩
   .rw[ED] at h;exact wpAny_eqBool_int h
   .rw[CT] at h;exact SeqAt.EqAt.int_str i t y u _ _ _ _ h
  .rcases b_ hv with ⟨j,u,rfl,rfl⟩ | ⟨y,u,rfl,rfl⟩
   .rw[C9] at h;exact SeqAt.EqAt.str_int x t j u _ _ _ _ h
   .rw[Er] at h;exact wpAny_eqBool_str h
 «strs»:=λk x t v h=>by
  rcases b_ h with ⟨i,u,rfl,e⟩ | ⟨y,u,rfl,e⟩
  .exact nomatch e
  .injection e with e1 _
   subst e1;cases v <;> rfl
inductive V where
 | bz | bl (b:Bool) | int (i:Int) | str (x:Str) | byt (b:Array UInt8) | CA (b:UInt64) | ref (a:Addr) | ty (n:String)
 deriving DecidableEq
def RelV:V->Value->Prop
 | .bz,u=>u=Ob
 | .bl b,u=>u=Pk b
 | .int i,u=>∃ t,u=R9 i t
 | .str x,u=>∃ t,u=R_ x t
 | .byt b,u=>∃ t,u=U4 b t
 | .CA b,u=>∃ t,u=SK b t
 | .ref a,u=>u=NB a
 | .ty n,u=>u=OW n
abbrev Vals:List V->List Value->Prop:=Paired RelV
theorem Vals.length{xs:List V}{us:List Value}(r:Vals xs us):xs.length=us.length:=Paired.length r
theorem Vals.get:∀ {xs:List V} {us:List Value} {i:Nat} {x:V},Vals xs us->xs[i]?=some x->∃ u,us[i]?=some u/\RelV x u
 | _,_,_,_,.nil,e=>by simp at e
 | _,_,0,_,.cons r _,e=>by simp at e;subst e;exact⟨_,rfl,r⟩
 | _,_,i+1,x,.cons _ t,e=>by
  obtain⟨u,h1,h2⟩:=Vals.get (i:=i) (x:=x) t (by simpa using e);exact⟨u,by simpa using h1,h2⟩
theorem Vals.set{x:V}{u:Value}(r:RelV x u):∀ {xs:List V} {us:List Value} (i:Nat),Vals xs us->Vals (xs.set i x) (us.set i u)
 | _,_,_,.nil=>.nil
 | _,_,0,.cons _ t=>.cons r t
 | _,_,i+1,.cons q t=>.cons q (Vals.set r i t)
theorem Vals.append:∀ {xs ys:List V} {us ws:List Value},Vals xs us->Vals ys ws->Vals (xs++ys) (us++ws)
 | _,_,_,_,.nil,s=>s
 | _,_,_,_,.cons r t,s=>.cons r (Vals.append t s)
theorem Vals.take:∀ {xs:List V} {us:List Value} (n:Nat),Vals xs us->Vals (xs.take n) (us.take n)
 | _,_,0,_=>.nil
 | _,_,_+1,.nil=>.nil
 | _,_,n+1,.cons r t=>.cons r (Vals.take n t)
theorem Vals.drop:∀ {xs:List V} {us:List Value} (n:Nat),Vals xs us->Vals (xs.drop n) (us.drop n)
 | _,_,0,r=>r
 | _,_,_+1,.nil=>.nil
 | _,_,n+1,.cons _ t=>Vals.drop n t
def jm:Option V->Option Value->Prop
 | some v,some u=>RelV v u
 | none,none=>True
 | _,_=>False
def KV{κ:Type}:List (κ×V)->List (κ×Value)->Prop:=Paired λ(p:κ×V) (q:κ×Value)=>p.1=q.1/\RelV p.2 q.2
def kV:Key->V
 | .inl i=>.int i
 | .inr x=>.str x
inductive HO where
 | lst (xs:List V)
 | tup (xs:List V)
 | dK (Kf:List (Key×V)) | dT (Kf:List (List Key×V))
 | set (S:Int->Bool) (n:Nat)
 | ins (C dx:Addr) (fs:List (Str×V))
 | own (x:Addr)
 | xd (fs:List (Str×V))
 | met (f x:Addr)
 | w_ (lo hi:Int)
 | ny (o:Obj) (u:HO)
 | B4 (ps:Array Value)
 | ext (φ:Heap->Prop)
abbrev Hp:=Addr->Option HO
def upd(H:Hp)(a:Addr)(o:HO):Hp:=λb=>if b=a then some o else H b
variable{a:Addr}{H:Hp}
theorem az{o:HO}:upd H a o a=some o:=by unfold upd;rw[if_pos rfl]
variable{b:Addr}
theorem av{o:HO}(h:b≠a):upd H a o b=H b:=by unfold upd;rw[if_neg h]
theorem uu{o u:HO}:upd (upd H a o) a u=upd H a u:=by
 funext b;unfold upd;split <;> rfl
theorem bQ{o:HO}(h:H a=some o)(h':H b=none):a≠b:=by
 intro e;subst e;rw[h] at h';cases h'
section
variable(P:Program)(w:World)
def bS(H:Hp)(h:Heap)(a:Addr):HO->Prop
 | .lst xs=>xs.length<=sizeLine/\∃ (J4:List Value) (n:Nat),Vals xs J4/\h.get? a=some { cls:=.type "list", data:=.seq J4.toArray n }
 | .tup xs=>xs.length<=sizeLine/\∃ J4:List Value,Vals xs J4/\IsTup h a J4.toArray
 | .dK Kf=>Kf.length<=sizeLine/\(a==sysModules)=false/\∃ vs,KV Kf vs/\h.DictOf (pB P w) a vs
 | .dT Kf=>Kf.length<=sizeLine/\(a==sysModules)=false/\∃ xs:List (List Key×Addr×Value),
   Paired (λ(p:List Key×V) (q:List Key×Addr×Value)=>p.1=q.1/\H q.2.1=some (.tup (p.1.map kV))/\RelV p.2 q.2.2) Kf xs ∧
   ∃ o es ep,h.get? a=some o/\o.ExactDict/\o.data=.dict es ep/\es.toList=xs.map (entryOfKey (tupleKind (pB P w)))/\(xs.map (·.1)).Nodup
 | .set S n=>h.SetOf (intKind P w) a S n
 | .ins C dx fs=>H dx=some (.own a)/\fs.length<=1000/\dx≠a/\h.get? a=some (Pa C dx) ∧
   ∃ mA,h.Ns1 dx mA/\(∀ f,jm (fs.lookup f) (mA f))/\TF mA (fs.map (·.1))
 | .own _=>∃ o,h.get? a=some o
 | .xd fs=>∃ mA,h.Ns1 a mA/\∀ f,jm (fs.lookup f) (mA f)
 | .w_ lo hi=>∃ t u v,h.get? a=some { cls:=.type "range", data:=.fields #[.int lo t,.int hi u,.int 1 v] }
 | .ny o u=>h.get? a=some o/\bS H h a u
 | .B4 ps=>h.get? a=some { cls:=.none,data:=.fields ps }
 | .met f x=>h.get? a=some (RZ (.ref f) (.ref x))
 | .ext φ=>φ h/\(∃ o,h.get? a=some o)/\∀ h1 h2:Heap,φ h1->(∀ o,h1.get? a=some o->h2.get? a=some o)->φ h2
def j9(H:Hp)(h:Heap):Prop:=∀ a o,H a=some o->bS P w H h a o
end
variable{h h':Heap}{H':Hp}{w:World}{P:Program}
section
variable{o:HO}
theorem bS.lt(x:bS P w H h a o):a<h.objs.size:=by
 cases o with
 | lst xs=>obtain⟨_,_,_,_,e⟩:=x;exact Nz e
 | tup xs=>obtain⟨_,_,_,p⟩:=x;exact p.lt
 | dK Kf=>obtain⟨_,_,_,_,o,_,_,e,_⟩:=x;exact Nz e
 | dT Kf=>obtain⟨_,_,_,_,o,_,_,e,_⟩:=x;exact Nz e
 | set S n=>obtain⟨o,_,_,_,e,_⟩:=x;exact Nz e
 | ins C dx fs=>obtain⟨_,_,_,e,_⟩:=x;exact Nz e
 | own y=>obtain⟨_,e⟩:=x;exact Nz e
 | xd fs=>obtain⟨_,⟨_,_,_,e,_⟩,_⟩:=x;exact Nz e
 | w_ lo hi=>obtain⟨_,_,_,e⟩:=x;exact Nz e
 | ny ob u=>obtain⟨e,_⟩:=x;exact Nz e
 | B4 ps=>exact Nz (show h.get? a=some _ from x)
 | met f y=>exact Nz (show h.get? a=some _ from x)
 | ext φ=>obtain⟨_,⟨_,e⟩,_⟩:=x;exact Nz e
theorem Paired.GK{α β:Type}{F G:α->β->Prop}:∀ {l₁:List α} {l₂:List β},Paired F l₁ l₂->(∀ a b,F a b->G a b)->Paired G l₁ l₂
 | _,_,.nil,_=>.nil
 | _,_,.cons r t,f=>.cons (f _ _ r) (Paired.GK t f)
theorem bS.jK(x:bS P w H h a o)(k:∀ b u,(b=a\/H b=some (.own a))->h.get? b=some u->h'.get? b=some u)
  (ho:∀ b,H b=some (.own a)->H' b=some (.own a)) (ht:∀ b xs,H b=some (.tup xs)->H' b=some (.tup xs)):bS P w H' h' a o:=by
 induction o with
 | lst xs=>obtain⟨z,J4,n,r,e⟩:=x;exact⟨z,J4,n,r,k _ _ (.inl rfl) e⟩
 | tup xs=>obtain⟨z,J4,r,ob,e,c⟩:=x;exact⟨z,J4,r,ob,k _ _ (.inl rfl) e,c⟩
 | dK Kf=>obtain⟨z,y,vs,r,ob,es,ep,e,c⟩:=x;exact⟨z,y,vs,r,ob,es,ep,k _ _ (.inl rfl) e,c⟩
 | dT Kf =>
  obtain⟨z,y,xs,r,ob,es,ep,e,c⟩:=x;exact⟨z,y,xs,Paired.GK r λp q z=>⟨z.1,ht _ _ z.2.1,z.2.2⟩,ob,es,ep,k _ _ (.inl rfl) e,c⟩
 | set S n=>obtain⟨ob,es,ep,t,e,c⟩:=x;exact⟨ob,es,ep,t,k _ _ (.inl rfl) e,c⟩
 | ins C dx fs =>
  obtain⟨d,z,ne,e,mA,⟨od,es,ep,e2,c⟩,r⟩:=x;exact⟨ho _ d,z,ne,k _ _ (.inl rfl) e,mA,⟨od,es,ep,k _ _ (.inr d) e2,c⟩,r⟩
 | own y=>obtain⟨ob,e⟩:=x;exact⟨ob,k _ _ (.inl rfl) e⟩
 | xd fs=>obtain⟨mA,⟨od,es,ep,e,c⟩,r⟩:=x;exact⟨mA,⟨od,es,ep,k _ _ (.inl rfl) e,c⟩,r⟩
 | w_ lo hi=>obtain⟨t,u,v,e⟩:=x;exact⟨t,u,v,k _ _ (.inl rfl) e⟩
 | ny ob u ih=>obtain⟨e,q⟩:=x;exact⟨k _ _ (.inl rfl) e,ih q⟩
 | B4 ps =>
  have e:h.get? a=some { cls:=.none,data:=.fields ps }:=x;show h'.get? a=some { cls:=.none,data:=.fields ps };exact k a _ (.inl rfl) e
 | met f y =>
  have e:h.get? a=some (RZ (.ref f) (.ref y)):=x;show h'.get? a=some (RZ (.ref f) (.ref y));exact k a _ (.inl rfl) e
 | ext φ=>obtain⟨p,⟨o,e⟩,st⟩:=x;exact⟨st _ _ p λo q=>k _ _ (.inl rfl) q,⟨o,k _ _ (.inl rfl) e⟩,st⟩
theorem j9.lt(x:j9 P w H h)(e:H a=some o):a<h.objs.size:=(x a o e).lt
theorem j9.fresh(x:j9 P w H h)(e:h.objs.size<=a):H a=none:=by
 cases q:H a with
 | none=>rfl
 | some u=>exact absurd (NG (x.lt q) e) (PJ _)
theorem j9.kept(x:j9 P w H h)(k:∀ b u,h.get? b=some u->h'.get? b=some u):j9 P w H h':=λa o e =>
 (x a o e).jK (λb u _ q=>k b u q) (λ_ q=>q) λ_ _ q=>q
theorem j9.laid(x:j9 P w H h)(k:∀ b u,h.get? b=some u->h'.get? b=some u)(hp:h.objs.size<=a)(new:bS P w (upd H a o) h' a o):j9 P w (upd H a o) h':=λb u e=>by
 have hn:=x.fresh hp
 by_cases hb:b=a
 .subst hb;rw[az] at e;cases e;exact new
 .rw[av hb] at e;exact(x b u e).jK (λc v _ q=>k c v q) (λc q=>by rw[av (bQ q hn)];exact q) λc xs q=>by rw[av (bQ q hn)];exact q
end
def Rd(H:Hp)(a:Addr)(u:HO):Prop:=H a=some u\/∃ o,H a=some (.ny o u)
theorem Rd.ok{u:HO}(r:Rd H a u)(x:j9 P w H h):bS P w H h a u:=by
 rcases r with r | ⟨o,r⟩
 .exact x a u r
 .obtain⟨_,q⟩:=x a _ r;exact q
def G4:Option HO->Prop
 | some (.lst _)=>True
 | some (.dK _)=>True
 | some (.dT _)=>True
 | some (.set _ _)=>True
 | some (.ins _ _ _)=>True
 | some (.ext _)=>True
 | _=>False
section
variable{x e:Addr}{o':HO}
theorem j9.write(ok:j9 P w H h)(mu:G4 (H x))(he:e=x\/H e=some (.own x))(k:∀ b u,b≠e->h.get? b=some u->h'.get? b=some u)(MM:∃ u,h'.get? e=some u)
  (new:bS P w (upd H x o') h' x o'):j9 P w (upd H x o') h':=λb u q=>by
 have Nm:∀ c y,H c=some (.own y)->c≠x:=λc y r z=>by subst z;rw[r] at mu;exact mu
 have ntup:∀ c xs,H c=some (.tup xs)->c≠x:=λc xs r z=>by subst z;rw[r] at mu;exact mu
 by_cases hb:b=x
 .subst hb;rw[az] at q;cases q;exact new
 .rw[av hb] at q
  by_cases LO:b=e
  .have q':H b=some (.own x):=by
    rcases he with z | z
    .exact absurd (LO.trans z) hb
    .rw[LO];exact z
   rw[q] at q';cases q';obtain⟨v,hv⟩:=MM;exact⟨v,by rw[LO];exact hv⟩
  .refine(ok b u q).jK (λc v hc r=>k c v ?_ r) (λc r=>by rw[av (Nm c b r)];exact r) λc xs r=>by rw[av (ntup c xs r)];exact r
   rcases hc with rfl | hc
   .exact LO
   .rintro rfl;rcases he with z | z
    .exact Nm c b hc z
    .rw[hc] at z;cases z;exact hb rfl
end
structure Un (fs ex:List Addr) (H H':Hp) (h h':Heap):Prop where
 keep:∀ b o,h.get? b=some o->H b=none->b ∉ fs->b ∉ ex->h'.get? b=some o
 slot:∀ b o,h.get? b=some o->H b=none->b∈fs->b ∉ ex->∃ sl,h'.get? b=some { o with slots:=sl }
 free:∀ b o,h.get? b=some o->H b=none->b ∉ ex->H' b=none
 there:∀ b o,h.get? b=some o->b ∉ ex->∃ o',h'.get? b=some o'
 mi:∀ b xs,H b=some (.tup xs)->H' b=some (.tup xs)
 jj:∀ b o u,H b=some (.ny o u)->H' b=some (.ny o u)
 mV:∀ b ps,H b=some (.B4 ps)->∃ more,H' b=some (.B4 (ps++more))
section
variable{fs fs' ex ex':List Addr}{H1 H2:Hp}{h1 h2:Heap}{x e:Addr}{o:HO}
theorem Un.any(u:Un fs ex H H1 h h1){ob:Obj}(q:h.get? b=some ob)(n:H b=none)(hx:b ∉ ex):∃ sl,h1.get? b=some { ob with slots:=sl }:=by
 by_cases hb:b∈fs
 .exact u.slot b ob q n hb hx
 .exact⟨ob.slots,u.keep b ob q n hb hx⟩
theorem Un.kept(k:∀ b u,h.get? b=some u->h'.get? b=some u):Un fs ex H H h h' :=
 ⟨λb ob q _ _ _=>k b ob q,λb ob q _ _ _=>⟨ob.slots,k b ob q⟩,λ_ _ _ n _=>n,λb ob q _=>⟨ob,k b ob q⟩,λ_ _ q=>q,λ_ _ _ q=>q,λ_ ps q=>⟨#[],by rw[q];simp⟩⟩
theorem Un.refl:Un fs ex H H h h:=Un.kept λ_ _ q=>q
theorem Un.laid(k:∀ b u,h.get? b=some u->h'.get? b=some u)(hp:h.objs.size<=a)(hn:H a=none):Un fs ex H (upd H a o) h h' where
 keep:=λb u q _ _ _=>k b u q
 slot:=λb u q _ _ _=>⟨u.slots,k b u q⟩
 free:=λb u q n _=>by rw[av (NP (NG (Nz q) hp))];exact n
 there:=λb u q _=>⟨u,k b u q⟩
 mi:=λb xs q=>by rw[av (bQ q hn)];exact q
 jj:=λb u xs q=>by rw[av (bQ q hn)];exact q
 mV:=λb ps q=>⟨#[],by rw[av (bQ q hn),q];simp⟩
theorem Un.write(mu:G4 (H x))(he:e=x\/H e=some (.own x))(k:∀ b u,b≠e->h.get? b=some u->h'.get? b=some u)(MM:∃ u,h'.get? e=some u):Un fs ex H (upd H x o) h h':=by
 have hx:∀ b,H b=none->b≠x:=λb n z=>by subst z;rw[n] at mu;exact mu
 have hb:∀ b,H b=none->b≠e:=λb n z=>by
  subst z;rcases he with r | r
  .exact hx b n r
  .rw[n] at r;cases r
 have hm:∀ b u,H b=some u->¬ G4 (some u)->b≠x:=λb u q nm z=>by subst z;rw[q] at mu;exact nm mu
 refine⟨λb u q n _ _=>k b u (hb b n) q,λb u q n _ _=>⟨u.slots,k b u (hb b n) q⟩,λb u q n _=>by rw[av (hx b n)];exact n,λb u q _=>?_,
  λb xs q=>by rw[av (hm b _ q λz=>z)];exact q,λb u xs q=>by rw[av (hm b _ q λz=>z)];exact q,λb ps q=>⟨#[],by rw[av (hm b _ q λz=>z),q];simp⟩⟩
 by_cases LO:b=e
 .subst LO;exact MM
 .exact⟨u,k b u LO q⟩
end
def G2(h:Heap)(H:Hp):List Addr:=(Oz h.objs.size).filter λa=>(H a).isSome
def qa(h:Heap)(H:Hp):Heap:=PySem.W.hideAll h (G2 h H)
theorem vV(h:Heap)(H:Hp):(qa h H).objs.size=h.objs.size:=PySem.W.hideAll_size _ _
variable{o:Obj}
theorem yD(e:h.get? b=some o)(n:H b=none):(qa h H).get? b=some o :=
 PySem.W.hideAll_get _ e λhm=>by
  have q:(H b).isSome=true:=(UA.mp hm).2;rw[n] at q;simp at q
theorem Ac(e:(qa h H).get? b=some o):h.get? b=some o/\H b=none:=by
 have e':h.get? b=some o:=PySem.W.of_hideAll (G2 h H) e;refine⟨e',?_⟩;cases q:H b with
 | none=>rfl
 | some x =>
  have hm:b∈G2 h H:=UA.mpr ⟨Pn.mpr (Nz e'),by simp[q]⟩;have z:(qa h H).get? b=none:=PySem.W.hideAll_none (G2 h H) hm;rw[z] at e;cases e
def AK(g h:Heap)(L:Addr):List (Addr×Obj):=(Oz h.objs.size).filterMap λa=>if a=L\/(g.get? a).isSome=true then none else (h.get? a).map λo=>(a,o)
def rest(g h:Heap)(L d:Addr):List (Addr×Obj):=(AK g h L).filter λp=>decide (p.1≠d)
structure Mod (K:Nr) (mg:Str->Option Value) (base:Heap):Prop where
 CM:K.In base
 glob:base.Ns mainGlobals mg
 blt:∃ mb,base.Ns builtinsNs mb/\∀ x:Str,x ≠ "__name__" -> mb x=bootBuiltins x
 nolimit:base.NoLimit
structure Cx where
 prog:Program
 w:World
 K:Nr
 mg:Str->Option Value
 base:Heap
 A:Around
 N:List Str
 s₀:Shared
 H₀:Hp
 env:Env
 outer:List Env
 stack:List Env
 ex:List Addr
 fn:Str->Bool
 calm:Bool
 pn:List (Addr×Obj)
 xe:Value->Shared->Prop
def sE(l:List Env):List Addr:=l.filterMap (·.frame)
abbrev Cx.fs(X:Cx):List Addr:=sE X.outer
def z8(sc:Scope)(x:Str):Prop:=sc.names.lookup x=some .local\/sc.names.lookup x=some .cell\/sc.names.lookup x=some .free
def Loc(sc:Scope)(x:Str):Prop:=sc.names.lookup x=some .local\/sc.names.lookup x=some .cell
def Look(env:Env)(h:Heap)(m:Str->Option Value)(x:Str)(u:Value):Prop :=
 (env.kindOf x=some .local/\m x=some u)\/((env.kindOf x=some .cell\/env.kindOf x=some .free)/\∃ c,env.cells.lookup x=some c/\h.IsCell c (some u))
structure Cx.Ok (X:Cx):Prop where
 mod:Mod X.K X.mg X.base
 kind:X.env.scope.kind=.function
 glob:X.env.globals=mainGlobals
 blt:X.env.builtins=builtinsNs
 above:X.s₀.heap.objs.size<=X.env.locals
 inj:∀ x y c,X.env.cells.lookup x=some c->X.env.cells.lookup y=some c->x=y
 has:∀ x,(X.env.kindOf x=some .cell\/X.env.kindOf x=some .free)->∃ c,X.env.cells.lookup x=some c
 CH:∀ x c,X.fn x=true->X.env.cells.lookup x=some c->X.s₀.heap.objs.size<=c
 hd:X.calm=true->X.A.handled=none
 frames:X.A.frames=some X.stack
 DN:X.stack=X.outer\/(X.stack=X.env::X.outer/\X.env.frame=some X.env.locals)
 Fp:∀ b∈X.ex,b≠X.env.locals/\∀ x c,X.env.cells.lookup x=some c->c≠b
 bs:∀ b o,X.base.get? b=some o->X.s₀.heap.get? b=some o/\X.H₀ b=none
 wI:X.base.objs.size<=X.s₀.heap.objs.size
 pL:∀ b o,X.base.get? b=some o->b ∉ X.ex
 sd:∀ b∈X.ex,b ∉ X.fs
 i5:X.s₀.heap.FunFrames X.base X.outer
 zS:∀ b∈X.fs,X.H₀ b=none
structure Inv (X:Cx) (J0:List (Addr×Obj)) (σ:List (Option V)) (H:Hp) (s:Shared):Prop where
 ok:X.Ok
 os:s.os=X.s₀.os
 bare:AllBare s.gens
 base:Un X.fs X.ex X.H₀ H X.s₀.heap s.heap
 loc:∃ m,s.heap.Ns X.env.locals m/\∀ (i:Nat) (x:Str) (v:V),X.N[i]?=some x->σ[i]?=some (some v)->z8 X.env.scope x->∃ u,RelV v u/\Look X.env s.heap m x u
 cell:∀ x c,X.env.cells.lookup x=some c->∃ v,s.heap.IsCell c v
 free:H X.env.locals=none
 eQ:∀ x c,X.env.cells.lookup x=some c->H c=none
 pin:∀ p∈X.pn++J0,s.heap.get? p.1=some p.2/\H p.1=none/\p.1≠X.env.locals/\p.1 ∉ X.fs/\∀ v,p.2.data≠.cell v
 bw:j9 X.prog X.w H s.heap
 len:σ.length=X.N.length
variable{s:Shared}{J0:List (Addr×Obj)}{X:Cx}
variable{ch:List Addr}{d':Drawn}{t':Nat}{g':Array GenState}
variable{it:Addr}
variable{i:Nat}{N:List Str}
variable{u:Value}{v:V}{E:Value->Shared->Prop}{A:Around}
section
variable{σ:List (Option V)}
theorem Cx.Ok.Iq(ok:X.Ok)(e:X.base.get? b=some o):b ∉ X.fs:=λhb=>by
 have:=(ok.i5.mem hb).1;rw[e] at this;cases this
theorem Inv.bs(I:Inv X J0 σ H s):∀ b o,X.base.get? b=some o->s.heap.get? b=some o/\H b=none:=λb o e =>
 ⟨I.base.keep b o (I.ok.bs b o e).1 (I.ok.bs b o e).2 (I.ok.Iq e) (I.ok.pL b o e),I.base.free b o (I.ok.bs b o e).1 (I.ok.bs b o e).2 (I.ok.pL b o e)⟩
theorem Inv.bk(I:Inv X J0 σ H s):∀ b o,X.base.get? b=some o->s.heap.get? b=some o:=λb o e=>(I.bs b o e).1
theorem Inv.mod(I:Inv X J0 σ H s):Mod X.K X.mg X.base:=I.ok.mod
theorem Inv.gC(I:Inv X J0 σ H s):X.K.In s.heap:=I.ok.mod.CM.keeps I.bk
theorem Inv.lt(I:Inv X J0 σ H s):X.env.locals<s.heap.objs.size:=let ⟨_,hn,_⟩:=I.loc;hn.lt
theorem Inv.sz(I:Inv X J0 σ H s):X.s₀.heap.objs.size<=s.heap.objs.size:=NZ I.ok.above (QL I.lt)
theorem Inv.HR(I:Inv X J0 σ H s)(h:s.heap.objs.size<=a):a ∉ X.fs:=λhb=>by
 obtain⟨_,o,ho,_⟩:=I.ok.i5.mem hb;exact absurd (NG (Nz ho) (NZ I.sz h)) (PJ _)
theorem Inv.wZ(I:Inv X J0 σ H s):∀ x c,X.env.cells.lookup x=some c->c≠X.env.locals:=λx c e z=>by
 obtain⟨v,o,ho,hd⟩:=I.cell x c e;obtain⟨m,⟨o',es,ep,Lu,M0,_⟩,_⟩:=I.loc;rw[z,Lu] at ho;cases ho;rw[M0] at hd;cases hd
theorem Inv.i5(I:Inv X J0 σ H s):s.heap.FunFrames X.base X.outer:=by
 have all:∀ (l:List Env),(∀ b∈sE l,b∈X.fs)->X.s₀.heap.FunFrames X.base l->s.heap.FunFrames X.base l:=by
  intro l
  induction l with
  | nil=>intro _ _;trivial
  | cons env r ih =>
   intro hs hl;obtain⟨hk,⟨L,o,hf,hn,ho,hd⟩,hr⟩:=hl;have hL:L∈X.fs:=hs L (by unfold sE;rw[Rv,hf];exact NU);obtain⟨sl,e⟩:=I.base.slot L o ho (I.ok.zS L hL) hL λz=>I.ok.sd L z hL;exact⟨hk,⟨L,_,hf,hn,e,hd⟩,ih (λb hb=>hs b (by unfold sE;rw[Rv,hf];exact NH _ hb)) hr⟩
 exact all X.outer (λ_ hb=>hb) I.ok.i5
theorem Inv.stack(I:Inv X J0 σ H s):s.heap.FunFrames X.base X.stack:=by
 rcases I.ok.DN with e | ⟨e,hf⟩
 .rw[e];exact I.i5
 .rw[e];obtain⟨m,hn,_⟩:=I.loc;refine .cons (by rw[I.ok.kind];decide) hf hn ?_ I.i5;exact Qf (NZ I.ok.wI I.ok.above)
theorem Inv.qg(I:Inv X J0 σ H s):∀ b∈sE X.stack,b∈X.env.locals::X.fs:=λb hb=>by
 rcases I.ok.DN with e | ⟨e,hf⟩
 .rw[e] at hb;exact NH _ hb
 .rw[e] at hb;unfold sE at hb;rw[Rv,hf] at hb;exact hb
theorem Inv.pk(I:Inv X J0 σ H s):∀ b∈sE X.stack,H b=none:=λb hb=>by
 rcases NJ.mp (I.qg b hb) with e | hb
 .rw[e];exact I.free
 .obtain⟨_,o,ho,_⟩:=I.ok.i5.mem hb;exact I.base.free b o ho (I.ok.zS b hb) λz=>I.ok.sd b z hb
theorem Inv.step(I:Inv X J0 σ H s)
  (Lk:∀ b∈ch,(b∈X.ex\/X.s₀.heap.objs.size<=b)/\b≠X.env.locals/\(∀ x c,X.env.cells.lookup x=some c->c≠b)/\∀ p∈X.pn++J0,p.1≠b)
  (keep:∀ b o,b≠X.env.locals->b ∉ X.fs->b ∉ ch->s.heap.get? b=some o->H b=none->h'.get? b=some o)
  (slot:∀ b o,b≠X.env.locals->b∈X.fs->b ∉ ch->s.heap.get? b=some o->H b=none->∃ sl,h'.get? b=some { o with slots:=sl }) (free:∀ b o,b ∉ ch->s.heap.get? b=some o->H b=none->H' b=none)
  (there:∀ b o,b ∉ ch->s.heap.get? b=some o->∃ o',h'.get? b=some o')
  (mi:∀ b xs,H b=some (.tup xs)->H' b=some (.tup xs)) (jj:∀ b o u,H b=some (.ny o u)->H' b=some (.ny o u)) (mV:∀ b ps,H b=some (.B4 ps)->∃ more,H' b=some (.B4 (ps++more)))
  (ns:∀ m,s.heap.Ns X.env.locals m->h'.Ns X.env.locals m) (bw:j9 X.prog X.w H' h') (hg:AllBare g') :
  Inv X J0 σ H' { s with heap:=h',gens:=g',drawn:=d',toks:=t' }:=by
 have neL:∀ b o,X.s₀.heap.get? b=some o->b≠X.env.locals:=λb o e=>NP (NG (Nz e) I.ok.above);have neC:∀ b o,X.s₀.heap.get? b=some o->b ∉ X.ex->b ∉ ch:=λb o e hx hb=>by
  rcases(Lk b hb).1 with z | z
  .exact hx z
  .exact absurd (NG (Nz e) z) (PJ _)
 have cellK:∀ x c,X.env.cells.lookup x=some c->∀ v,s.heap.IsCell c v->h'.IsCell c v:=λx c e v ⟨o,ho,hd⟩=>by
  have Nl:c ∉ ch:=λz=>(Lk c z).2.2.1 x c e rfl
  by_cases hc:c∈X.fs
  .obtain⟨sl,q⟩:=slot c o (I.wZ x c e) hc Nl ho (I.eQ x c e);exact⟨_,q,hd⟩
  .exact⟨o,keep c o (I.wZ x c e) hc Nl ho (I.eQ x c e),hd⟩
 refine⟨I.ok,I.os,hg,⟨λb o e n hb hx=>?_,λb o e n hb hx=>?_,λb o e n hx=>?_,λb o e hx=>?_,λb xs e=>mi b xs (I.base.mi b xs e),λb o xs e=>jj b o xs (I.base.jj b o xs e),λb ps e=>?_⟩,?_,λx c e=>?_,?_,λx c e=>?_,λp hp=>?_,bw,I.len⟩
 .exact keep b o (neL b o e) hb (neC b o e hx) (I.base.keep b o e n hb hx) (I.base.free b o e n hx)
 .obtain⟨sl,e1⟩:=I.base.slot b o e n hb hx;obtain⟨sl',e2⟩:=slot b _ (neL b o e) hb (neC b o e hx) e1 (I.base.free b o e n hx);exact⟨sl',e2⟩
 .obtain⟨o',e1⟩:=I.base.there b o e hx;exact free b o' (neC b o e hx) e1 (I.base.free b o e n hx)
 .obtain⟨o',e1⟩:=I.base.there b o e hx;exact there b o' (neC b o e hx) e1
 .obtain⟨m1,e1⟩:=I.base.mV b ps e;obtain⟨m2,e2⟩:=mV b _ e1;exact⟨m1++m2,by rw[e2,Array.append_assoc]⟩
 .obtain⟨m,hn,hl⟩:=I.loc;refine⟨m,ns m hn,λi x v e1 e2 e3=>?_⟩;obtain⟨u,r,l⟩:=hl i x v e1 e2 e3;refine⟨u,r,?_⟩;rcases l with l | ⟨k,c,e,z⟩
  .exact .inl l
  .exact .inr ⟨k,c,e,cellK x c e _ z⟩
 .obtain⟨v,z⟩:=I.cell x c e;exact⟨v,cellK x c e v z⟩
 .obtain⟨m,⟨o,_,_,ho,_⟩,_⟩:=I.loc;exact free _ o (λz=>(Lk _ z).2.1 rfl) ho I.free
 .obtain⟨v,o,ho,hd⟩:=I.cell x c e;exact free c o (λz=>(Lk c z).2.2.1 x c e rfl) ho (I.eQ x c e)
 .obtain⟨e,n,ne,nf,d⟩:=I.pin p hp;have Nl:p.1 ∉ ch:=λz=>(Lk p.1 z).2.2.2 p hp rfl;exact⟨keep p.1 p.2 ne nf Nl e n,free p.1 p.2 Nl e n,ne,nf,d⟩
theorem Inv.un(I:Inv X J0 σ H s)(u:Un X.fs [] H H' s.heap h')(bw:j9 X.prog X.w H' h'):Inv X J0 σ H' { s with heap:=h',toks:=t' }:=by
 obtain⟨m,⟨o,es,ep,ho,r⟩,_⟩:=id I.loc;obtain⟨sl,hL⟩:=u.any ho I.free (by simp);exact I.step (g':=s.gens) (d':=s.drawn) (ch:=[]) (λ_ z=>nomatch z) (λb o _ hb _ e n=>u.keep b o e n hb (by simp)) (λb o _ hb _ e n=>u.slot b o e n hb (by simp)) (λb o _ e n=>u.free b o e n (by simp)) (λb o _ e=>u.there b o e (by simp)) u.mi u.jj u.mV (λm' hm=>by
  obtain⟨o',es',ep',Lu,r'⟩:=hm;rw[ho] at Lu;cases Lu;exact⟨_,es',ep',hL,r'⟩) bw I.bare
theorem Inv.call(I:Inv X J0 σ H s)(u:Un (sE X.stack) ch H H' s.heap h')(bw:j9 X.prog X.w H' h')(hg:AllBare g')
  (Lk:∀ b∈ch,(b∈X.ex\/X.s₀.heap.objs.size<=b)/\b≠X.env.locals/\(∀ x c,X.env.cells.lookup x=some c->c≠b)/\∀ p∈X.pn++J0,p.1≠b) :
  Inv X J0 σ H' { s with heap:=h',gens:=g',drawn:=d',toks:=t' }:=by
 obtain⟨m,⟨o,es,ep,ho,r⟩,_⟩:=id I.loc;obtain⟨sl,hL⟩:=u.any ho I.free λz=>(Lk _ z).2.1 rfl;exact I.step (ch:=ch) Lk (λb o hL hb hc e n=>u.keep b o e n (λz=>(NJ.mp (I.qg b z)).elim hL hb) hc) (λb o _ _ hc e n=>u.any e n hc) (λb o hc e n=>u.free b o e n hc) (λb o hc e=>u.there b o e hc) u.mi u.jj u.mV (λm' hm=>by
  obtain⟨o',es',ep',Lu,r'⟩:=hm;rw[ho] at Lu;cases Lu;exact⟨_,es',ep',hL,r'⟩) bw hg
theorem Inv.turned(I:Inv X J0 σ H s)(k:∀ b o,b≠it->s.heap.get? b=some o->h'.get? b=some o)(hn:H it=none)(hL:it≠X.env.locals)
  (h1:it∈X.ex\/X.s₀.heap.objs.size<=it) (h2:∀ x c,X.env.cells.lookup x=some c->c≠it) (h3:∀ p∈X.pn++J0,p.1≠it):Inv X J0 σ H { s with heap:=h',toks:=t' }:=by
 have nit:∀ b u,H b=some u->b≠it:=λb u e z=>by rw[z,hn] at e;cases e
 refine I.step (g':=s.gens) (d':=s.drawn) (ch:=[it]) (λb hb=>?_) (λb o _ _ hc e _=>k b o (λz=>hc (by simp[z])) e) (λb o _ _ hc e _=>⟨o.slots,k b o (λz=>hc (by simp[z])) e⟩) (λ_ _ _ _ n=>n)
  (λb o hc e=>⟨o,k b o (λz=>hc (by simp[z])) e⟩) (λ_ _ e=>e) (λ_ _ _ e=>e) (λb ps e=>⟨#[],by rw[e];simp⟩) (λm hm=>?_) (λb u e=>?_) I.bare
 .have e:b=it:=by simpa using hb
  subst e;exact⟨h1,hL,h2,h3⟩
 .obtain⟨o,es,ep,ho,r⟩:=hm;exact⟨o,es,ep,k _ o (O5 hL) ho,r⟩
 .refine(I.bw b u e).jK (λc v hc q=>k c v ?_ q) (λ_ q=>q) λ_ _ q=>q;rcases hc with z | z
  .rw[z];exact nit b u e
  .exact nit c _ z
theorem Inv.tok(I:Inv X J0 σ H s)(t:Nat):Inv X J0 σ H { s with toks:=t }:=I.un (h':=s.heap) (t':=t) Un.refl I.bw
theorem Inv.kept{t':Nat}(I:Inv X J0 σ H s)(k:∀ b u,s.heap.get? b=some u->h'.get? b=some u):Inv X J0 σ H { s with heap:=h',toks:=t' }:=I.un (Un.kept k) (I.bw.kept k)
theorem Inv.laid{a:Addr}{o:HO}{t':Nat}(I:Inv X J0 σ H s)(k:∀ b u,s.heap.get? b=some u->h'.get? b=some u)(hp:s.heap.objs.size<=a)(new:bS X.prog X.w (upd H a o) h' a o) :
  Inv X J0 σ (upd H a o) { s with heap:=h',toks:=t' }:=I.un (Un.laid k hp (I.bw.fresh hp)) (I.bw.laid k hp new)
theorem Inv.write{x e:Addr}{o:HO}{t':Nat}(I:Inv X J0 σ H s)(mu:G4 (H x))(he:e=x\/H e=some (.own x))(k:∀ b u,b≠e->s.heap.get? b=some u->h'.get? b=some u)(MM:∃ u,h'.get? e=some u)
  (new:bS X.prog X.w (upd H x o) h' x o):Inv X J0 σ (upd H x o) { s with heap:=h',toks:=t' }:=I.un (Un.write mu he k MM) (I.bw.write mu he k MM new)
theorem Inv.uQ{Lp:List (Addr×Obj)}(I:Inv X J0 σ H s)(h:∀ p∈Lp,s.heap.get? p.1=some p.2/\H p.1=none/\p.1≠X.env.locals/\p.1 ∉ X.fs/\∀ v,p.2.data≠.cell v):Inv X Lp σ H s :=
 ⟨I.ok,I.os,I.bare,I.base,I.loc,I.cell,I.free,I.eQ,λp hp=>(O0.mp hp).elim (λz=>I.pin p (Rc _ z)) (h p),I.bw,I.len⟩
theorem ni(hN:N.Nodup){j:Nat}{x:Str}(a:N[i]?=some x)(b:N[j]?=some x):i=j:=by
 obtain⟨h1,e1⟩:=N8.mp a;obtain⟨h2,e2⟩:=N8.mp b;exact(List.getElem_inj hN).mp (e1.trans e2.symm)
theorem o7{M:Model}{x:Str}{Q:Unit->Shared->Prop}(I:Inv X J0 σ H s)(hN:X.N.Nodup)(hi:X.N[i]?=some x)(hx:Loc X.env.scope x)(r:RelV v u)
  (h:∀ s',Inv X J0 (σ.set i (some v)) H s'->(∃ a,Qm a s.heap s'.heap/\(a=X.env.locals\/X.env.cells.lookup x=some a))->Q () s') (hf:autoParam (X.fn x=true\/X.env.scope.names.lookup x=some .local) aF._auto_1):wpAny M A (storeName X.env x u) Q E s:=by
 obtain⟨m,hn,hl⟩:=id I.loc;have hcls:(X.env.scope.kind==.class||(X.env.scope.kind==.module&&X.env.locals != X.env.globals))=false:=by rw[I.ok.kind];rfl
 have hiσ:i<σ.length:=by rw[I.len];exact(N8.mp hi).1
 have wZ:=I.wZ;have tracked:∀ {a:Addr} {h':Heap},(∃ o,s.heap.get? a=some o/\H a=none)->Qm a s.heap h'->j9 X.prog X.w H h':=λ{a h'} ha hs b ob e=>by
  obtain⟨_,_,LJ⟩:=ha;refine(I.bw b ob e).jK (λc w' hc q=>(hs.2 c ?_).trans q) (λ_ q=>q) λ_ _ q=>q;rintro rfl;rcases hc with rfl | hc
  .rw[LJ] at e;cases e
  .rw[LJ] at hc;cases hc
 rcases hx with hk | hk
 .refine wpAny_storeName_local hk hn (λh' M8 hs=>?_) hcls;obtain⟨oL,_,_,hoL,_⟩:=id hn;refine h _ ⟨I.ok,I.os,I.bare,⟨λb o e n hb hx=>?_,λb o e n hb hx=>?_,I.base.free,λb o e hx=>?_,I.base.mi,I.base.jj,I.base.mV⟩,⟨_,M8,λj y v' e1 e2 e3=>?_⟩,λy c e=>?_,I.free,I.eQ,λp hp=>?_,tracked ⟨oL,hoL,I.free⟩ hs,by simpa using I.len⟩ ⟨_,hs,.inl rfl⟩
  .exact(hs.2 b (NP (NG (Nz e) I.ok.above))).trans (I.base.keep b o e n hb hx)
  .obtain⟨sl,e1⟩:=I.base.slot b o e n hb hx;exact⟨sl,(hs.2 b (NP (NG (Nz e) I.ok.above))).trans e1⟩
  .obtain⟨o',e1⟩:=I.base.there b o e hx;exact⟨o',(hs.2 b (NP (NG (Nz e) I.ok.above))).trans e1⟩
  .by_cases hj:j=i
   .subst hj;rw[hi] at e1;cases e1;rw[Sl hiσ] at e2;cases e2;exact⟨u,r,.inl ⟨hk,by simp⟩⟩
   .rw[Rf (O5 hj)] at e2;obtain⟨u',r',q⟩:=hl j y v' e1 e2 e3;refine⟨u',r',?_⟩;rcases q with ⟨k,e⟩ | ⟨k,c,e,z⟩
    .refine .inl ⟨k,?_⟩;have:y≠x:=λe=>hj (ni hN e1 (e▸hi));simp[this,e]
    .exact .inr ⟨k,c,e,z.sameBut hs (wZ y c e)⟩
  .obtain⟨w',z⟩:=I.cell y c e;exact⟨w',z.sameBut hs (wZ y c e)⟩
  .obtain⟨e,n,ne,nf,d⟩:=I.pin p hp;exact⟨(hs.2 p.1 ne).trans e,n,ne,nf,d⟩
 .have hfn:X.fn x=true:=by
   rcases hf with z | z
   .exact z
   .rw[z] at hk;cases hk
  obtain⟨c,hc⟩:=I.ok.has x (.inl hk);obtain⟨w',z⟩:=I.cell x c hc;refine wpAny_storeName_cell I.ok.kind hk hc z (λh' Mp hs=>?_);obtain⟨oc,hoc,hocd⟩:=id z;refine h { s with heap:=h' } ⟨I.ok,I.os,I.bare,⟨λb o e n hb hx=>?_,λb o e n hb hx=>?_,I.base.free,λb o e hx=>?_,I.base.mi,I.base.jj,I.base.mV⟩,⟨m,hn.sameBut hs (O5 (wZ x c hc)),λj y v' e1 e2 e3=>?_⟩,λy c' e=>?_,I.free,I.eQ,λp hp=>?_,tracked ⟨oc,hoc,I.eQ x c hc⟩ hs,by simpa using I.len⟩ ⟨c,hs,.inr hc⟩
  .exact(hs.2 b (NP (NG (Nz e) (I.ok.CH x c hfn hc)))).trans (I.base.keep b o e n hb hx)
  .obtain⟨sl,e1⟩:=I.base.slot b o e n hb hx;exact⟨sl,(hs.2 b (NP (NG (Nz e) (I.ok.CH x c hfn hc)))).trans e1⟩
  .obtain⟨o',e1⟩:=I.base.there b o e hx;exact⟨o',(hs.2 b (NP (NG (Nz e) (I.ok.CH x c hfn hc)))).trans e1⟩
  .by_cases hj:j=i
   .subst hj;rw[hi] at e1;cases e1;rw[Sl hiσ] at e2;cases e2;exact⟨u,r,.inr ⟨.inl hk,c,hc,Mp⟩⟩
   .rw[Rf (O5 hj)] at e2;obtain⟨u',r',q⟩:=hl j y v' e1 e2 e3;refine⟨u',r',?_⟩;rcases q with q | ⟨k,c',e,z'⟩
    .exact .inl q
    .refine .inr ⟨k,c',e,z'.sameBut hs ?_⟩;rintro rfl;exact hj (ni hN e1 (I.ok.inj _ _ _ e hc▸hi))
  .by_cases hcc:c'=c
   .subst hcc;exact⟨_,Mp⟩
   .obtain⟨w2,z2⟩:=I.cell y c' e;exact⟨w2,z2.sameBut hs hcc⟩
  .obtain⟨e,n,ne,nf,d⟩:=I.pin p hp;refine⟨(hs.2 p.1 ?_).trans e,n,ne,nf,d⟩;intro q;rw[q,hoc] at e;have q':oc=p.2:=NQ e;exact d w' (by rw[<- q'];exact hocd)
theorem iB{M:Model}{x:Str}{Q:Unit->Shared->Prop}(I:Inv X J0 σ H s)(hN:X.N.Nodup)(hi:X.N[i]?=some x)(hx:Loc X.env.scope x)(r:RelV v u)
  (h:∀ s',Inv X J0 (σ.set i (some v)) H s'->Q () s') (hf:autoParam (X.fn x=true\/X.env.scope.names.lookup x=some .local) aF._auto_1):wpAny M A (storeName X.env x u) Q E s :=
 o7 I hN hi hx r (λs' I' _=>h s' I') hf
theorem Inv.yq{s':Shared}(I:Inv X J0 σ H s)(ho:s'.os=s.os)(u:Un (sE X.stack) ch H H' s.heap s'.heap)(bw:j9 X.prog X.w H' s'.heap)(hg:AllBare s'.gens)
  (Lk:∀ b∈ch,(b∈X.ex\/X.s₀.heap.objs.size<=b)/\b≠X.env.locals/\(∀ x c,X.env.cells.lookup x=some c->c≠b)/\∀ p∈X.pn++J0,p.1≠b):Inv X J0 σ H' s':=by
 obtain⟨h',g',d',t',o'⟩:=s';have e:o'=s.os:=ho;subst e;exact I.call (g':=g') (t':=t') (d':=d') u bw hg Lk
end
abbrev XK:=Value->Option Addr->Hp->Prop
abbrev St:=List (Option V)
abbrev VK:=V->Hp->Prop
abbrev TE:=St->Hp->VK->Prop
abbrev TT:=St->Hp->(Bool->Hp->Prop)->Prop
abbrev TA:=St->Hp->(List V->Hp->Prop)->Prop
structure Ends where
 nx:St->Hp->Prop
 rt:VK
 bk:St->Hp->Prop:=λ_ _=>False
 ct:St->Hp->Prop:=λ_ _=>False
abbrev TS:=Ends->St->Hp->Prop
def EP(X:Cx)(J0:List (Addr×Obj))(σ:St)(Q:VK)(u:Value)(s':Shared):Prop:=∃ v H',Inv X J0 σ H' s'/\RelV v u/\Q v H'
def TP(X:Cx)(J0:List (Addr×Obj))(σ:St)(Q:Bool->Hp->Prop)(b:Bool)(s':Shared):Prop:=∃ H',Inv X J0 σ H' s'/\Q b H'
def AP(X:Cx)(J0:List (Addr×Obj))(σ:St)(Q:List V->Hp->Prop)(us:List Value)(s':Shared):Prop:=∃ vs H',Inv X J0 σ H' s'/\Vals vs us/\Q vs H'
def SP(X:Cx)(J0:List (Addr×Obj))(D:Ends)(f:Flow)(s':Shared):Prop :=
 match f with
 | .next=>∃ σ' H',Inv X J0 σ' H' s'/\D.nx σ' H'
 | .brk=>∃ σ' H',Inv X J0 σ' H' s'/\D.bk σ' H'
 | .cont=>∃ σ' H',Inv X J0 σ' H' s'/\D.ct σ' H'
 | .ret u=>∃ v σ' H',Inv X J0 σ' H' s'/\RelV v u/\D.rt v H'
def PE(X:Cx)(e:Expr)(t:TE):Prop :=
 ∀ (J0:List (Addr×Obj)) (s:Shared) (σ:St) (H:Hp) (Q:VK),Inv X J0 σ H s->t σ H Q->wpAny (model X.prog X.w) X.A (eval e X.env) (EP X J0 σ Q) X.xe s
def PT(X:Cx)(e:Expr)(t:TT):Prop :=
 ∀ (J0:List (Addr×Obj)) (s:Shared) (σ:St) (H:Hp) (Q:Bool->Hp->Prop),Inv X J0 σ H s->t σ H Q->wpAny (model X.prog X.w) X.A (isTrue e X.env (eval e X.env)) (TP X J0 σ Q) X.xe s
def PW(X:Cx)(e:Expr)(t:TT):Prop :=
 ∀ (whole:Sem Value) (J0:List (Addr×Obj)) (s:Shared) (σ:St) (H:Hp) (Q:Bool->Hp->Prop),Inv X J0 σ H s->t σ H Q->wpAny (model X.prog X.w) X.A (isTrue e X.env whole) (TP X J0 σ Q) X.xe s
variable{e:Expr}
theorem PW.pt{t:TT}(h:PW X e t):PT X e t:=h _
def PA(X:Cx)(es:List Expr)(t:TA):Prop :=
 ∀ (pos:Pos) (J0:List (Addr×Obj)) (s:Shared) (σ:St) (H:Hp) (Q:List V->Hp->Prop),Inv X J0 σ H s->t σ H Q->wpAny (model X.prog X.w) X.A (spliced (backTo pos (starEach es X.env))) (AP X J0 σ Q) X.xe s
def PS(X:Cx)(st:Stmt)(t:TS):Prop :=
 ∀ (J0:List (Addr×Obj)) (s:Shared) (σ:St) (H:Hp) (D:Ends),Inv X J0 σ H s->t D σ H->wpAny (model X.prog X.w) X.A (exec st X.env) (SP X J0 D) X.xe s
def iG(X:Cx)(st:List Stmt)(t:TS):Prop :=
 ∀ (J0:List (Addr×Obj)) (s:Shared) (σ:St) (H:Hp) (D:Ends),Inv X J0 σ H s->t D σ H->wpAny (model X.prog X.w) X.A (execs st X.env) (SP X J0 D) X.xe s
theorem cA{α:Type}{t:Sem α}{Q Q':α->Shared->Prop}{M:Model}(h:wpAny M A t Q E s)(hQ:∀ a s,Q a s->Q' a s):wpAny M A t Q' E s:=OP h hQ λ_ _ x=>x
variable{pos:Pos}
variable{Q:Value->Shared->Prop}{σ:St}
variable{ta:TE}
section
def FA(i:Nat):TE:=fun σ H Q=>∃ v,σ[i]?=some (some v)/\Q v H
def tC(v:V):TE:=λ_ H Q=>Q v H
theorem ji{x:Str}(hN:X.N[i]?=some x)(hv:z8 X.env.scope x)(hd:autoParam ((x==("__debug__" : Str))=false) aD._auto_1)(KC:autoParam ((x==("__classdict__" : Str))=false) aD._auto_1):PE X (.Name x pos) (FA i):=by
 intro J0 s σ H Q I h;obtain⟨v,e,h⟩:=h;obtain⟨m,hn,hl⟩:=I.loc;obtain⟨u,r,l⟩:=hl i x v hN e hv;have fin:EP X J0 σ Q u s:=⟨v,H,I,r,h⟩
 rcases l with ⟨hk,hm⟩ | ⟨hk,c,hc,LI⟩
 .exact UM (wpAny_loadName_local I.ok.kind hk hn hm fin) hd
 .rcases hk with hk | hk
  .exact UM (wpAny_loadName_cell I.ok.kind hk hc LI fin) hd
  .exact UM (wpAny_loadName_free I.ok.kind hk hc LI fin KC) hd
theorem zr{i j pos}:PE X (.Constant (.int i) j pos) (tC (.int i)):=λ_ _ _ H _ I h=>wpAny_Constant_int ⟨.int i,H,I.tok _,⟨_,rfl⟩,h⟩
theorem Gg{b j pos}:PE X (.Constant (.bool b) j pos) (tC (.bl b)):=λ_ _ _ H _ I h=>Constant_bool ⟨.bl b,H,I,rfl,h⟩
theorem DA{j pos}:PE X (.Constant .none j pos) (tC .bz):=λ_ _ _ H _ I h=>Constant_none ⟨.bz,H,I,rfl,h⟩
theorem yr{x j pos}:PE X (.Constant (.str x) j pos) (tC (.str x)):=λ_ _ _ H _ I h=>Calls.Constant_str ⟨.str x,H,I.tok _,⟨_,rfl⟩,h⟩
def Gl(X:Cx)(x:Str):Prop:=X.env.kindOf x=some .globalImplicit
theorem gY{x:Str}(I:Inv X J0 σ H s)(hg:Gl X x)(hm:X.mg x=some u)(h:Q u s)
  (hd:autoParam ((x==("__debug__" : Str))=false) aD._auto_1):wpAny (model X.prog X.w) X.A (eval (.Name x pos) X.env) Q E s :=
 RG I.ok.kind hg (Calls.loadGlobal_global (by rw[I.ok.glob];exact I.mod.glob.keeps I.bk) hm h) hd
theorem jf{x:Str}(I:Inv X J0 σ H s)(hg:Gl X x)(hm:X.mg x=none)(hv:bootBuiltins x=some u)(h:Q u s)
  (hn:autoParam (x ≠ "__name__") aD._auto_1) (hd:autoParam ((x==("__debug__" : Str))=false) aD._auto_1):wpAny (model X.prog X.w) X.A (eval (.Name x pos) X.env) Q E s:=by
 obtain⟨mb,h1,h2⟩:=I.mod.blt;exact RG I.ok.kind hg (Calls.loadGlobal_builtin (by rw[I.ok.glob];exact I.mod.glob.keeps I.bk) hm (by rw[I.ok.blt];exact h1.keeps I.bk) ((h2 x hn).trans hv) h) hd
theorem uZ{x:Str}(hg:Gl X x)(hm:X.mg x=some u)(r:RelV v u)(hd:autoParam ((x==("__debug__" : Str))=false) aD._auto_1):PE X (.Name x pos) (tC v) :=
 λ_ _ _ H _ I h=>gY I hg hm ⟨v,H,I,r,h⟩ hd
theorem iM{x:Str}(hg:Gl X x)(hm:X.mg x=none)(hv:bootBuiltins x=some u)(r:RelV v u)(hn:autoParam (x ≠ "__name__") aD._auto_1)(hd:autoParam ((x==("__debug__" : Str))=false) aD._auto_1):PE X (.Name x pos) (tC v) :=
 λ_ _ _ H _ I h=>jf I hg hm hv ⟨v,H,I,r,h⟩ hn hd
variable{a b:Expr}{tb:TE}
def tB(t:TE):TT:=fun σ H Q=>t σ H λx H1=>∃ c,x=.bl c/\Q c H1
theorem EY{t:TE}(h:PE X e t)(he:autoParam (∀ whole,isTrue e X.env whole=(do let v <- whole;standAt e.pos;holding [v] (truthy v))) aI._auto_1):PT X e (tB t):=by
 intro J0 s σ H Q I hw;refine isTrue_plain (cA (h J0 s σ H _ I hw) λv s1 ⟨x,H1,I1,r1,q1⟩=>?_) (he _);obtain⟨d,rfl,q⟩:=q1;cases r1;exact PC ⟨H1,I1,q⟩
variable{tA tB':TT}{rest:List Expr}
def HQ(t u:TT):TT:=fun σ H Q=>t σ H λc H1=>if c=true then u σ H1 Q else Q false H1
def JH(t u:TT):TT:=fun σ H Q=>t σ H λc H1=>if c=true then Q true H1 else u σ H1 Q
def HG(t:TT):TT:=fun σ H Q=>t σ H λc H1=>Q (!c) H1
theorem pw_and1(ha:PT X a tA):PW X (.BoolOp .And [a] pos) tA:=by
 intro wh J0 s σ H Q I h;refine isTrue_and (cA (ha J0 s σ H Q I h) λc s1 e=>?_);cases c with
 | true=>exact isTrue_and_nil e
 | false=>exact e
theorem pw_or1(ha:PT X a tA):PW X (.BoolOp .Or [a] pos) tA:=by
 intro wh J0 s σ H Q I h;refine isTrue_or (cA (ha J0 s σ H Q I h) λc s1 e=>?_);cases c with
 | false=>exact isTrue_or_nil e
 | true=>exact e
theorem pw_and(ha:PT X a tA)(hb:PW X (.BoolOp .And (b::rest) pos) tB'):PW X (.BoolOp .And (a::b::rest) pos) (HQ tA tB'):=by
 intro wh J0 s σ H Q I h;refine isTrue_and (cA (ha J0 s σ H _ I h) λc s1 ⟨H1,I1,q1⟩=>?_);cases c with
 | true=>exact hb wh J0 s1 σ H1 Q I1 q1
 | false=>exact⟨H1,I1,q1⟩
theorem pw_or(ha:PT X a tA)(hb:PW X (.BoolOp .Or (b::rest) pos) tB'):PW X (.BoolOp .Or (a::b::rest) pos) (JH tA tB'):=by
 intro wh J0 s σ H Q I h;refine isTrue_or (cA (ha J0 s σ H _ I h) λc s1 ⟨H1,I1,q1⟩=>?_);cases c with
 | true=>exact⟨H1,I1,q1⟩
 | false=>exact hb wh J0 s1 σ H1 Q I1 q1
theorem Dz(ha:PT X a tA):PT X (.UnaryOp .Not a pos) (HG tA):=by
 intro J0 s σ H Q I h;exact isTrue_not (ha J0 s σ H (λc H1=>Q (!c) H1) I h)
def GQ(ta tb:TE):TE:=fun σ H Q=>ta σ H λx H1=>∃ c,x=.bl c/\if c=true then tb σ H1 Q else Q (.bl false) H1
def FQ(ta:TE):TE:=fun σ H Q=>ta σ H λx H1=>∃ c,x=.bl c/\Q (.bl (!c)) H1
theorem yd{op}{t:TE}(h:PE X a t):PE X (.BoolOp op [a] pos) t:=λJ0 s σ H Q I hw=>BoolOp_one (h J0 s σ H Q I hw)
theorem DF(ha:PE X a ta)(hb:PE X (.BoolOp .And (b::rest) pos) tb):PE X (.BoolOp .And (a::b::rest) pos) (GQ ta tb):=by
 intro J0 s σ H Q I h;refine BoolOp_and (cA (ha J0 s σ H _ I h) λv s1 ⟨x,H1,I1,r1,q1⟩=>?_);obtain⟨c,rfl,q1⟩:=q1;cases r1;refine PC ?_;cases c with
 | true=>exact hb J0 s1 σ H1 Q I1 q1
 | false=>exact⟨.bl false,H1,I1,rfl,q1⟩
theorem CZ(ha:PE X a ta):PE X (.UnaryOp .Not a pos) (FQ ta):=by
 intro J0 s σ H Q I h;refine UnaryOp_ (cA (ha J0 s σ H _ I h) λv s1 ⟨x,H1,I1,r1,q1⟩=>?_);obtain⟨c,rfl,q1⟩:=q1;cases r1;exact not_of (PC ⟨.bl (!c),H1,I1,rfl,q1⟩)
end
def gc(K:Nr)(H:Hp)(a:Addr)(xs:List V):Prop :=
 Rd H a (.lst xs) ∨
  ∃ (o:Obj) (J4:Array Value) (n:Nat),K.lookup a=some o/\o.cls=.type "list" /\ o.dict=none/\o.data=.seq J4 n/\J4.size<=sizeLine/\Vals xs J4.toList
def ff(K:Nr)(H:Hp)(a:Addr)(xs:List V):Prop :=
 Rd H a (.tup xs) ∨
  ∃ (o:Obj) (J4:Array Value) (n:Nat),K.lookup a=some o/\o.cls=.type "tuple" /\ o.data=.seq J4 n/\J4.size<=sizeLine/\Vals xs J4.toList
def I_:Value->Option V
 | .none=>some .bz
 | .bool b=>some (.bl b)
 | .int i _=>some (.int i)
 | .str x _=>some (.str x)
 | .bytes b _=>some (.byt b)
 | .float b _=>some (.CA b)
 | .ref a=>some (.ref a)
 | .type n=>some (.ty n)
 | _=>none
theorem RelV.abs{x:V}(r:RelV x u):I_ u=some x:=by
 cases x with
 | bz=>cases r;rfl
 | bl _=>cases r;rfl
 | int _=>obtain⟨t,rfl⟩:=r;rfl
 | str _=>obtain⟨t,rfl⟩:=r;rfl
 | byt _=>obtain⟨t,rfl⟩:=r;rfl
 | CA _=>obtain⟨t,rfl⟩:=r;rfl
 | ref _=>cases r;rfl
 | ty _=>cases r;rfl
theorem RelV.inj{x y:V}{u:Value}(r:RelV x u)(q:RelV y u):x=y:=NQ (r.abs.symm.trans q.abs)
theorem Vals.inj:∀ {xs ys:List V} {us:List Value},Vals xs us->Vals ys us->xs=ys
 | _,_,_,.nil,.nil=>rfl
 | _,_,_,.cons r t,.cons r' t'=>by rw[r.inj r',Vals.inj t t']
section
variable{xs ys:List V}
theorem gc.of{K:Nr}(h:H a=some (.lst xs)):gc K H a xs:=.inl (.inl h)
theorem ff.of{K:Nr}(h:H a=some (.tup xs)):ff K H a xs:=.inl (.inl h)
theorem Inv.list(I:Inv X J0 σ H s)(h:gc X.K H a xs):∃ J4:List Value,Vals xs J4/\PlainL s.heap a J4.toArray/\xs.length<=sizeLine:=by
 rcases h with h | ⟨o,J4,n,hk,hc,hd,hs,hz,r⟩
 .obtain⟨z,J4,n,r,e⟩:=h.ok I.bw;exact⟨J4,r,⟨_,n,e,rfl,rfl,rfl⟩,z⟩
 .refine⟨J4.toList,r,⟨o,n,I.gC a o hk,hc,hd,by simpa using hs⟩,?_⟩;have e:=r.length;simp only[Rx] at e;lia
theorem Inv.tuple(I:Inv X J0 σ H s)(h:ff X.K H a xs):∃ J4:List Value,Vals xs J4/\IsTup s.heap a J4.toArray/\xs.length<=sizeLine:=by
 rcases h with h | ⟨o,J4,n,hk,hc,hs,hz,r⟩
 .obtain⟨z,J4,r,p⟩:=h.ok I.bw;exact⟨J4,r,p,z⟩
 .refine⟨J4.toList,r,⟨o,I.gC a o hk,hc,n,by simpa using hs⟩,?_⟩;have e:=r.length;simp only[Rx] at e;lia
theorem Inv.lV(I:Inv X J0 σ H s)(h:gc X.K H a xs)(h':gc X.K H a ys):xs=ys:=by
 obtain⟨J4,r,⟨o,n,e,_,_,d⟩,_⟩:=I.list h;obtain⟨its',r',⟨o',n',e',_,_,d'⟩,_⟩:=I.list h';rw[e] at e';cases e';rw[d] at d';injection d' with d1 _
 have:J4=its':=by simpa using congrArg U0 d1
 subst this;exact r.inj r'
theorem Inv.kH(I:Inv X J0 σ H s)(h:ff X.K H a xs)(h':ff X.K H a ys):xs=ys:=by
 obtain⟨J4,r,⟨o,e,_,n,d⟩,_⟩:=I.tuple h;obtain⟨its',r',⟨o',e',_,n',d'⟩,_⟩:=I.tuple h';rw[e] at e';cases e';rw[d] at d';injection d' with d1 _
 have:J4=its':=by simpa using congrArg U0 d1
 subst this;exact r.inj r'
end
abbrev Cx.lW(X:Cx)(E:Value->Shared->Prop):Cx:={ X with xe:=E }
theorem Cx.Ok.lW{X:Cx}(ok:X.Ok)(E:Value->Shared->Prop):(X.lW E).Ok :=
 ⟨ok.mod,ok.kind,ok.glob,ok.blt,ok.above,ok.inj,ok.has,ok.CH,ok.hd,ok.frames,ok.DN,ok.Fp,ok.bs,ok.wI,ok.pL,ok.sd,ok.i5,ok.zS⟩
theorem Cx.Ok.dN(ok:(X.lW E).Ok):X.Ok :=
 ⟨ok.mod,ok.kind,ok.glob,ok.blt,ok.above,ok.inj,ok.has,ok.CH,ok.hd,ok.frames,ok.DN,ok.Fp,ok.bs,ok.wI,ok.pL,ok.sd,ok.i5,ok.zS⟩
theorem Inv.lW(I:Inv X J0 σ H s)(E:Value->Shared->Prop):Inv (X.lW E) J0 σ H s:=⟨I.ok.lW E,I.os,I.bare,I.base,I.loc,I.cell,I.free,I.eQ,I.pin,I.bw,I.len⟩
theorem Inv.dN(I:Inv (X.lW E) J0 σ H s):Inv X J0 σ H s:=⟨I.ok.dN,I.os,I.bare,I.base,I.loc,I.cell,I.free,I.eQ,I.pin,I.bw,I.len⟩
theorem SP.dN{D:Ends}{f:Flow}{s':Shared}(h:SP (X.lW E) J0 D f s'):SP X J0 D f s':=by
 cases f with
 | next=>obtain⟨σ',H',I,q⟩:=h;exact⟨σ',H',I.dN,q⟩
 | brk=>obtain⟨σ',H',I,q⟩:=h;exact⟨σ',H',I.dN,q⟩
 | cont=>obtain⟨σ',H',I,q⟩:=h;exact⟨σ',H',I.dN,q⟩
 | ret u=>obtain⟨v,σ',H',I,r,q⟩:=h;exact⟨v,σ',H',I.dN,r,q⟩
variable{te:TE}
variable{tc:TT}{c:Expr}
section
variable{st:Stmt}{rest:List Stmt}{t u:TS}
def B_:TS:=λD σ H=>D.nx σ H
def Gi(t u:TS):TS:=λD σ H=>t { D with nx:=u D } σ H
theorem qp:iG X [] B_:=λ_ _ σ H _ I h=>QD ⟨σ,H,I,h⟩
theorem gz(h1:PS X st t)(h2:iG X rest u):iG X (st::rest) (Gi t u):=by
 intro J0 s σ H D I h;refine wpAny_execs_cons (cA (h1 J0 s σ H { D with nx:=u D } I h) λf s1 q=>?_);cases f with
 | next =>
  obtain⟨σ',H',I',q⟩:=q;exact h2 J0 s1 σ' H' D I' q
 | ret v=>exact q
 | brk=>exact q
 | cont=>exact q
theorem va(h1:PS X st t):iG X [st] t:=by
 intro J0 s σ H D I h;refine wpAny_execs_cons (cA (h1 J0 s σ H D I h) λf s1 q=>?_);cases f with
 | next=>exact QD q
 | ret v=>exact q
 | brk=>exact q
 | cont=>exact q
theorem Inv.quiet(I:Inv X J0 σ H s):interactive X.env=false:=by simp[interactive,I.ok.kind]
def B6(te:TE):TS:=λD σ H=>te σ H λ_ H1=>D.nx σ H1
theorem lF(he:PE X e te)(hs:autoParam (swapsWith e none pos.line X.env=pure false) aR._auto_1):PS X (.Expr e pos) (B6 te):=by
 intro J0 s σ H D I h;exact wpAny_Expr_any (cA (he J0 s σ H _ I h) λv s1 ⟨x,H1,I1,r1,q1⟩=>⟨σ,H1,I1,q1⟩) I.quiet hs
def Hv(te:TE):TS:=λD σ H=>te σ H D.rt
theorem wK(he:PE X e te):PS X (.Return (some e) pos) (Hv te):=by
 intro J0 s σ H D I h;exact wpAny_Return_some (cA (he J0 s σ H _ I h) λv s1 ⟨x,H1,I1,r1,q1⟩=>⟨x,σ,H1,I1,r1,q1⟩)
def FU(c:TT)(t u:TS):TS:=λD σ H=>c σ H λb H1=>if b=true then t D σ H1 else u D σ H1
theorem Ca{a b:List Stmt}(hc:PT X c tc)(ha:iG X a t)(hb:iG X b u):PS X (.If c a b pos) (FU tc t u):=by
 intro J0 s σ H D I h;refine wpAny_If (cA (hc J0 s σ H _ I h) λd s1 ⟨H1,I1,q1⟩=>?_);cases d with
 | true=>exact ha J0 s1 σ H1 D I1 q1
 | false=>exact hb J0 s1 σ H1 D I1 q1
end
abbrev TG:=V->St->Hp->(St->Hp->Prop)->Prop
abbrev Cg:=List V->St->Hp->(St->Hp->Prop)->Prop
def PG(X:Cx)(target:Expr)(t:TG):Prop :=
 ∀ (J0:List (Addr×Obj)) (s:Shared) (σ:St) (H:Hp) (v:V) (u:Value) (Q:St->Hp->Prop),Inv X J0 σ H s->RelV v u->t v σ H Q ->
  wpAny (model X.prog X.w) X.A (assign target X.env u) (λ_ s'=>∃ σ' H',Inv X J0 σ' H' s'/\Q σ' H') X.xe s
def GV(X:Cx)(ts:List Expr)(t:Cg):Prop :=
 ∀ (J0:List (Addr×Obj)) (s:Shared) (σ:St) (H:Hp) (vs:List V) (us:List Value) (Q:St->Hp->Prop),Inv X J0 σ H s->Vals vs us->t vs σ H Q ->
  wpAny (model X.prog X.w) X.A (assignInOrder ((assignEach ts X.env).map (·.2)) us) (λ_ s'=>∃ σ' H',Inv X J0 σ' H' s'/\Q σ' H') X.xe s
abbrev DY:=V->V->V->Hp->(Hp->Prop)->Prop
def Fz(X:Cx)(t:DY):Prop :=
 ∀ (J0:List (Addr×Obj)) (s:Shared) (σ:St) (H:Hp) (o i v:V) (ov iv u:Value) (Q:Hp->Prop),Inv X J0 σ H s->RelV o ov->RelV i iv->RelV v u->t o i v H Q ->
  wpAny (model X.prog X.w) X.A (setItem ov iv u) (λ_ s'=>∃ H',Inv X J0 σ H' s'/\Q H') X.xe s
variable{es:List Expr}
variable{n k:Nat}
variable{tg:Expr}
def aL(i:Nat):TG:=λv σ H Q=>Q (σ.set i (some v)) H
theorem AJ{x:Str}(hN:X.N.Nodup)(hi:X.N[i]?=some x)(hx:Loc X.env.scope x)(hf:autoParam (X.fn x=true\/X.env.scope.names.lookup x=some .local) aF._auto_1):PG X (.Name x pos) (aL i):=by
 intro J0 s σ H v u Q I r h;exact TH (iB I hN hi hx r (λs' I'=>⟨_,H,I',h⟩) hf)
def fF:Cg:=λvs σ H Q=>vs=[]/\Q σ H
def bp(t:TG)(u:Cg):Cg:=λvs σ H Q=>∃ v r,vs=v::r/\t v σ H fun σ' H'=>u r σ' H' Q
theorem bU:GV X [] fF:=by
 intro J0 s σ H vs us Q I r h;obtain⟨e,h⟩:=h;subst e;cases r;exact TJ ⟨σ,H,I,h⟩
theorem aB{t:TG}{u:Cg}(h1:PG X e t)(h2:GV X es u)
  (hs:autoParam ((assignEach (e::es) X.env).map (·.2)=assign e X.env::(assignEach es X.env).map (·.2)) aR._auto_1):GV X (e::es) (bp t u):=by
 intro J0 s σ H vs us Q I r h;obtain⟨v,vr,e1,h⟩:=h;subst e1;cases r with
 | cons r rr =>
  rw[hs];refine RH (cA (h1 J0 s σ H _ _ _ I r h) λ_ s1 ⟨σ1,H1,I1,q1⟩=>?_);exact h2 J0 s1 σ1 H1 _ _ Q I1 rr q1
def fy(K:Nr)(n:Nat)(t:Cg):TG:=λv σ H Q=>∃ a xs,v=.ref a/\ff K H a xs/\xs.length=n/\t xs σ H Q
theorem cH{t:Cg}(hc:X.calm=true)(h:GV X es t)
  (hn:autoParam ((assignEach es X.env).length=n) aR._auto_1) (Kx:autoParam ((assignEach es X.env).findIdx? (·.1)=none) aR._auto_1):PG X (.Tuple es k pos) (fy X.K n t):=by
 intro J0 s σ H v u Q I r hw;obtain⟨a,xs,e1,hq,hl,hw⟩:=hw;subst e1;cases r;obtain⟨J4,rv,ht,hz⟩:=I.tuple hq;refine assign_Tuple_tuple (I.ok.hd hc) ht (by simp[hn,<- hl,rv.length]) Kx λh' hx=>?_;have I1:Inv X J0 σ H { s with heap:=h' }:=I.kept (t':=s.toks) λb o e=>hx b o (NP (Nz e)) e;exact h J0 _ σ H xs _ Q I1 (by simpa using rv) hw
def IK(to ti:TE)(t:DY):TG:=λv σ H Q=>to σ H λo H1=>ti σ H1 λi H2=>t o i v H2 λH3=>Q σ H3
theorem DP{o i:Expr}{to ti:TE}{t:DY}(ho:PE X o to)(hi:PE X i ti)(hs:Fz X t)
  (ha:autoParam (∀ v,assign (.Subscript o i pos) X.env v=(do
   let ov <- holding [v] (eval o X.env)
   let iv <- holding [v,ov] (eval i X.env)
   standAt pos
   holding [v,ov,iv] (setItem ov iv v)
   release [v,ov,iv] [])) aI._auto_1):PG X (.Subscript o i pos) (IK to ti t):=by
 intro J0 s σ H v u Q I r h;rw[ha];refine Np (O6 (cA (ho J0 s σ H _ I h) λov s1 ⟨x,H1,I1,r1,q1⟩=>?_));refine Np (O6 (cA (hi J0 s1 σ H1 _ I1 q1) λiv s2 ⟨y,H2,I2,r2,q2⟩=>?_));refine Np (Qw (Np (O6 (cA (hs J0 s2 σ H2 x y v ov iv u _ I2 r1 r2 r q2) λ_ s3 ⟨H3,I3,q3⟩=>?_))));exact wpAny_release ⟨σ,H3,I3,q3⟩
def wb(te:TE)(g:TG):TS:=λD σ H=>te σ H λx H1=>g x σ H1 D.nx
theorem yR{g:TG}(he:PE X e te)(hg:PG X tg g)(hs:autoParam (swapsWithSole [tg] e pos.line X.env=pure false) aR._auto_1)(hw:autoParam (swappedStores [tg] e X.env=pure none) aR._auto_1)
  (h1:autoParam ((assignEach [tg] X.env).map (·.2)=[assign tg X.env]) aR._auto_1):PS X (.Assign [tg] e pos) (wb te g):=by
 intro J0 s σ H D I h;refine wpAny_Assign_stores (cA (he J0 s σ H _ I h) λv s1 ⟨x,H1,I1,r1,q1⟩=>?_) hs hw;rw[h1];exact cA (hg J0 s1 σ H1 x v _ I1 r1 q1) λ_ s2 q=>q
theorem tw{x:Str}{pos':Pos}(hN:X.N.Nodup)(hi:X.N[i]?=some x)(hx:Loc X.env.scope x)(he:PE X e te)(hs:autoParam (swapsWith e (some (.Name x pos')) pos.line X.env=pure false) aR._auto_1)(hf:autoParam (X.fn x=true\/X.env.scope.names.lookup x=some .local) aF._auto_1) :
  PS X (.Assign [.Name x pos'] e pos) (wb te (aL i)):=by
 intro J0 s σ H D I h;refine wpAny_Assign_Name (cA (he J0 s σ H _ I h) λv s1 ⟨y,H1,I1,r1,q1⟩=>?_) hs;exact iB I1 hN hi hx r1 (λs2 I2=>⟨_,H1,I2,q1⟩) hf
def Im(i j:Nat)(ta:TA):TS:=λD σ H=>ta σ H λvs H1=>∃ v w,vs=[v,w]/\D.nx ((σ.set i (some v)).set j (some w)) H1
theorem D5{j:Nat}{x y:Str}{a b:Expr}{ta:TA}{px py pt:Pos}{kt k2 MJ}(hc:X.calm=true)(hN:X.N.Nodup)(hi:X.N[i]?=some x)(hj:X.N[j]?=some y)(hij:i≠j)
  (hx:X.env.scope.names.lookup x=some .local) (hy:X.env.scope.names.lookup y=some .local) (ha:PA X [a,b] ta)
  (hw:swappedStores [.Tuple [.Name x px,.Name y py] kt pt] (.Tuple [a,b] k2 MJ) X.env=pure (some [x,y]))
  (hs:autoParam (swapsWithSole [.Tuple [.Name x px,.Name y py] kt pt] (.Tuple [a,b] k2 MJ) pos.line X.env=pure false) aR._auto_1) :
  PS X (.Assign [.Tuple [.Name x px,.Name y py] kt pt] (.Tuple [a,b] k2 MJ) pos) (Im i j ta):=by
 intro J0 s σ H D I h;rw[exec_Assign_arm];refine Np (Qw ?_);rw[hs];refine Np (Nx ?_);rw[if_neg (by decide)];refine Np (Tuple_ (cA (ha _ J0 s σ H _ I h) λus s1 ⟨vs,H1,I1,r1,q1⟩=>?_));obtain⟨v,w,e1,q1⟩:=q1;subst e1;obtain⟨u1,u2,rfl,rv,Lj⟩:∃ u1 u2,us=[u1,u2]/\RelV v u1/\RelV w u2:=by
  cases r1 with
  | cons p q =>
   cases q with
   | cons p' q' =>
    cases q';exact⟨_,_,rfl,p,p'⟩
 refine OI ?_ (by show 2<=sizeLine;decide);have I2:Inv X J0 σ H1 { s1 with heap:=s1.heap.push { cls:=.type "tuple", data:=.seq [u1,u2].toArray } }:=I1.kept (t':=s1.toks) λb o e=>Nq _ e;rw[hw];refine Np (Nx ?_);show wpAny (model X.prog X.w) X.A (do rule "assign.swapped-stores";let items <- unpackItems (.ref s1.heap.objs.size) 2 none;assignInOrder [λv=>bindName X.env y v,λv=>bindName X.env x v] items.reverse;pure Sa) _ _ _;refine Np (Qg (Np (unpackItems_tuple (items:=#[u1,u2]) (I.ok.hd hc) (S2 s1.heap _) λh' hx'=>?_)));have I3:=I2.kept (h':=h') (t':=s1.toks) λb o e=>hx' b o (NP (Nz e)) e;show wpAny _ _ (assignInOrder [λv=>bindName X.env y v,λv=>bindName X.env x v] [u2,u1] >>= λ_=>pure Sa) _ _ _;refine Np (RH (wpAny_bindName (iB I3 hN hj (.inl hy) Lj (λs2 I4=>?_) (.inr hy))));refine RH (wpAny_bindName (iB I4 hN hi (.inl hx) rv (λs3 I5=>TJ (Nx ?_)) (.inr hx)));rw[List.set_comm _ _ (O5 hij)] at I5;exact⟨_,H1,I5,q1⟩
variable{tb:TS}{body:List Stmt}
def Ep(c:TT)(tb:TS):TS:=λD σ H=>∃ W:Nat->St->Hp->Prop,(∃ m,W m σ H)/\∀ m σ H,W m σ H ->
 c σ H λb H1=>if b=true then ∃ N:St->Hp->Prop,(∀ σ' H',N σ' H'->∃ m',m'<m/\W m' σ' H')/\tb { D with nx:=N,ct:=N,bk:=D.nx } σ H1 else D.nx σ H1
theorem zH(hp:PassesOwn (model X.prog X.w) X.A X.env X.xe)(hc:PT X c tc)(hb:iG X body tb):PS X (.While c body [] pos) (Ep tc tb):=by
 intro J0 s σ H D I h;obtain⟨W,⟨m0,w0⟩,turn⟩:=h;refine wpAny_While (codeAny_whileLoop (λn s'=>∃ σ' H',Inv X J0 σ' H' s'/\W n σ' H') ?_ m0 ⟨σ,H,I,w0⟩);rintro n s1 ⟨σ1,H1,I1,w1⟩;refine Pz hp (cA (hc J0 s1 σ1 H1 _ I1 (turn n σ1 H1 w1)) λb s2 ⟨H2,I2,q2⟩=>?_);cases b with
 | true =>
  obtain⟨N,hN,q2⟩:=q2;rw[if_pos rfl];refine Pz hp (cA (hb J0 s2 σ1 H2 _ I2 q2) λf s3 q3=>?_);cases f with
  | next =>
   obtain⟨σ3,H3,I3,n3⟩:=q3;obtain⟨m',hm,w3⟩:=hN σ3 H3 n3;exact⟨m',hm,σ3,H3,I3,w3⟩
  | cont =>
   obtain⟨σ3,H3,I3,n3⟩:=q3;obtain⟨m',hm,w3⟩:=hN σ3 H3 n3;exact⟨m',hm,σ3,H3,I3,w3⟩
  | brk=>exact q3
  | ret v=>exact q3
 | false =>
  rw[if_neg OF];exact QD ⟨σ1,H2,I2,q2⟩
structure It where
 go:Nat->Hp->Prop
 tU:Nat->Hp->V->Hp->Prop
 stop:Nat->Hp->Prop
def jZ(X:Cx)(J0:List (Addr×Obj))(H:Hp)(b:Addr):Prop :=
 H b=none/\b≠X.env.locals/\b ∉ X.fs/\(b∈X.ex\/X.s₀.heap.objs.size<=b)/\(∀ x c,X.env.cells.lookup x=some c->c≠b)/\∀ p∈X.pn++J0,p.1≠b
theorem Inv.rf(I:Inv X J0 σ H s)(hb:s.heap.objs.size<=b)(hn:H' b=none):jZ X J0 H' b:=by
 refine⟨hn,Pd (NG I.lt hb),I.HR hb,.inr (NZ I.sz hb),λx c e z=>?_,λp hp z=>?_⟩
 .obtain⟨v,q⟩:=I.cell x c e;exact absurd (NG q.lt (by rw[z];exact hb)) (PJ _)
 .exact absurd (NG (Nz (I.pin p hp).1) (by rw[z];exact hb)) (PJ _)
structure Turn (P:Program) (w:World) (K:Nr) (tg:Expr) (J:It) (fp:List Addr) (it:Addr) (tn:Nat->Heap->Prop):Prop where
 mem:it∈fp
 obj:∀ i h,tn i h->∀ b∈fp,∃ o,h.get? b=some o/\∀ v,o.data≠.cell v
 keep:∀ i h h',tn i h->(∀ b∈fp,∀ o,h.get? b=some o->h'.get? b=some o)->tn i h'
 item:∀ (X:Cx),X.prog=P->X.w=w->X.K=K->X.calm=true->∀ (i:Nat) (J0:List (Addr×Obj)) (s:Shared) (σ:St) (H:Hp) (E:Value->Shared->Prop),Inv X J0 σ H s->(∀ b∈fp,jZ X J0 H b)->tn i s.heap->J.go i H ->
  wpAny (model P w) X.A (pyNext (.ref it)) (λr s1=>∃ u,r=some u ∧
   wpAny (model P w) X.A (letOwnedTupleGo tg (.ref it) u) (λ_ s2=>∃ x H',Inv X J0 σ H' s2/\RelV x u/\J.tU i H x H'/\tn (i+1) s2.heap/\∀ b∈fp,H' b=none) E s1) E s
 done:∀ (X:Cx),X.prog=P->X.w=w->X.K=K->X.calm=true->∀ (i:Nat) (J0:List (Addr×Obj)) (s:Shared) (σ:St) (H:Hp) (E:Value->Shared->Prop),Inv X J0 σ H s->(∀ b∈fp,jZ X J0 H b)->tn i s.heap->J.stop i H ->
  wpAny (model P w) X.A (pyNext (.ref it)) (λr s1=>r=none/\Inv X J0 σ H s1) E s
 self:∀ (A:Around) (i:Nat) (s:Shared) (Q:Value->Shared->Prop) (E:Value->Shared->Prop),tn i s.heap->Q (.ref it) s->wpAny (model P w) A (pyIter (.ref it)) Q E s
abbrev TI:=St->Hp->(It->Hp->Prop)->Prop
def Jl(X:Cx)(J0:List (Addr×Obj))(σ:St)(tg:Expr)(R:It->Hp->Prop)(itv:Value)(s2:Shared):Prop :=
 ∃ (it:Addr) (fp:List Addr) (tn:Nat->Heap->Prop) (J:It) (H':Hp),itv=.ref it/\Inv X J0 σ H' s2/\Turn X.prog X.w X.K tg J fp it tn/\tn 0 s2.heap/\(∀ b∈fp,jZ X J0 H' b)/\R J H'
def PI(X:Cx)(tg iter:Expr)(wi:TI):Prop :=
 ∀ (J0:List (Addr×Obj)) (s:Shared) (σ:St) (H:Hp) (R:It->Hp->Prop),Inv X J0 σ H s->wi σ H R ->
  wpAny (model X.prog X.w) X.A (eval iter X.env) (λv s1=>wpAny (model X.prog X.w) X.A (pyIter v) (Jl X J0 σ tg R) X.xe s1) X.xe s
theorem zU {M : Model} {n : String} {vs : Array Value} {Q : Unit -> Shared -> Prop} (ho : s.heap.get? it = some o) (hc : o.cls = .type n) (hd : o.data = .fields vs)
    (hn : ["enumerate", "zip", "dict_itemiterator", "dict_reverseitemiterator", "odict_iterator", "itertools.zip_longest", "itertools.pairwise"].contains n = false) (hQ : Q () s) : wpAny M A (letOwnedTupleGo tg (.ref it) u) Q E s := by
  unfold letOwnedTupleGo;cases tg <;> first
    | exact Nx hQ
    | (cases u <;> first
        | exact Nx hQ
        | (refine Np (wpAny_load ho ?_)
           rw [hc, hd];show wpAny M A (if (["enumerate", "zip", "dict_itemiterator", "dict_reverseitemiterator", "odict_iterator", "itertools.zip_longest", "itertools.pairwise"].contains n && vs[0]? == some (rawInt _)) = true then _ else _) Q E s;rw [if_neg (by intro h; rw [hn, SM] at h; cases h)];exact Nx hQ))
def Ju(K:Nr)(a:Addr):It :=
 ⟨λi H=>∃ xs x,gc K H a xs/\xs[i]?=some x,λi H x H'=>H'=H/\∀ xs,gc K H a xs->xs[i]?=some x,λi H=>∃ xs,gc K H a xs/\xs.length<=i⟩
def Jt(K:Nr)(a:Addr):It :=
 ⟨λi H=>∃ xs x,ff K H a xs/\xs[i]?=some x,λi H x H'=>H'=H/\∀ xs,ff K H a xs->xs[i]?=some x,λi H=>∃ xs,ff K H a xs/\xs.length<=i⟩
def GY(lo:Int)(n:Nat):It:=⟨λi _=>i<n,λi H x H'=>H'=H/\x=.int (lo+i),λi _=>n<=i⟩
theorem wt{K:Nr}(a it:Addr):Turn P w K tg (Ju K a) [it] it (λi h=>h.IsListIter it a i) where
 mem:=by simp
 obj:=λi h st b hb=>by
  have e:b=it:=by simpa using hb
  subst e;obtain⟨o,e,c,d⟩:=st;exact⟨o,e,λv z=>by rw[d] at z;cases z⟩
 keep:=λi h h' st k=>st.at λo e=>k it (by simp) o e
 item:=by
  intro X hP hw hK hc i J0 s σ H E I hf st hg;subst hP hw hK;obtain⟨xs,x,hq,hx⟩:=hg;obtain⟨J4,rv,p,hz⟩:=I.list hq;obtain⟨u,hu,ru⟩:=rv.get hx;obtain⟨f0,f1,f2,f3,f4,f5⟩:=hf it (by simp);refine wpAny_pyNext_list_item st p.isList (x:=u) (by simpa using hu) λh' Mv sb=>?_;have I1:Inv X J0 σ H { s with heap:=h' }:=I.turned (t':=s.toks) (λb o hb e=>(sb.2 b hb).trans e) f0 f1 f3 f4 f5;obtain⟨o,e,c,d⟩:=id Mv;exact⟨u,rfl,zU (s:={ s with heap:=h' }) e c d (by decide) ⟨x,H,I1,ru,⟨rfl,λys hy=>by rw[I.lV hy hq];exact hx⟩,Mv,λb hb=>(hf b hb).1⟩⟩
 done:=by
  intro X hP hw hK hc i J0 s σ H E I hf st hg;subst hP hw hK;obtain⟨xs,hq,hx⟩:=hg;obtain⟨J4,rv,p,hz⟩:=I.list hq;obtain⟨f0,f1,f2,f3,f4,f5⟩:=hf it (by simp);have hl:=rv.length;exact wpAny_pyNext_list_end (I.ok.hd hc) st p.isList (by simp;lia) λh' eb=>⟨rfl,I.turned (t':=s.toks) (λb o hb e=>eb b o hb e) f0 f1 f3 f4 f5⟩
 self:=λ_ _ _ _ _ st h=>wpAny_pyIter_listiter st h
theorem uj{K:Nr}(a it:Addr):Turn P w K tg (Jt K a) [it] it (λi h=>h.IsTupleIter it a i) where
 mem:=by simp
 obj:=λi h st b hb=>by
  have e:b=it:=by simpa using hb
  subst e;obtain⟨o,e,c,d⟩:=st;exact⟨o,e,λv z=>by rw[d] at z;cases z⟩
 keep:=λi h h' st k=>st.at λo e=>k it (by simp) o e
 item:=by
  intro X hP hw hK hc i J0 s σ H E I hf st hg;subst hP hw hK;obtain⟨xs,x,hq,hx⟩:=hg;obtain⟨J4,rv,p,hz⟩:=I.tuple hq;obtain⟨u,hu,ru⟩:=rv.get hx;obtain⟨f0,f1,f2,f3,f4,f5⟩:=hf it (by simp);refine wpAny_pyNext_tuple_item st (show s.heap.IsTuple a J4.toArray from p) (x:=u) (by simpa using hu) λh' Mv sb=>?_;have I1:Inv X J0 σ H { s with heap:=h' }:=I.turned (t':=s.toks) (λb o hb e=>(sb.2 b hb).trans e) f0 f1 f3 f4 f5;obtain⟨o,e,c,d⟩:=id Mv;exact⟨u,rfl,zU (s:={ s with heap:=h' }) e c d (by decide) ⟨x,H,I1,ru,⟨rfl,λys hy=>by rw[I.kH hy hq];exact hx⟩,Mv,λb hb=>(hf b hb).1⟩⟩
 done:=by
  intro X hP hw hK hc i J0 s σ H E I hf st hg;subst hP hw hK;obtain⟨xs,hq,hx⟩:=hg;obtain⟨J4,rv,p,hz⟩:=I.tuple hq;obtain⟨f0,f1,f2,f3,f4,f5⟩:=hf it (by simp);have hl:=rv.length;exact wpAny_pyNext_tuple_end (I.ok.hd hc) st (show s.heap.IsTuple a J4.toArray from p) (by simp;lia) λh' eb=>⟨rfl,I.turned (t':=s.toks) (λb o hb e=>eb b o hb e) f0 f1 f3 f4 f5⟩
 self:=λ_ _ _ _ _ st h=>wpAny_pyIter_tupleiter st h
theorem uc{K:Nr}(it:Addr)(lo:Int)(n:Nat):Turn P w K tg (GY lo n) [it] it (λi h=>IsRangeIter h it (lo+(i:Nat)*1) ((n:Int)-(i:Nat)) 1) where
 mem:=by simp
 obj:=λi h st b hb=>by
  have e:b=it:=by simpa using hb
  subst e;exact⟨_,st,λv z=>by
   have z':Data.fields _=Data.cell v:=z;cases z'⟩
 keep:=λi h h' st k=>k it (by simp) _ st
 item:=by
  intro X hP hw hK hc i J0 s σ H E I hf st hg;subst hP hw hK;obtain⟨f0,f1,f2,f3,f4,f5⟩:=hf it (by simp);have W:=Walks.range (prog:=X.prog) (w:=X.w) (I.ok.hd hc) it lo 1 n;refine W.item i s _ _ hg st λv h' tk hv Mv kk=>?_;obtain⟨t,rfl⟩:=hv;have I1:Inv X J0 σ H { s with heap:=h',toks:=tk }:=I.turned (λb o hb e=>kk b o (by simpa using hb) e) f0 f1 f3 f4 f5;refine⟨_,rfl,zU (s:={ s with heap:=h',toks:=tk }) (n := "range_iterator") Mv rfl rfl (by decide) ⟨.int (lo+i),H,I1,⟨t,?_⟩,⟨rfl,rfl⟩,Mv,λb hb=>(hf b hb).1⟩⟩;rw[Int.mul_one]
 done:=by
  intro X hP hw hK hc i J0 s σ H E I hf st hg;subst hP hw hK;obtain⟨f0,f1,f2,f3,f4,f5⟩:=hf it (by simp);exact wpAny_pyNext_range_end (I.ok.hd hc) st (by have:n<=i:=hg;lia) λh' eb=>⟨rfl,I.turned (t':=s.toks) (λb o hb e=>eb b o hb e) f0 f1 f3 f4 f5⟩
 self:=λ_ _ _ _ _ st h=>wpAny_pyIter_rangeiter st h
variable{fp:List Addr}
theorem yI{R:It->Hp->Prop}{lo hi:Int}{t u v:Tok}{tk:Nat}(I:Inv X J0 σ H s)(h1:-(2^62)<=lo)(h2:lo<2^62)(h3:-(2^62)<=hi)(h4:hi<2^62)
  (q:R (GY lo (hi-lo).toNat) H):wpAny (model X.prog X.w) X.A (pyIter (.ref s.heap.objs.size)) (Jl X J0 σ tg R) E { s with heap:=s.heap.push { cls:=.type "range", data:=.fields #[.int lo t,.int hi u,.int 1 v] },toks:=tk }:=by
 refine wpAny_pyIter_range (IsRange.new ..) (small_one h1 h2 h3 h4) ?_;have I1:Inv X J0 σ H { s with heap:=s.heap.push { cls:=.type "range", data:=.fields #[.int lo t,.int hi u,.int 1 v] },toks:=tk }:=I.kept λb o e=>Nq _ e;refine⟨(s.heap.push { cls:=.type "range", data:=.fields #[.int lo t,.int hi u,.int 1 v] }).objs.size,[(s.heap.push { cls:=.type "range", data:=.fields #[.int lo t,.int hi u,.int 1 v] }).objs.size],_,_,H,rfl,
  I1.kept (t':=tk) λb o e=>Nq _ e,uc _ lo (hi-lo).toNat,?_,λb hb=>?_,q⟩
 .have e1:lo+((0:Nat):Int)*1=lo:=by simp
  have e2:(((hi-lo).toNat:Nat):Int)-((0:Nat):Int)=Builtin.Range.rangeSize lo hi 1:=by rw[rangeSize_one];split <;> lia
  show IsRangeIter _ _ (lo+((0:Nat):Int)*1) ((((hi-lo).toNat:Nat):Int)-((0:Nat):Int)) 1;rw[e1,e2];exact Ny _ rfl
 .have e:b=(s.heap.push { cls:=.type "range", data:=.fields #[.int lo t,.int hi u,.int 1 v] }).objs.size:=by simpa using hb
  subst e;exact I1.rf (NC _) (I1.bw.fresh (NC _))
def Cd(ta:TA):TI:=fun σ H R=>ta σ H λvs H1=>∃ j:Int,vs=[.int j]/\-(2^62)<=j/\j<2^62/\R (GY 0 j.toNat) H1
theorem j8{a:Expr}{ta:TA}{p:Pos}(hg:Gl X "range")(hm:X.mg "range" = none)(ha:PA X [a] ta)(hs:autoParam (starEach [a] X.env=[(false,eval a X.env)]) aR._auto_1):PI X tg (.Call (.Name "range" p) [a] [] pos) (Cd ta):=by
 intro J0 s σ H R I h;refine Call_ (jf I hg hm boot_range (OV (cA (ha pos J0 s σ H _ I h) λus s1 ⟨vs,H1,I1,r1,q1⟩=>?_) hs rfl));obtain⟨j,e,q1,q2,q⟩:=q1;subst e;cases r1 with
 | cons r rr =>
  cases rr;obtain⟨t,rfl⟩:=r;exact call_range_1 (yI I1 (by lia) (by lia) q1 q2 (by simpa using q))
def Jb(wi:TI)(g:TG)(tb:TS):TS:=λD σ H=>wi σ H λJ H1=>∃ W:Nat->Nat->St->Hp->Prop,(∃ m,W 0 m σ H1)/\∀ i m σ H,W i m σ H ->
 (J.stop i H/\D.nx σ H)\/(J.go i H/\∃ N:St->Hp->Prop,(∀ σ' H',N σ' H'->∃ m',m'<m/\W (i+1) m' σ' H')/\∀ x H',J.tU i H x H'->g x σ H' fun σ2 H2=>tb { D with nx:=N,ct:=N,bk:=D.nx } σ2 H2)
def j7(fp:List Addr)(h:Heap):List (Addr×Obj):=fp.filterMap λb=>(h.get? b).map λo=>(b,o)
theorem gJ(hb:b∈fp)(e:h.get? b=some o):(b,o)∈j7 fp h:=Td.mpr ⟨b,hb,by rw[e];rfl⟩
theorem vv{p:Addr×Obj}(hp:p∈j7 fp h):p.1∈fp/\h.get? p.1=some p.2:=by
 obtain⟨b,hb,e⟩:=Td.mp hp;cases q:h.get? b with
 | none=>rw[q] at e;cases e
 | some o =>
  rw[q] at e;have e':(b,o)=p:=NQ e;subst e';exact⟨hb,q⟩
theorem Inv.pinned(I:Inv X J0 σ H s)(hf:∀ b∈fp,jZ X J0 H b)(ho:∀ b∈fp,∃ o,s.heap.get? b=some o/\∀ v,o.data≠.cell v):Inv X (J0++j7 fp s.heap) σ H s :=
 I.uQ λp hp=>(O0.mp hp).elim (λz=>I.pin p (Oe _ z)) λz=>by
  obtain⟨hb,e⟩:=vv z;obtain⟨f0,f1,f2,_⟩:=hf p.1 hb;obtain⟨o,e',d⟩:=ho p.1 hb;rw[e] at e';cases e';exact⟨e,f0,f1,f2,d⟩
theorem Inv.jO{pl:List (Addr×Obj)}(I:Inv X (J0++pl) σ H s):Inv X J0 σ H s:=I.uQ λp hp=>I.pin p (Oe _ (Rc _ hp))
theorem DG{iter:Expr}{wi:TI}{g:TG}(hp:PassesOwn (model X.prog X.w) X.A X.env X.xe)(hc:X.calm=true)(hi:PI X tg iter wi)(hg:PG X tg g)(hb:iG X body tb)
  (hs:autoParam (∀ x,foldedSetIterable iter X.env x=pure x) aI._auto_1):PS X (.For tg iter body [] pos) (Jb wi g tb):=by
 intro J0 s σ H D I h;refine wpAny_For (cA (hi J0 s σ H _ I h) λv s1 h1=>cA h1 λitv s2 h2=>?_) hs;obtain⟨it,fp,tn,J,H2,e,I2,T,LS,f2,W,⟨m0,w0⟩,turn⟩:=h2;subst e;have LC:∀ {H':Hp},(∀ b∈fp,H' b=none)->∀ b∈fp,jZ X J0 H' b:=λhn b hb=>⟨hn b hb,(f2 b hb).2⟩
 refine codeAny_forLoop_any (λn s'=>∃ i σ' H',Inv X J0 σ' H' s'/\tn i s'.heap/\(∀ b∈fp,H' b=none)/\W i n σ' H') ?_ m0 ⟨0,σ,H2,I2,LS,λb hb=>(f2 b hb).1,w0⟩;rintro n s3 ⟨i,σ3,H3,I3,Mz,fr3,w3⟩;rcases turn i n σ3 H3 w3 with ⟨stop,qn⟩ | ⟨go,N,hN,step⟩
 .refine Pz hp (cA (T.done X rfl rfl rfl hc i J0 s3 σ3 H3 X.xe I3 (LC fr3) Mz stop) λr s4 ⟨hr,I4⟩=>?_);subst hr;exact QD ⟨σ3,H3,I4,qn⟩
 .refine Pz hp (cA (T.item X rfl rfl rfl hc i J0 s3 σ3 H3 X.xe I3 (LC fr3) Mz go) λr s4 ⟨u,hr,h4⟩=>?_);subst hr;refine Pz hp (cA h4 λ_ s5 ⟨x,H5,I5,r5,y5,st5,fr5⟩=>?_);have I5':=I5.pinned (LC fr5) (T.obj _ _ st5);refine Pz hp (cA (hg _ s5 σ3 H5 x u _ I5' r5 (step x H5 y5)) λ_ s6 ⟨σ6,H6,I6,q6⟩=>?_);refine Pz hp (cA (hb _ s6 σ6 H6 _ I6 q6) λf s7 q7=>?_);have again:∀ {σ7:St} {H7:Hp},Inv X (J0++j7 fp s5.heap) σ7 H7 s7->N σ7 H7->∃ m,m<n/\∃ i σ' H',Inv X J0 σ' H' s7/\tn i s7.heap/\(∀ b∈fp,H' b=none)/\W i m σ' H':=λ{σ7 H7} I7 n7=>by
   obtain⟨m',hm,w7⟩:=hN σ7 H7 n7;refine⟨m',hm,i+1,σ7,H7,I7.jO,T.keep _ _ _ st5 λb hb o e=>(I7.pin (b,o) (Oe _ (Oe _ (gJ hb e)))).1,λb hb=>?_,w7⟩;obtain⟨o,e,d⟩:=T.obj _ _ st5 b hb;exact(I7.pin (b,o) (Oe _ (Oe _ (gJ hb e)))).2.1
  cases f with
  | next=>obtain⟨σ7,H7,I7,n7⟩:=q7;exact again I7 n7
  | cont=>obtain⟨σ7,H7,I7,n7⟩:=q7;exact again I7 n7
  | brk=>obtain⟨σ7,H7,I7,q7⟩:=q7;exact⟨σ7,H7,I7.jO,q7⟩
  | ret v=>obtain⟨x7,σ7,H7,I7,r7,q7⟩:=q7;exact⟨x7,σ7,H7,I7.jO,r7,q7⟩
abbrev R2:=V->V->Hp->VK->Prop
def fD(X:Cx)(f:Value->Value->Sem Value)(r:R2):Prop :=
 ∀ (J0:List (Addr×Obj)) (s:Shared) (σ:St) (H:Hp) (x y:V) (v u:Value) (Q:VK),Inv X J0 σ H s->RelV x v->RelV y u->r x y H Q ->
  wpAny (model X.prog X.w) X.A (f v u) (EP X J0 σ Q) X.xe s
def HF(X:Cx)(f:Value->Sem Value)(r:V->Hp->VK->Prop):Prop :=
 ∀ (J0:List (Addr×Obj)) (s:Shared) (σ:St) (H:Hp) (x:V) (v:Value) (Q:VK),Inv X J0 σ H s->RelV x v->r x H Q ->
  wpAny (model X.prog X.w) X.A (f v) (EP X J0 σ Q) X.xe s
def cL(X:Cx)(f:Value)(r:List V->Hp->VK->Prop):Prop :=
 ∀ (J0:List (Addr×Obj)) (s:Shared) (σ:St) (H:Hp) (xs:List V) (us:List Value) (Q:VK),Inv X J0 σ H s->Vals xs us->r xs H Q ->
  wpAny (model X.prog X.w) X.A (call f us) (EP X J0 σ Q) X.xe s
def Fn(r:R2)(ta tb:TE):TE:=fun σ H Q=>ta σ H λx H1=>tb σ H1 λy H2=>r x y H2 Q
def Jw(r:V->Hp->VK->Prop)(ta:TE):TE:=fun σ H Q=>ta σ H λx H1=>r x H1 Q
def rI(C:Int->Int->Prop)(g:Int->Int->V):R2:=λx y H Q=>∃ i j,x=.int i/\y=.int j/\C i j/\Q (g i j) H
def uV(g:Int->Int->V):R2:=λx y H Q=>∃ i j,x=.int i/\y=.int j/\Q (g i j) H
def rU(g:Int->V):V->Hp->VK->Prop:=λx H Q=>∃ i,x=.int i/\Q (g i) H
variable{f:Value->Value->Sem Value}
variable{r:R2}
section
variable{a b:Expr}{tb tc:TE}
theorem Dl(ha:PE X a ta)(hb:PE X b tb){R:V->V->Hp->Prop}(I:Inv X J0 σ H s)
  (h:ta σ H λx H1=>tb σ H1 λy H2=>R x y H2)
  (hf:∀ v u s2 x y H2,Inv X J0 σ H2 s2->RelV x v->RelV y u->R x y H2->wpAny (model X.prog X.w) X.A (f v u) Q X.xe s2) :
  wpAny (model X.prog X.w) X.A (eval a X.env) (λv s₁=>wpAny (model X.prog X.w) X.A (eval b X.env) (λu s₂=>wpAny (model X.prog X.w) X.A (f v u) Q X.xe s₂) X.xe s₁) X.xe s:=by
 refine cA (ha J0 s σ H _ I h) λv s1 ⟨x,H1,I1,r1,q1⟩=>?_;refine cA (hb J0 s1 σ H1 _ I1 q1) λu s2 ⟨y,H2,I2,r2,q2⟩=>?_;exact hf v u s2 x y H2 I2 r1 r2 q2
theorem CF{op:Operator}(ho:fD X (binaryOp op) r)(ha:PE X a ta)(hb:PE X b tb):PE X (.BinOp a op b pos) (Fn r ta tb):=by
 intro J0 s σ H Q I h;exact wpAny_BinOp (Dl ha hb I h λv u s2 x y H2 I2 rx ry q=>ho J0 s2 σ H2 x y v u Q I2 rx ry q)
theorem FX{op:UnaryOp}{r:V->Hp->VK->Prop}(ho:HF X (unaryOp op) r)(ha:PE X a ta):PE X (.UnaryOp op a pos) (Jw r ta):=by
 intro J0 s σ H Q I h;exact UnaryOp_ (cA (ha J0 s σ H _ I h) λv s1 ⟨x,H1,I1,r1,q1⟩=>ho J0 s1 σ H1 x v Q I1 r1 q1)
theorem G8{C:Int->Int->Prop}{g:Int->Int->Int}
  (rule:∀ (i j:Int) (t u:Tok) (s:Shared) (Q:Value->Shared->Prop) (E:Value->Shared->Prop),C i j->Q (.int (g i j) s.toks) { s with toks:=s.toks+1 }->wpAny (model X.prog X.w) X.A (f (.int i t) (.int j u)) Q E s) :
  fD X f (rI C λi j=>.int (g i j)):=by
 intro J0 s σ H x y v u Q I rx ry h;obtain⟨i,j,rfl,rfl,hc,q⟩:=h;obtain⟨t,rfl⟩:=rx;obtain⟨t',rfl⟩:=ry;exact rule i j t t' s _ _ hc ⟨.int (g i j),H,I.tok _,⟨_,rfl⟩,q⟩
theorem Gb{g:Int->Int->Int}
  (rule:∀ (i j:Int) (t u:Tok) (s:Shared) (Q:Value->Shared->Prop) (E:Value->Shared->Prop),Q (.int (g i j) s.toks) { s with toks:=s.toks+1 }->wpAny (model X.prog X.w) X.A (f (.int i t) (.int j u)) Q E s) :
  fD X f (uV λi j=>.int (g i j)):=by
 intro J0 s σ H x y v u Q I rx ry h;obtain⟨i,j,rfl,rfl,q⟩:=h;obtain⟨t,rfl⟩:=rx;obtain⟨t',rfl⟩:=ry;exact rule i j t t' s _ _ ⟨.int (g i j),H,I.tok _,⟨_,rfl⟩,q⟩
theorem AI{g:Int->Int->Bool}
  (rule:∀ (i j:Int) (t u:Tok) (s:Shared) (Q:Value->Shared->Prop) (E:Value->Shared->Prop),Q (.bool (g i j)) s->wpAny (model X.prog X.w) X.A (f (.int i t) (.int j u)) Q E s) :
  fD X f (uV λi j=>.bl (g i j)):=by
 intro J0 s σ H x y v u Q I rx ry h;obtain⟨i,j,rfl,rfl,q⟩:=h;obtain⟨t,rfl⟩:=rx;obtain⟨t',rfl⟩:=ry;exact rule i j t t' s _ _ ⟨.bl (g i j),H,I,rfl,q⟩
def E3(i j:Int):Prop:=0<=j/\j<=1000000/\i.natAbs<2^64
theorem D8:fD X (binaryOp .Add) (uV λi j=>.int (i+j)):=Gb λ_ _ _ _ _ _ _ q=>add_int q
theorem Ew:fD X (binaryOp .Sub) (uV λi j=>.int (i-j)):=Gb λ_ _ _ _ _ _ _ q=>sub_int q
theorem BN:fD X (binaryOp .Mod) (rI (λ_ j=>j≠0) λi j=>.int (i.fmod j)):=G8 λ_ _ _ _ _ _ _ hc q=>mod_int' hc q
theorem ER:fD X (binaryOp .Pow) (rI E3 λi j=>.int (i^j.toNat)):=G8 λ_ _ _ _ _ _ _ hc q=>pow_int_small hc.1 hc.2.1 hc.2.2 q
theorem JX{f:Value->Sem Value}{g:Int->Int}
  (rule:∀ (i:Int) (t:Tok) (s:Shared) (Q:Value->Shared->Prop) (E:Value->Shared->Prop),Q (.int (g i) s.toks) { s with toks:=s.toks+1 }->wpAny (model X.prog X.w) X.A (f (.int i t)) Q E s) :
  HF X f (rU λi=>.int (g i)):=by
 intro J0 s σ H x v Q I rx h;obtain⟨i,rfl,q⟩:=h;obtain⟨t,rfl⟩:=rx;exact rule i t s _ _ ⟨.int (g i),H,I.tok _,⟨_,rfl⟩,q⟩
theorem C5:HF X (unaryOp .USub) (rU λi=>.int (-i)):=JX λ_ _ _ _ _ q=>neg_int q
end
variable{op:CmpOp}
variable{us:List Value}
section
variable{a b:Expr}{tb tc:TE}
theorem jo{Q:VK}{k k':Bool}(I:Inv X J0 σ H s)(q:Q (.bl k) H)(e:k=k'):EP X J0 σ Q (.bool k') s:=by
 subst e;exact⟨.bl k,H,I,rfl,q⟩
theorem z7:fD X (compareOp .Lt) (uV λi j=>.bl (decide (i<j))):=AI λ_ _ _ _ _ _ _ q=>lt_int q
theorem qB:fD X (compareOp .LtE) (uV λi j=>.bl (decide (i<=j))):=AI λ_ _ _ _ _ _ _ q=>le_int q
theorem Cs:fD X (compareOp .Gt) (uV λi j=>.bl (decide (j<i))):=AI λ_ _ _ _ _ _ _ q=>gt_int q
theorem CG:fD X (compareOp .GtE) (uV λi j=>.bl (decide (j<=i))):=AI λ_ _ _ _ _ _ _ q=>ge_int q
theorem yu:fD X (compareOp .Is) (λx y H Q=>y=.bz/\Q (.bl (decide (x=.bz))) H):=by
 intro J0 s σ H x y v u Q I rx ry h;obtain⟨rfl,q⟩:=h;cases ry;refine is_none_gen (jo I q ?_);cases x <;> first
  | (cases rx;rfl)
  | (obtain⟨t,rfl⟩:=rx;rfl)
theorem fD.or{r':R2}(h:fD X f r)(h':fD X f r'):fD X f (λx y H Q=>r x y H Q\/r' x y H Q):=by
 intro J0 s σ H x y v u Q I rx ry q;rcases q with q | q
 .exact h J0 s σ H x y v u Q I rx ry q
 .exact h' J0 s σ H x y v u Q I rx ry q
theorem cQ(b:Expr)(h:autoParam (op≠.In) aD._auto_1)(h2:autoParam (op≠.NotIn) aD._auto_1):behindInMarks op b=false:=by
 have e1:(op==CmpOp.In)=false:=by cases op <;> first | rfl | exact absurd rfl h
 have e2:(op==CmpOp.NotIn)=false:=by cases op <;> first | rfl | exact absurd rfl h2
 cases b <;> simp[behindInMarks,e1,e2]
theorem BZ(ho:fD X (compareOp op) r)(ha:PE X a ta)(hb:PE X b tb)(hm:behindInMarks op b=false):PE X (.Compare a [op] [b] pos) (Fn r ta tb):=by
 intro J0 s σ H Q I h;exact wpAny_Compare1 (Dl ha hb I h λv u s2 x y H2 I2 rx ry q=>ho J0 s2 σ H2 x y v u Q I2 rx ry q) hm
def GO(t:TE):TT:=fun σ H Q=>t σ H λx H'=>∃ k,x=.bl k/\Q k H'
theorem Be(ho:fD X (compareOp op) r)(ha:PE X a ta)(hb:PE X b tb)(hm:behindInMarks op b=false):PT X (.Compare a [op] [b] pos) (GO (Fn r ta tb)):=by
 intro J0 s σ H Q I h;refine wpAny_isTrue_Compare1 (cA (ha J0 s σ H _ I h) λv s1 ⟨x,H1,I1,r1,q1⟩=>cA (hb J0 s1 σ H1 _ I1 q1) λu s2 ⟨y,H2,I2,r2,q2⟩ =>
  cA (ho J0 s2 σ H2 x y v u _ I2 r1 r2 q2) λc s3 ⟨z,H3,I3,r3,k,e,q3⟩=>?_) hm
 subst e;cases r3;exact PC ⟨H3,I3,q3⟩
def zM(r r':R2)(ta tb tc:TE):TE:=fun σ H Q=>ta σ H λx H1=>tb σ H1 λy H2=>r x y H2 λz H3=>∃ k,z=.bl k ∧
 (if k=true then tc σ H3 λw' H4=>r' y w' H4 Q else Q (.bl false) H3)
theorem xr{MI:CmpOp}{r':R2}(ho:fD X (compareOp op) r)(Lu:fD X (compareOp MI) r')(ha:PE X a ta)(hb:PE X b tb)(hc:PE X c tc)
  (hm:autoParam (lastMarks [op,MI] [b,c]=false) aU._auto_1):PE X (.Compare a [op,MI] [b,c] pos) (zM r r' ta tb tc):=by
 intro J0 s σ H Q I h;refine Compare_chain (cA (ha J0 s σ H _ I h) λv s1 ⟨x,H1,I1,r1,q1⟩=>chain_link (cA (hb J0 s1 σ H1 _ I1 q1) λu s2 ⟨y,H2,I2,r2,q2⟩ =>
  cA (ho J0 s2 σ H2 x y v u _ I2 r1 r2 q2) λd s3 ⟨z,H3,I3,r3,k,e,q3⟩=>?_)) hm
 subst e;cases r3;refine PC ?_;cases k with
 | false=>exact ite_ff ⟨.bl false,H3,I3,rfl,q3⟩
 | true=>exact ite_tt (chain_last (cA (hc J0 s3 σ H3 _ I3 q3) λw' s4 ⟨z',H4,I4,r4,q4⟩=>Lu J0 s4 σ H4 y z' u w' Q I4 r2 r4 q4))
theorem kr:(sizeLine:Nat)<2^63:=by rw[sizeLine_eq];decide
theorem sY:fD X (binaryOp .Add) (λx y H Q=>∃ i j,x=.str i/\y=.str j/\i.length+j.length<=sizeLine/\Q (.str (i++j)) H):=by
 intro J0 s σ H x y v u Q I rx ry h;obtain⟨i,j,rfl,rfl,hz,q⟩:=h;obtain⟨t,rfl⟩:=rx;obtain⟨t',rfl⟩:=ry;exact add_str (λt' tk=>⟨.str (i++j),H,I.tok _,⟨_,rfl⟩,q⟩) hz
theorem vals1{x:V}(r:Vals [x] us):∃ u,us=[u]/\RelV x u:=by
 cases r with
 | cons r1 r2=>cases r2;exact⟨_,rfl,r1⟩
theorem vals2{x y:V}(r:Vals [x,y] us):∃ u w',us=[u,w']/\RelV x u/\RelV y w':=by
 cases r with
 | cons r1 r2 =>
  cases r2 with
  | cons r3 r4=>cases r4;exact⟨_,_,rfl,r1,r3⟩
theorem ot(hc:X.calm=true):cL X (.builtin "max") (λxs H Q=>∃ i j,xs=[.int i,.int j]/\Q (.int (if j>i then j else i)) H):=by
 intro J0 s σ H xs us Q I r h;obtain⟨i,j,rfl,q⟩:=h;obtain⟨u,w',rfl,⟨t,rfl⟩,⟨t',rfl⟩⟩:=vals2 r;refine max_two_ints (I.ok.hd hc) λh' tk k=>⟨_,H,I.kept k,?_,q⟩
 by_cases hj:j>i
 .rw[if_pos hj,if_pos hj];exact⟨_,rfl⟩
 .rw[if_neg hj,if_neg hj];exact⟨_,rfl⟩
end
structure tD (h:Heap) (x dx C:Addr) (mA:Str->Option Value):Prop where
 obj:h.get? x=some (Pa C dx)
 ns:h.Ns1 dx mA
 ne:dx≠x
variable{mA:Str->Option Value}{dx:Addr}
theorem kE(n:h.Ns1 dx mA):∃ od,h.get? dx=some od/\∀ name,Qh name od=some (mA name):=by
 obtain⟨o,es,ep,ho,hd,hk,_,hm⟩:=n;refine⟨o,ho,λname=>?_⟩;have e:=hm name;unfold nsFind findBy at e;rw[<- Te] at e;unfold Qh;rw[hd];dsimp only
 split
 .rename_i y q;rw[q] at e;exact congrArg some e
 .rename_i q;rw[q] at e;have a:es.toList.any (·.refKey)=false:=by
   rw[List.any_eq_false];intro y hy;obtain⟨z,t,hkey⟩:=hk y (Array.mem_toList_iff.mp hy);simp[DictEntry.refKey,hkey]
  have a':¬ es.toList.any (·.refKey)=true:=by rw[a];exact OF
  rw[if_neg a'];exact congrArg some e
variable{C:Addr}
theorem tD.look{x:Addr}(I:tD h x dx C mA):∃ od,O8 h x (Pa C dx) C (some od)/\∀ name,Qh name od=some (mA name) :=
 let ⟨od,ho,hl⟩:=kE I.ns
 ⟨od,⟨I.obj,rfl,rfl,ho⟩,hl⟩
variable{prog:Program}
variable{pl:Sem Bool}
variable{kw:List (Str×Value)}
section
variable{K:Nr}{x f:Addr}{name:Str}{v:Value}
theorem get_map{expr:Bool}(X:K.In s.heap)(I:tD s.heap x dx C mA)(hg:Q6 K C name=true)(hh:QM K C=true)
  (ha:N1 K (.ref C) name=some none) (hv:mA name=some v) (Ng:Ug v=true) (h:Q v { s with toks:=s.toks+1 }) :
  wpAny (model prog w) A (getAttr (.ref x) name expr) Q E s:=by
 obtain⟨od,J,hl⟩:=I.look;exact PySem.W.get_value X J (Ry hg).1 (S3 hh ha rfl (by rw[hl,hv])) Ng h
theorem yE{Q:Value×List Value->Shared->Prop}(X:K.In s.heap)(I:tD s.heap x dx C mA)(hg:Q6 K C name=true)
  (hf:N1 K (.ref C) name=some (some (.ref f))) (ht:P1 K (.ref f)=true) (hv:mA name=none) (h:Q (.ref f,[.ref x]) s) :
  wpAny (model prog w) A (getMethod (.ref x) name pl) Q E s:=by
 obtain⟨od,J,hl⟩:=I.look;exact PySem.W.method_fn X J (Ry hg).1 (Ry hg).2 hf (beq_iff_eq.mp ht) (by show (Qh name od).map (·.isSome)=some false;rw[hl,hv];rfl) h
theorem AY{ns:List Str}{Q:Unit->Shared->Prop}(X:K.In s.heap)(I:tD s.heap x dx C mA)
  (hs:N1 K (.ref C) "__setattr__" = some (some (.builtin "object.__setattr__"))) (hp:TL K C=true) (ht:QE K C name=some none) (hh:QM K C=true)
  (hw:TF mA ns) (K7:ns.length<=sizeLine)
  (h:∀ h',tD h' x dx C (λy=>if y=name then some v else mA y)->Qm dx s.heap h'->Q () { s with heap:=h',toks:=s.toks+2 }) :
  wpAny (model prog w) A (setAttr (.ref x) name v) Q E s:=by
 obtain⟨od,J,hl⟩:=I.look;refine TM X J hs (PySem.W.osa_open (s:={ s with toks:=s.toks+1 }) (r:=none) X J hp ht λb=>?_);obtain⟨cd,hc,M0⟩:=PU hh;have hx:s.heap.get? x=some ⟨.ref C,some dx,.plain,#[]⟩:=I.obj;refine Np (Nx (Np (Np (PX hx (Np (Tf (s:={ s with toks:=s.toks+1 }) (Rz X hc) ?_))))));rw[M0];refine Nx (a:=some dx) (Np (Nx (Np ?_)));refine wpAny_nsSet1 (s:={ s with toks:=s.toks+1 }) I.ns λh' Mr Li=>?_;obtain⟨oD,esD,epD,hoD,hdD,L5⟩:=Mr.count (TN name v hw);refine Np (wpAny_lookBehind hoD (by rw[hdD];exact pastItsLine_dict (NZ L5 (by rw[OQ];lia))) ?_);exact Nx (h _ ⟨(Li.2 _ (O5 I.ne)).trans I.obj,Mr,I.ne⟩ Li)
theorem zg{R:Result->Shared->Prop}{vs:List Value}(X:K.In s.heap)(hm:UB K C=true)
  (hi:N1 K (.ref C) "__init__" = some (some (.ref f))) (hf:Qi K (.ref f)=some (.type "function"))
  (h:codeAny (model prog w) (A.under (.builtin "type.__call__" ⟨.ref C::vs,kw⟩)) (.call (.ref f) ⟨.ref (s.heap.objs.size+1)::vs,kw⟩) (PySem.W.InitBack (s.heap.objs.size+1) R)
   { s with heap:=(s.heap.push OJ).push (Pa C s.heap.objs.size) }) :
  codeAny (model prog w) A (.call (.ref C) ⟨vs,kw⟩) R s:=by
 obtain⟨hh,g,d,t,os⟩:=s;exact PySem.W.make_core (PySem.W.makes_of X hm) (OR X hi) (λself=>UC X self hf) (.inl rfl) h
end
def h_(f:Str)(v:V):List (Str×V)->List (Str×V)
 | []=>[(f,v)]
 | (g,x)::r=>if g=f then (g,v)::r else (g,x)::h_ f v r
theorem kP(f g:Str)(v:V):∀ fs:List (Str×V),(h_ f v fs).lookup g=if g=f then some v else fs.lookup g
 | []=>by
  show Qj g [(f,v)]=_
  by_cases h:g=f
  .have hb:(g==f)=true:=beq_iff_eq.mpr h;simp only[Qj,hb,if_pos h]
  .have hb:(g==f)=false:=beq_eq_false_iff_ne.mpr h;simp only[Qj,hb,if_neg h]
 | (k,x)::r=>by
  have ih:=kP f g v r;rw[show h_ f v ((k,x)::r)=(if k=f then (k,v)::r else (k,x)::h_ f v r) from rfl]
  by_cases hk:k=f
  .rw[if_pos hk]
   by_cases h:g=k
   .have hb:(g==k)=true:=beq_iff_eq.mpr h;simp only[Qj,hb,if_pos (h.trans hk)]
   .have hb:(g==k)=false:=beq_eq_false_iff_ne.mpr h;simp only[Qj,hb,if_neg (λe:g=f=>h (e.trans hk.symm))]
  .rw[if_neg hk]
   by_cases h:g=k
   .have hb:(g==k)=true:=beq_iff_eq.mpr h;simp only[Qj,hb,if_neg (λe:g=f=>hk (h.symm.trans e))]
   .have hb:(g==k)=false:=beq_eq_false_iff_ne.mpr h;simp only[Qj,hb];exact ih
theorem kf(f:Str)(v:V):∀ fs:List (Str×V),f∈(h_ f v fs).map (·.1)/\∀ g,g∈fs.map (·.1)->g∈(h_ f v fs).map (·.1)
 | []=>⟨by simp[h_],λg h=>by simp at h⟩
 | (k,x)::r=>by
  obtain⟨i1,i2⟩:=kf f v r;rw[show h_ f v ((k,x)::r)=(if k=f then (k,v)::r else (k,x)::h_ f v r) from rfl]
  by_cases hk:k=f
  .rw[if_pos hk];subst hk;exact⟨by simp,λg h=>by simpa using h⟩
  .rw[if_neg hk];refine⟨?_,λg h=>?_⟩
   .rw[NX];exact NH _ i1
   .rw[NX] at h ⊢;rcases NJ.mp h with e | e
    .exact NJ.mpr (.inl e)
    .exact NH _ (i2 g e)
theorem kK(f:Str)(v:V):∀ fs:List (Str×V),(h_ f v fs).length<=fs.length+1
 | []=>by simp[h_]
 | (k,x)::r=>by
  have ih:=kK f v r;rw[show h_ f v ((k,x)::r)=(if k=f then (k,v)::r else (k,x)::h_ f v r) from rfl]
  by_cases hk:k=f
  .rw[if_pos hk,OQ,OQ];lia
  .rw[if_neg hk,OQ,OQ];lia
theorem jm.some_of{o:Option Value}(r:jm (some v) o):∃ u,o=some u/\RelV v u:=by
 cases o with
 | none=>exact(show False from r).elim
 | some u=>exact⟨u,rfl,r⟩
theorem jm.none_of{o:Option Value}(r:jm none o):o=none:=by
 cases o with
 | none=>rfl
 | some u=>exact(show False from r).elim
theorem oz(r:RelV v u):Ug u=true:=by
 cases v with
 | bz=>cases (show u=Ob from r);rfl
 | bl b=>cases (show u=Pk b from r);rfl
 | int i=>obtain⟨t,e⟩:=(show ∃ t,u=R9 i t from r);cases e;rfl
 | str x=>obtain⟨t,e⟩:=(show ∃ t,u=R_ x t from r);cases e;rfl
 | byt b=>obtain⟨t,e⟩:=(show ∃ t,u=U4 b t from r);cases e;rfl
 | CA b=>obtain⟨t,e⟩:=(show ∃ t,u=SK b t from r);cases e;rfl
 | ref a=>cases (show u=NB a from r);rfl
 | ty n=>cases (show u=OW n from r);rfl
section
variable{fs fs':List (Str×V)}
theorem jG(bw:j9 P w H h)(e:H a=some (.ins C dx fs)):∃ mA,tD h a dx C mA/\(∀ f,jm (fs.lookup f) (mA f))/\TF mA (fs.map (·.1))/\fs.length<=1000/\H dx=some (.own a):=by
 obtain⟨d,z,ne,ob,mA,n,r,q⟩:=(show bS P w H h a (.ins C dx fs) from bw a _ e)
 exact⟨mA,⟨ob,n,ne⟩,r,q,z,d⟩
end
structure j4 (K:Nr) (C:Addr):Prop where
 pg:Q6 K C Str.empty=true
 hd:QM K C=true
 po:TL K C=true
 sa:N1 K (.ref C) "__setattr__" = some (some (.builtin "object.__setattr__"))
theorem j4.get{K:Nr}(c:j4 K C)(f:Str):Q6 K C f=true:=c.pg
def bI(K:Nr)(C:Addr)(f:Str):Prop:=N1 K (.ref C) f=some none
theorem bI.Cy{K:Nr}{f:Str}(n:bI K C f):QE K C f=some none:=by
 unfold QE;rw[show N1 K (.ref C) f=some none from n];rfl
structure Meth (K:Nr) (C:Addr) (m:Str) (f:Addr):Prop where
 at_:N1 K (.ref C) m=some (some (.ref f))
 fn:P1 K (.ref f)=true
 kp:Oi K (.ref f)=true
variable{m:Str}
section
variable{fs:List (Str×V)}{f:Str}
theorem sN{b:Bool}(I:Inv X J0 σ H s)(e:H a=some (.ins C dx fs))(c:j4 X.K C)(n:bI X.K C f)(l:fs.lookup f=some v)
  (h:∀ u s',Inv X J0 σ H s'->RelV v u->Q u s'):wpAny (model X.prog X.w) A (getAttr (.ref a) f b) Q E s:=by
 obtain⟨mA,O,r,_,_,_⟩:=jG I.bw e;obtain⟨u,hu,ru⟩:=jm.some_of (v:=v) (o:=mA f) (by rw[<- l];exact r f);exact get_map I.gC O (c.get f) c.hd n hu (oz ru) (h u _ (I.tok _) ru)
theorem lU{g:Addr}{Q:Value×List Value->Shared->Prop}(I:Inv X J0 σ H s)(e:H a=some (.ins C dx fs))(c:j4 X.K C)(k:Meth X.K C m g)(l:fs.lookup m=none)
  (h:Q (.ref g,[.ref a]) s):wpAny (model X.prog X.w) A (getMethod (.ref a) m pl) Q E s:=by
 obtain⟨mA,O,r,_,_,_⟩:=jG I.bw e;have hn:mA m=none:=jm.none_of (by rw[<- l];exact r m);exact yE I.gC O (c.get m) k.at_ k.fn hn h
theorem sU{y:V}{Q:Unit->Shared->Prop}(I:Inv X J0 σ H s)(e:H a=some (.ins C dx fs))(c:j4 X.K C)(n:bI X.K C f)(hl:fs.length<1000)(ry:RelV y u)
  (h:∀ s',Inv X J0 σ (upd H a (.ins C dx (h_ f y fs))) s'->Q () s'):wpAny (model X.prog X.w) A (setAttr (.ref a) f u) Q E s:=by
 obtain⟨mA,O,r,wi,_,ho⟩:=jG I.bw e;have hz:(fs.map (·.1)).length<=sizeLine:=by rw[Nu,sizeLine_eq];lia
 refine AY I.gC O c.sa c.po n.Cy c.hd wi hz λh' O' sb=>h _ ?_;have hd:∃ o,h'.get? dx=some o:=let ⟨o,_,_,e',_⟩:=O'.ns;⟨o,e'⟩
 refine I.write (x:=a) (e:=dx) (by rw[e];exact Pb) (.inr ho) (λb q hb z=>(sb.2 b hb).trans z) hd ?_;refine⟨by rw[av O.ne];exact ho,?_,O.ne,O'.obj,_,O'.ns,λg=>?_,λg hg=>?_⟩
 .have:=kK f y fs;lia
 .show jm ((h_ f y fs).lookup g) (if g=f then some u else mA g);rw[kP]
  by_cases q:g=f
  .rw[if_pos q,if_pos q];exact ry
  .rw[if_neg q,if_neg q];exact r g
 .by_cases q:g=f
  .rw[q];exact(kf f y fs).1
  .refine(kf f y fs).2 g (wi g λz=>hg ?_);show (if g=f then some u else mA g)=none;rw[if_neg q];exact z
theorem Inv.made(I:Inv X J0 σ H s):Inv X J0 σ (upd (upd H s.heap.objs.size (.own (s.heap.objs.size+1))) (s.heap.objs.size+1) (.ins C s.heap.objs.size []))
  { s with heap:=(s.heap.push OJ).push (Pa C s.heap.objs.size) }:=by
 have e1:(s.heap.push OJ).get? s.heap.objs.size=some OJ:=Ny s.heap rfl;have e2:((s.heap.push OJ).push (Pa C s.heap.objs.size)).get? (s.heap.objs.size+1)=some (Pa C s.heap.objs.size):=by
  have:=Ny (s.heap.push OJ) (o:=Pa C s.heap.objs.size) rfl
  rwa [NY] at this
 have e3:(s.heap.push OJ).Ns s.heap.objs.size (λ_=>none):=⟨OJ,#[],_,e1,rfl,(λe he=>absurd he (by simp)),λ_=>rfl⟩
 have I1:=I.laid (a:=s.heap.objs.size) (o:=.own (s.heap.objs.size+1)) (h':=s.heap.push OJ) (t':=s.toks) (λb u q=>Nq _ q) (NC _) ⟨_,e1⟩;refine I1.laid (a:=s.heap.objs.size+1) (o:=.ins C s.heap.objs.size []) (t':=s.toks) (λb u q=>Nq _ q) (TQ (NY _ _)) ?_;have ne:s.heap.objs.size≠s.heap.objs.size+1:=NP (O3 _);refine⟨by rw[av ne,az],Om _,ne,e2,λ_=>none,(TR e3).at λo q=>Nq _ q,λ_=>Pb,λy hy=>absurd rfl hy⟩
theorem u5{env:Env}{f:Str}(hb:attributeBase e f env (eval e env)=eval e env)
  (h:wpAny (model prog w) A (eval e env) (λo s₁=>wpAny (model prog w) A (getAttr o f true) Q E s₁) E s):wpAny (model prog w) A (eval (.Attribute e f pos) env) Q E s :=
 Attribute_any_ h (by rw[arm_eval_Attribute,hb])
end
def G_(K:Nr)(ta:TE)(f:Str):TE:=fun σ H Q=>ta σ H λx H1=>∃ a C dx fs v,x=.ref a/\H1 a=some (.ins C dx fs)/\j4 K C/\bI K C f/\fs.lookup f=some v/\Q v H1
def IX(K:Nr)(ta tv:TE)(f:Str):TS:=λD σ H=>tv σ H λy H1=>ta σ H1 λx H2=>∃ a C dx fs,x=.ref a/\H2 a=some (.ins C dx fs)/\j4 K C/\bI K C f/\fs.length<1000 ∧
 D.nx σ (upd H2 a (.ins C dx (h_ f y fs)))
section
variable{o value:Expr}{f:Str}{pos' Nn:Pos}{tv:TE}
theorem CQ(he:PE X e ta)(hb:attributeBase e f X.env (eval e X.env)=eval e X.env):PE X (.Attribute e f pos) (G_ X.K ta f):=by
 intro J0 s σ H Q I h;refine u5 hb (cA (he J0 s σ H _ I h) λu s1 ⟨x,H1,I1,rx,a,C,dx,fs,v,ex,ea,c,n,l,q⟩=>?_);subst ex;obtain rfl:u=NB a:=rx;exact sN I1 ea c n l λu' s2 I2 ru=>⟨v,H1,I2,ru,q⟩
theorem CP(ha:PE X o ta)(hv:PE X value tv)(hs:swapsWith value (some (.Attribute o f pos')) pos.line X.env=pure false):PS X (.Assign [.Attribute o f pos'] value pos) (IX X.K ta tv f):=by
 intro J0 s σ H D I h;refine Q3 (cA (hv J0 s σ H _ I h) λu s1 ⟨y,H1,I1,ry,q⟩=>cA (ha J0 s1 σ H1 _ I1 q) λov s2 ⟨x,H2,I2,rx,a,C,dx,fs,ex,ea,c,n,l,q2⟩=>?_) hs;subst ex;obtain rfl:ov=NB a:=rx;exact sU I2 ea c n l ry λs3 I3=>⟨σ,_,I3,q2⟩
end
section
variable{c:Value}{b:Bool}
inductive hX (K:Nr) (H:Hp):V->Value->Prop where
 | bz:hX K H .bz (.type "NoneType")
 | bl (x:Bool):hX K H (.bl x) (.type "bool")
 | int (i:Int):hX K H (.int i) (.type "int")
 | str (x:Str):hX K H (.str x) (.type "str")
 | CA (x:UInt64):hX K H (.CA x) (.type "float")
 | lst {a:Addr} {xs:List V} (e:H a=some (.lst xs)):hX K H (.ref a) (.type "list")
 | ny {a:Addr} {o:Obj} {xs:List V} (e:H a=some (.ny o (.lst xs))):hX K H (.ref a) (.type "list")
 | tup {a:Addr} {xs:List V} (e:H a=some (.tup xs)):hX K H (.ref a) (.type "tuple")
 | dK {a:Addr} {Kf:List (Key×V)} (e:H a=some (.dK Kf)):hX K H (.ref a) (.type "dict")
 | dT {a:Addr} {Kf:List (List Key×V)} (e:H a=some (.dT Kf)):hX K H (.ref a) (.type "dict")
 | ins {a C dx:Addr} {fs:List (Str×V)} (e:H a=some (.ins C dx fs)) (cl:j4 K C) (ha:N1 K (.ref C) "__class__" = some (some (.builtin "object.__class__")))
   (hn:QN K (.builtin "object.__class__") "__get__" = some (some (.builtin "getset_descriptor.__get__"))) (Fj:Ro K (.builtin "object.__class__")=some true)
   (hm:R5 K C (.type "object")=some true):hX K H (.ref a) (.ref C)
theorem o_{x:V}{t:Value}(I:Inv X J0 σ H s)(rx:RelV x u)(ty:hX X.K H x t)(e:NI X.K t c=some b)(h:∀ tk,Q (.bool b) { s with toks:=tk }) :
  wpAny (model X.prog X.w) A (call (.builtin "isinstance") [u,c]) Q E s:=by
 cases ty with
 | bz=>cases (show u=Ob from rx);exact Oq TU I.gC Pb e (λz=>nomatch z) h
 | bl y=>cases (show u=Pk y from rx);exact Oq TV I.gC Pb e (λz=>nomatch z) h
 | int i=>obtain⟨t,q⟩:=(show ∃ t,u=R9 i t from rx);cases q;exact Oq Uh I.gC Pb e (λz=>nomatch z) h
 | str y=>obtain⟨t,q⟩:=(show ∃ t,u=R_ y t from rx);cases q;exact Oq Ui I.gC Pb e (λz=>nomatch z) h
 | CA y=>obtain⟨t,q⟩:=(show ∃ t,u=SK y t from rx);cases q;exact Oq Tg I.gC Pb e (λz=>nomatch z) h
 | @lst a xs ea =>
  cases (show u=NB a from rx);obtain⟨_,_,n,_,h1⟩:=(show bS X.prog X.w H s.heap a (.lst xs) from I.bw a _ ea)
  exact Oq QO I.gC ⟨_,h1,rfl⟩ e (λz=>nomatch z) h
 | @ny a ob xs ea =>
  cases (show u=NB a from rx);obtain⟨_,_,_,n,_,h1⟩:=(show bS X.prog X.w H s.heap a (.ny ob (.lst xs)) from I.bw a _ ea)
  exact Oq QO I.gC ⟨_,h1,rfl⟩ e (λz=>nomatch z) h
 | @tup a xs ea =>
  cases (show u=NB a from rx);obtain⟨_,_,_,p⟩:=(show bS X.prog X.w H s.heap a (.tup xs) from I.bw a _ ea)
  obtain⟨o,h1,h2,_⟩:=p;exact Oq Th I.gC ⟨o,h1,h2⟩ e (λz=>nomatch z) h
 | @dK a Kf ea =>
  cases (show u=NB a from rx);obtain⟨_,_,vs,_,p⟩:=(show bS X.prog X.w H s.heap a (.dK Kf) from I.bw a _ ea)
  obtain⟨o,es,ep,h1,h2,_⟩:=p;exact Oq QS I.gC ⟨o,h1,h2.1⟩ e (λz=>nomatch z) h
 | @dT a Kf ea =>
  cases (show u=NB a from rx);obtain⟨_,_,xs,_,o,es,ep,h1,h2,_⟩:=(show bS X.prog X.w H s.heap a (.dT Kf) from I.bw a _ ea)
  exact Oq QS I.gC ⟨o,h1,h2.1⟩ e (λz=>nomatch z) h
 | @ins a C dx fs ea cl ha hn Fj hm =>
  cases (show u=NB a from rx);obtain⟨mA,O,_⟩:=jG I.bw ea;obtain⟨od,J,_⟩:=O.look;exact Oq (Uj (cl.get _) cl.hd ha hn Fj hm) I.gC J e (λz=>nomatch z) h
end
structure bR (k:Nat) (A:Around):Prop where
 hd:A.handled=none
 dp:A.depth+3*k+5<recursionLimit
 un:A.units+16*k+200<cLine
theorem bR.mono{j:Nat}(r:bR k A)(h:j<=k):bR j A:=⟨r.hd,by have:=r.dp;lia,by have:=r.un;lia⟩
theorem bR.deeper{k:Nat}{A:Around}(r:bR (k+1) A)(env:Env):bR k (A.deeper env) :=
 ⟨r.hd,by have:=r.dp;show A.depth+1+3*k+5<_;lia,by have:=r.un;show A.units+3+16*k+200<_;lia⟩
theorem t4:(A.under (.builtin "type.__call__" ⟨.ref C::us,kw⟩)).depth=A.depth+1:=by
 first | rfl | simp[TX,Code.weight,Code.isCreation,Code.isGuard,Code.isCaller,Code.frames,TY,guardIds]
theorem sZ:(A.under (.builtin "type.__call__" ⟨.ref C::us,kw⟩)).units=A.units+1:=by
 first | rfl | simp[TX,Code.cUnits,Code.frames,TY]
theorem bR.make(r:bR (k+1) A)(C:Addr)(us:List Value)(kw:List (Str×Value)):bR k (A.under (.builtin "type.__call__" ⟨.ref C::us,kw⟩)) :=
 ⟨r.hd,by have:=r.dp;rw[t4];lia,by have:=r.un;rw[sZ];lia⟩
theorem bR.depth{k:Nat}{A:Around}(r:bR k A):A.depth<recursionLimit:=by have:=r.dp;lia
theorem bR.units{k:Nat}{A:Around}(r:bR k A):A.units+64<cLine:=by have:=r.un;lia
def FY:TA:=λ_ H Q=>Q [] H
def Gn(ta:TE)(tr:TA):TA:=fun σ H Q=>ta σ H λx H1=>tr σ H1 λxs H2=>Q (x::xs) H2
variable{t:TA}
theorem iF:PA X [] FY:=λ_ _ _ _ H Q I h=>Calls.spliced_nil ⟨[],H,I,.nil,h⟩
theorem c_(ha:PE X e te)(hr:PA X es t)(hs:autoParam (starEach (e::es) X.env=(false,eval e X.env)::starEach es X.env) aR._auto_1):PA X (e::es) (Gn te t):=by
 intro pos J0 s σ H Q I h;rw[hs];show wpAny _ _ (spliced ((false,eval e X.env)::backTo pos (starEach es X.env))) _ _ s;refine Calls.spliced_cons (cA (ha J0 s σ H _ I h) λu s1 ⟨x,H1,I1,r1,q1⟩=>?_);exact cA (hr pos J0 s1 σ H1 _ I1 q1) λus s2 ⟨xs,H2,I2,r2,q2⟩=>⟨x::xs,H2,I2,.cons r1 r2,q2⟩
def Je(t:TA):TE:=fun σ H Q=>t σ H λxs H1=>xs.length<=sizeLine/\∀ p,H1 p=none->Q (.ref p) (upd H1 p (.tup xs))
def IW(t:TA):TE:=fun σ H Q=>t σ H λxs H1=>xs.length<=sizeLine/\∀ p,H1 p=none->Q (.ref p) (upd H1 p (.lst xs))
theorem yz{x1}(h:PA X es t):PE X (.Tuple es x1 pos) (Je t):=by
 intro J0 s σ H Q I hq;refine wpAny_Tuple_spliced (cA (h pos J0 s σ H _ I hq) λus s1 ⟨xs,H1,I1,r,z,q⟩=>⟨by rw[<- r.length];exact z,?_⟩);have hf:H1 s1.heap.objs.size=none:=I1.bw.fresh (NC _);refine⟨.ref s1.heap.objs.size,upd H1 s1.heap.objs.size (.tup xs),I1.laid (t':=s1.toks) (λb u e=>Nq _ e) (NC _) ?_,rfl,q _ hf⟩;exact⟨z,us,r,⟨_,Ny _ rfl,rfl,_,rfl⟩⟩
theorem x_(h:PA X es t):PE X (.List es pos) (IW t):=by
 intro J0 s σ H Q I hq;refine wpAny_List_spliced (cA (h pos J0 s σ H _ I hq) λus s1 ⟨xs,H1,I1,r,z,q⟩=>⟨by rw[<- r.length];exact z,?_⟩);have hf:H1 s1.heap.objs.size=none:=I1.bw.fresh (NC _);refine⟨.ref s1.heap.objs.size,upd H1 s1.heap.objs.size (.lst xs),I1.laid (t':=s1.toks) (λb u e=>Nq _ e) (NC _) ?_,rfl,q _ hf⟩;exact⟨z,us,0,r,Ny _ rfl⟩
abbrev Sp:=List V->Hp->VK->XK->Prop
abbrev C8:=List Env->Hp->Shared->XK->Value->Shared->Prop
structure rO (P:Program) (w:World) (K:Nr) (mg:Str->Option Value) (base:Heap) (A:Around) (outer:List Env) (s:Shared) (H:Hp):Prop where
 frames:A.frames=some outer
 mod:Mod K mg base
 bs:∀ b o,base.get? b=some o->s.heap.get? b=some o/\H b=none
 wI:base.objs.size<=s.heap.objs.size
 i5:s.heap.FunFrames base outer
 zS:∀ b∈sE outer,H b=none
 bw:j9 P w H s.heap
 bare:AllBare s.gens
def CE(outer:List Env)(P:Program)(w:World)(H:Hp)(s:Shared)(Q:VK)(u:Value)(s':Shared):Prop :=
 ∃ v H',s'.os=s.os/\AllBare s'.gens/\Un (sE outer) [] H H' s.heap s'.heap/\j9 P w H' s'.heap/\RelV v u/\Q v H'
def CR(CX:C8)(outer:List Env)(P:Program)(w:World)(H:Hp)(s:Shared)(Q:VK)(E:XK)(r:Result)(s':Shared):Prop :=
 match r with
 | .ok (.ret u)=>CE outer P w H s Q u s'
 | .ok _=>False
 | .error e=>CX outer H s E e s'
structure bj (P:Program) (w:World) (K:Nr) (mg:Str->Option Value) (base:Heap) (CX:C8) (k:Nat) (f:Addr) (fd:FuncData) (ps:List Str) (sp:Sp):Prop where
 len:∀ vs H Q E,sp vs H Q E->vs.length=ps.length
 run:∀ (A:Around) (outer:List Env) (s:Shared) (H:Hp) (args:Args) (us:List Value) (vs:List V) (Q:VK) (E:XK),bR k A->rO P w K mg base A outer s H->BindsTo s fd args (ps.zip us)->Vals vs us->sp vs H Q E ->
  codeAny (model P w) A (.call (.ref f) args) (CR CX outer P w H s Q E) s
variable{outer:List Env}{base:Heap}{mg:Str->Option Value}
theorem rO.make{K:Nr}(e:rO P w K mg base A outer s H)(C:Addr)(us:List Value)(kw:List (Str×Value)) :
  rO P w K mg base (A.under (.builtin "type.__call__" ⟨.ref C::us,kw⟩)) outer s H:=⟨by first | exact e.frames | (simpa [TX,Code.envs,TY,pushEnvs] using e.frames),e.mod,e.bs,e.wI,e.i5,e.zS,e.bw,e.bare⟩
section
variable{s':Shared}
theorem Inv.jx(I:Inv X J0 σ H s):rO X.prog X.w X.K X.mg X.base X.A X.stack s H :=
 ⟨I.ok.frames,I.ok.mod,I.bs,NZ I.ok.wI I.sz,I.stack,I.pk,I.bw,I.bare⟩
theorem Inv.after{Q:VK}(I:Inv X J0 σ H s)(h:CE X.stack X.prog X.w H s Q u s'):EP X J0 σ Q u s':=by
 obtain⟨v,H',os,bare,un,bw,r,q⟩:=h;obtain⟨hh,g,d,t,os'⟩:=s';obtain rfl:os'=s.os:=os;exact⟨v,H',I.call (h':=hh) (g':=g) (d':=d) (t':=t) (ch:=[]) un bw bare (λb z=>absurd z (by simp)),r,q⟩
end
def Binds(K:Nr)(fd:FuncData)(ps:List Str)(ds:List Value):Prop :=
 ∀ (s:Shared) (us:List Value),K.In s.heap->(us++ds).length=ps.length->BindsTo s fd ⟨us,[]⟩ (ps.zip (us++ds))
variable{ps:List Str}{fd:FuncData}
theorem Binds.all{K:Nr}(h:∀ us:List Value,us.length=ps.length->bindArgs fd ⟨us,[]⟩=pure (ps.zip us)):Binds K fd ps []:=λs us _ hl=>by
 rw[Og] at hl ⊢;exact .of_eq (h us hl)
variable{sp:Sp}{CX:C8}
section
variable{f:Addr}{Kw:List V}{ds:List Value}{E:XK}{x:Str}{p apos:Pos}{o:Expr}
structure Mk (K:Nr) (C f:Addr):Prop where
 makes:UB K C=true
 init:N1 K (.ref C) "__init__" = some (some (.ref f))
 fn:P1 K (.ref f)=true
 kp:Oi K (.ref C)=true
end
section
variable{f:Addr}{ks:List Str}{E:XK}{x:Str}{p apos kpos:Pos}{o:Expr}{kws:List Keyword}{tk:TA}{nm:Option Str}
variable{g:List Value->List Value->List Value}{gV:List V->List V->List V}
end
structure bx (N P:List Str) (sc:Scope):Prop where
 kind:sc.kind=.function
 co:sc.isCoroutine=false
 gen:sc.isGenerator=false
 nd:N.Nodup
 pre:N.take P.length=P
 par:∀ x∈P,sc.names.lookup x=some .local\/sc.names.lookup x=some .cell
 CY:∀ y∈sc.names,y.2≠.free
theorem o5{kindOf:Str->Option NameKind}{x:Str}:∀ {binds:List (Str×Value)} {m:Str->Option Value},(∀ v,(x,v) ∉ binds)->bindL kindOf binds m x=m x
 | [],_,_=>rfl
 | (n,v)::r,m,h=>by
  unfold bindL;rw[o5 λw hw=>h w (NH _ hw)]
  split
  .have:x≠n:=by rintro rfl;exact h v NU
   simp[this]
  .rfl
theorem oM{kindOf:Str->Option NameKind}{x:Str}:∀ {binds:List (Str×Value)} {m:Str->Option Value},(∀ v,(x,v) ∉ binds)->bindC kindOf binds m x=m x
 | [],_,_=>rfl
 | (n,v)::r,m,h=>by
  unfold bindC;rw[oM λw hw=>h w (NH _ hw)]
  split
  .rfl
  .have:x≠n:=by rintro rfl;exact h v NU
   simp[this]
theorem ou{kindOf:Str->Option NameKind}{x:Str}{v:Value}:∀ {P:List Str} {vs:List Value} {i:Nat} {m:Str->Option Value},P.Nodup->P[i]?=some x->vs[i]?=some v->kindOf x=some .local ->
  bindL kindOf (P.zip vs) m x=some v
 | [],_,_,_,_,h,_,_=>by simp at h
 | _::_,[],_,_,_,_,h,_=>by simp at h
 | p::P,w::vs,0,m,nd,h1,h2,hk=>by
  simp at h1 h2;subst h1;subst h2;show bindL kindOf ((p,w)::P.zip vs) m p=_;unfold bindL;rw[o5 λv hv=>(Rp.mp nd).1 (O1 hv).1,if_pos hk];simp
 | p::P,w::vs,i+1,m,nd,h1,h2,hk=>by
  show bindL kindOf ((p,w)::P.zip vs) m x=_;unfold bindL;exact ou (i:=i) (Rp.mp nd).2 (by simpa using h1) (by simpa using h2) hk
theorem oO{kindOf:Str->Option NameKind}{x:Str}{v:Value}:∀ {P:List Str} {vs:List Value} {i:Nat} {m:Str->Option Value},P.Nodup->P[i]?=some x->vs[i]?=some v->kindOf x≠some .local ->
  bindC kindOf (P.zip vs) m x=some v
 | [],_,_,_,_,h,_,_=>by simp at h
 | _::_,[],_,_,_,_,h,_=>by simp at h
 | p::P,w::vs,0,m,nd,h1,h2,hk=>by
  simp at h1 h2;subst h1;subst h2;show bindC kindOf ((p,w)::P.zip vs) m p=_;unfold bindC;rw[oM λv hv=>(Rp.mp nd).1 (O1 hv).1,if_neg hk];simp
 | p::P,w::vs,i+1,m,nd,h1,h2,hk=>by
  show bindC kindOf ((p,w)::P.zip vs) m x=_;unfold bindC;exact oO (i:=i) (Rp.mp nd).2 (by simpa using h1) (by simpa using h2) hk
def start(N:List Str)(vs:List V):St:=vs.map some++Nv (N.length-vs.length) none
def jh(CX:C8)(P:Program)(w:World)(K:Nr)(mg:Str->Option Value)(base:Heap)(N:List Str)(qual:Str)(scope:Scope)(f:Addr)(cd:Value)(A:Around)(outer:List Env)(s:Shared)(H:Hp)(E:XK):Cx where
 prog:=P
 w:=w
 K:=K
 mg:=mg
 base:=base
 A:=A.deeper (envOfC qual scope s.heap.objs.size f cd)
 N:=N
 s₀:=s
 H₀:=H
 env:=envOfC qual scope s.heap.objs.size f cd
 outer:=outer
 stack:=envOfC qual scope s.heap.objs.size f cd::outer
 ex:=[]
 calm:=true
 fn:=λ_=>true
 pn:=[]
 xe:=λe s'=>wpAny (model P w) (A.deeper (envOfC qual scope s.heap.objs.size f cd)) (leaving (envOfC qual scope s.heap.objs.size f cd) e) (λ_ s''=>CX outer H s E e s'') (λe' s''=>CX outer H s E e' s'') s'
theorem qC{sc:Scope}{x:Str}(h:sc.names.lookup x=some .cell):∃ c,(cellsFrom n sc.names []).lookup x=some c:=by
 have q:=QT sc.names n [] (.inl h);exact Qx.mp q
variable{scope:Scope}
theorem oV{K:Nr}{qual:Str}{f:Addr}{cd:Value}{s1:Shared}{E:XK}{vs:List V}
  (S:bx N ps scope) (hd:A.handled=none) (e0:rO P w K mg base A outer s H) (hl:vs.length=ps.length) (r:Vals vs us)
  (x:InCallC s s.heap.objs.size (bindL (envOfC qual scope s.heap.objs.size f cd).kindOf (ps.zip us) λ_=>none) (cellsFrom (s.heap.objs.size+1) scope.names []) (bindC (envOfC qual scope s.heap.objs.size f cd).kindOf (ps.zip us) λ_=>none) s1) :
  Inv (jh CX P w K mg base N qual scope f cd A outer s H E) [] (start N vs) H s1:=by
 have Ka:ps.length<=N.length:=by have:=congrArg R0 S.pre;rw[Pj] at this;lia
 obtain⟨h1,tk,rfl,hk⟩:=x.done;have ub:∀ b:Addr,b ∉ (jh CX P w K mg base N qual scope f cd A outer s H E).ex:=λb z=>absurd (show b∈([]:List Addr) from z) (by simp);refine⟨⟨e0.mod,S.kind,rfl,rfl,NC _,λy z c h1 h2=>?_,λy hy=>?_,λy c _ h=>?_,λ_=>hd,Around.frames_deeper e0.frames,.inr ⟨rfl,rfl⟩,λb z=>absurd z (ub b),e0.bs,e0.wI,λb _ _=>ub b,λb z=>absurd z (ub b),e0.i5,e0.zS⟩,
  rfl,e0.bare,Un.kept hk,⟨_,x.toInCall.ns,λi y v h1 h2 h3=>?_⟩,λy c h=>⟨_,x.cell y c h⟩,e0.bw.fresh (NC _),λy c h=>?_,λp hp=>absurd (show p∈([]:List (Addr×Obj)) from hp) (by simp),e0.bw.kept hk,?_⟩
 .exact name_of_addr x.apart (PN h1) (PN h2)
 .have hy:scope.names.lookup y=some .cell\/scope.names.lookup y=some .free:=hy;rcases hy with hy | hy
  .exact qC hy
  .exact absurd rfl (S.CY _ (PN hy))
 .exact QL (x.above y c (PN h))
 .have hi:i<vs.length:=by
   unfold start at h2
   by_cases hi:i<vs.length
   .exact hi
   .rw[N2 (by simpa using hi)] at h2;rw[QI] at h2
    split at h2 <;> cases h2
  have ha:vs[i]?=some v:=by
   unfold start at h2;rw[N9 (by simpa using hi),NT] at h2;cases e:vs[i]? with
   | none=>rw[e] at h2;cases h2
   | some a=>rw[e] at h2;cases h2;rfl
  obtain⟨u,hu,rv⟩:=r.get ha;have hp:ps[i]?=some y:=by
   rw[<- S.pre,PK (by lia)];exact h1
  have ndP:ps.Nodup:=by rw[<- S.pre];exact S.nd.sublist (List.take_sublist _ _)
  refine⟨u,rv,?_⟩;rcases S.par y (SN hp) with k | k
  .exact .inl ⟨k,ou ndP hp hu k⟩
  .obtain⟨c,e⟩:=qC (n:=s.heap.objs.size+1) k;refine .inr ⟨.inl k,c,e,?_⟩;have q:=x.cell y c e;rw[oO ndP hp hu (by show scope.names.lookup y≠_;rw[k];decide)] at q;exact q
 .exact e0.bw.fresh (QL (x.above y c (PN h)))
 .unfold start;show _=N.length;rw[NO,Nu,Q4];lia
theorem Fx{K:Nr}{f:Addr}{name qual:Str}{params:Arguments}{dV kV doc pm J8 ct oc:Value}{an od:Option Addr}
  {LW:Array (Option Value)} (lk:K.lookup f=some ⟨oc,od,.func (OE name qual params body scope dV kV doc pm an J8 ct),LW⟩) (KC:O9 K J8 qual=true) (S:bx N ps scope)
  (len:∀ vs H Q E,sp vs H Q E->vs.length=ps.length)
  (L4:∀ (A:Around) (outer:List Env) (s:Shared) (H:Hp) (vs:List V) (Q:VK) (E:XK),bR k (A.deeper (envOfC qual scope s.heap.objs.size f J8))->sp vs H Q E ->
   ∃ t,iG (jh CX P w K mg base N qual scope f J8 A outer s H E) body t/\t { nx:=λ_ H'=>Q .bz H',rt:=Q } (start N vs) H) :
  bj P w K mg base CX (k+1) f (OE name qual params body scope dV kV doc pm an J8 ct) ps sp:=by
 refine⟨len,λA outer s H args us vs Q E hr e0 hb r hsp=>?_⟩;have hl:=len _ _ _ _ hsp;have KX:K.In s.heap:=e0.mod.CM.keeps λb o e=>(e0.bs b o e).1;have lim:s.heap.NoLimit:=e0.mod.nolimit.keeps λb o e=>(e0.bs b o e).1;have L9:∀ y∈ps.zip us,scope.names.lookup y.1=some .local\/(scope.names.lookup y.1=some .cell/\((cellsFrom (s.heap.objs.size+1) scope.names []).lookup y.1).isSome=true):=λ⟨n,v⟩ hy=>by
  rcases S.par n (O1 hy).1 with q | q
  .exact .inl q
  .exact .inr ⟨q,QT _ _ _ (.inl q)⟩
 refine SE hr.depth (KX _ _ lk) rfl S.co S.gen rfl (Ti KX KC) (hb _ _ _ _ ?_);refine RI S.kind L9 λenv he s1 x=>?_;subst he;refine⟨lim.keeps x.toInCall.keep,codeAny_func ?_⟩;obtain⟨t,ht,hq⟩:=L4 A outer s H vs Q E (hr.deeper _) hsp;have I:Inv (jh CX P w K mg base N qual scope f J8 A outer s H E) [] (start N vs) H s1:=oV S hr.hd e0 hl r x;refine OP (ht [] s1 (start N vs) H _ I hq) (λfl s' hs=>?_) λe s' hs=>hs;have fin:∀ {σ':St} {H':Hp} {v:V} {u:Value},Inv (jh CX P w K mg base N qual scope f J8 A outer s H E) [] σ' H' s'->RelV v u->Q v H'->CE outer P w H s Q u s' :=
  λ{σ' H' v u} J rv q=>⟨v,H',J.os,J.bare,J.base,J.bw,rv,q⟩
 cases fl with
 | ret u =>
  obtain⟨v,σ',H',J,rv,q⟩:=hs;exact fin J rv q
 | next =>
  obtain⟨σ',H',J,q⟩:=hs;exact fin (v:=V.bz) (u:=Ob) J rfl q
 | brk =>
  obtain⟨_,_,_,q⟩:=hs;exact OA q
 | cont =>
  obtain⟨_,_,_,q⟩:=hs;exact OA q
section
variable{x:Str}{p:Pos}{id T:String}{r:List V->Hp->VK->Prop}
def ID(r:List V->Hp->VK->Prop)(t:TA):TE:=fun σ H Q=>t σ H λvs H1=>r vs H1 Q
theorem il(hc:cL X (.builtin id) r)(hg:Gl X x)(hm:X.mg x=none)(hv:bootBuiltins x=some (.builtin id))(ha:PA X (e::es) t)(hn:autoParam (x ≠ "__name__") aD._auto_1)(KA:autoParam ((x==("__debug__" : Str))=false) aD._auto_1)
  (he:autoParam (starEach (e::es) X.env=(false,eval e X.env)::starEach es X.env) aR._auto_1) (Ka:autoParam ((backTo pos (starEach es X.env)).any (·.1)=false) aR._auto_1):PE X (.Call (.Name x p) (e::es) [] pos) (ID r t):=by
 intro J0 s σ H Q I h;refine Po (jf I hg hm hv ?_ hn KA);exact PyProof.Rows.callWith_builtin1 (cA (ha pos J0 s σ H _ I h) λus s1 ⟨vs,H1,I1,r1,q1⟩=>hc J0 s1 σ H1 vs us Q I1 r1 q1) he Ka
theorem oZ(hc:cL X (.type T) r)(hg:Gl X x)(hm:X.mg x=none)(hv:bootBuiltins x=some (.type T))(ha:PA X (e::es) t)(hn:autoParam (x ≠ "__name__") aD._auto_1)(KA:autoParam ((x==("__debug__" : Str))=false) aD._auto_1)
  (he:autoParam (starEach (e::es) X.env=(false,eval e X.env)::starEach es X.env) aR._auto_1) (Ka:autoParam ((backTo pos (starEach es X.env)).any (·.1)=false) aR._auto_1):PE X (.Call (.Name x p) (e::es) [] pos) (ID r t):=by
 intro J0 s σ H Q I h;refine Po (jf I hg hm hv ?_ hn KA);exact OV (cA (ha pos J0 s σ H _ I h) λus s1 ⟨vs,H1,I1,r1,q1⟩=>hc J0 s1 σ H1 vs us Q I1 r1 q1) he Ka
end
end L2
namespace HT
open PySem PyProof.Rows
section
open PySem.SeqAt
open PySem.AutoSeq1 (wpAny_loadPart')
open PySem.MeetsSeq PySem.MeetsSeq2 PySem.MeetsSeq3
end
variable{Q:Value->Shared->Prop}
section
variable{prog:Program}{w:World}{A:Around}{E:Value->Shared->Prop}{s:Shared}
theorem B0{t b:Addr}{vs ws:List Value}(ht:IsTup s.heap t vs.toArray)(hb:IsTup s.heap b ws.toArray)(hv:vs≠[])
  (h1:ws=[]->Q (.ref t) s) (h2:ws≠[]->Q (.ref s.heap.objs.size) { s with heap:=s.heap.push { cls:=.type "tuple", data:=.seq (vs++ws).toArray } })
  (K7:vs.length+ws.length<=sizeLine):wpAny (model prog w) A (binaryOp .Add (.ref t) (.ref b)) Q E s:=by
 obtain⟨⟨cls,dd,data,sl⟩,ho,hc,n,hd⟩:=id ht;obtain⟨⟨cls2,MS,data2,sl2⟩,LQ,MZ,n2,hd2⟩:=id hb;simp only at hc hd MZ hd2;subst hc hd MZ hd2;have e:vs.toArray++ws.toArray=(vs++ws).toArray:=by simp
 by_cases hw:ws=[]
 .exact TZ ⟨_,ho,rfl⟩ ⟨_,LQ,rfl⟩ Sb S9 QU QJ (Qy _ _)
   (tuple_addW1 t b vs.toArray ws.toArray n n2 dd MS sl sl2 (by simpa using hv) (by simp[hw])) ⟨ho,LQ,h1 hw⟩
 .refine TZ ⟨_,ho,rfl⟩ ⟨_,LQ,rfl⟩ Sb S9 QU QJ (Qy _ _)
   (tuple_addW2 t b vs.toArray ws.toArray n n2 dd MS sl sl2 (by simpa using hv) (by simpa using hw) (by rw[ND,ND];exact K7)) ⟨ho,LQ,?_⟩
  rw[e];exact h2 hw
def cS(n d:Nat):Option Int->Nat
 | none=>d
 | some v=>if v<0 then (v+(n:Int)).toNat else min v.toNat n
theorem l4(n d:Nat):cS n d none=d:=rfl
theorem lC(n d k:Nat):cS n d (some (k:Int))=min k n:=by
 show (if (k:Int)<0 then ((k:Int)+(n:Int)).toNat else min (k:Int).toNat n)=min k n;rw[if_neg (by lia),Ox]
theorem EZ(n d:Nat)(hd:d<=n)(o:Option Int):cS n d o<=n:=by
 cases o with
 | none=>exact hd
 | some v =>
  show (if v<0 then (v+(n:Int)).toNat else min v.toNat n)<=n
  by_cases hv:v<0
  .rw[if_pos hv];lia
  .rw[if_neg hv];exact Qn _ _
theorem ve(v:Int)(n d:Nat):(if v<0 then max (v+(n:Int)) 0 else min v (n:Int))=((cS n d (some v):Nat):Int):=by
 show (if v<0 then max (v+(n:Int)) 0 else min v (n:Int))=(((if v<0 then (v+(n:Int)).toNat else min v.toNat n):Nat):Int)
 by_cases hv:v<0
 .simp only[if_pos hv];lia
 .simp only[if_neg hv];lia
theorem tZ(lo hi:Option Int)(n:Nat):Qu lo hi 1 (n:Int)=(((cS n 0 lo:Nat):Int),((cS n n hi:Nat):Int)):=by
 have h1:¬ ((1:Int)<0):=by lia
 unfold Qu;simp only[h1,if_false];refine Prod.ext ?_ ?_
 .cases lo with
  | none=>rfl
  | some v=>exact ve v n 0
 .cases hi with
  | none=>rfl
  | some v=>exact ve v n n
theorem sV(i j:Nat):Px (i:Int) (j:Int) 1=j-i:=by
 unfold Px;have h1:(1:Int)>0:=by lia
 simp only[h1,if_true,Int.ediv_one]
 split <;> lia
theorem mP{v:Value}{o:Option Int}{Q:Option Int->Shared->Prop}(p:IsPart v o)(h:Q o s):wpAny (model prog w) A (Builtin.Slice.slicePartIndex v) Q E s:=by
 cases p with
 | none=>exact slicePart_none h
 | int i t=>exact slicePart_int h
theorem gA{sl:Addr}{vl vu:Value}{lo hi:Option Int}{n:Nat}{Q:Int×Int×Nat->Shared->Prop}(hs:s.heap.IsSliceOf sl vl vu .none)(pl:IsPart vl lo)(pu:IsPart vu hi)
  (h:Q (((cS n 0 lo:Nat):Int),1,cS n n hi-cS n 0 lo) s):wpAny (model prog w) A (RJ (.ref sl) (pure (n:Int))) Q E s:=by
 obtain⟨os,MF,hcs,M1⟩:=id hs;unfold RJ Builtin.Slice.sliceFields;refine Np (Np (NV MF M1 (x:=vl) rfl (Np (NV MF M1 (x:=vu) rfl (Np (NV MF M1 (x:=.none) rfl (Nx ?_)))))));refine Np (slicePart_none ?_);show wpAny _ _ (if ((1:Int)==0)=true then _ else _) _ _ s;rw[if_neg (by decide)];refine Np (mP pl (Np (mP pu (Np (Nx ?_)))));show wpAny _ _ (match Qu lo hi 1 (n:Int) with | (lo,hi)=>pure (lo,(1:Int),Px lo hi 1)) _ _ s;rw[tZ lo hi n];show wpAny _ _ (pure (((cS n 0 lo:Nat):Int),(1:Int),Px ((cS n 0 lo:Nat):Int) ((cS n n hi:Nat):Int) 1)) _ _ s;rw[sV];exact Nx h
theorem xH(xs:Array Value)(i k:Nat):((Oz k).filterMap λ(m:Nat)=>xs[((i:Int)+(m:Int)*1).toNat]?).toArray=((xs.toList.drop i).take k).toArray:=by
 have e:(λ(m:Nat)=>xs[((i:Int)+(m:Int)*1).toNat]?)=λm=>xs[i+m]?:=by
  funext m
  have:((i:Int)+(m:Int)*1).toNat=i+m:=by lia
  rw[this]
 rw[e];have:=pick_run xs i k;rw[List.filterMap_map] at this;have e2:((λx=>xs[x]?)∘λx=>i+x)=λm=>xs[i+m]?:=rfl;rw[e2] at this;rw[this]
theorem j1{t sl:Addr}{items:Array Value}{vl vu:Value}{lo hi:Option Int}(ht:IsTup s.heap t items)(hs:s.heap.IsSliceOf sl vl vu .none)(pl:IsPart vl lo)(pu:IsPart vu hi)
  (hw:¬ (cS items.size 0 lo=0/\cS items.size items.size hi=items.size))
  (h:Q (.ref s.heap.objs.size) { s with heap:=s.heap.push { cls:=.type "tuple", data:=.seq ((items.toList.drop (cS items.size 0 lo)).take (cS items.size items.size hi-cS items.size 0 lo)).toArray } })
  (K7:items.size<=sizeLine):wpAny (model prog w) A (getItem (.ref t) (.ref sl)) Q E s:=by
 have LL:sizeOk (.seq ((items.toList.drop (cS items.size 0 lo)).take (cS items.size items.size hi-cS items.size 0 lo)).toArray):=by
  show ((items.toList.drop (cS items.size 0 lo)).take (cS items.size items.size hi-cS items.size 0 lo)).toArray.size<=sizeLine;rw[ND,Pj,PY,Rx];lia
 have hj:cS items.size items.size hi<=items.size:=EZ _ _ (NC _) hi;obtain⟨os,MF,hcs,M1⟩:=id hs;have hTs:s.TypeIs (.ref sl) "slice" := ⟨os,MF,hcs⟩
 unfold getItem
 try with_reducible refine O6 ?_
 first | refine Np (Nx ?_) | skip
 refine Np (T3 ht.typeIs (by decide) ?_);refine Np (Of (name:=NF "__getitem__") ht.typeIs Ol
  (OS Ol ht.typeIs S4 ?_ (Tj _ _)))
 show wpAny _ _ (RK (.ref t) >>= _) _ _ s;refine Np (tupleItemsOf_ ht ?_);refine Np (T4 hTs ?_);rw[if_pos (by decide)];refine Np (gA hs pl pu ?_);have hno:¬ ((((cS items.size 0 lo:Nat):Int)==0&&(1:Int)==1&&(cS items.size items.size hi-cS items.size 0 lo)==items.size)=true):=by
  intro q;rw[Ou,Ou] at q;have q1:((cS items.size 0 lo:Nat):Int)=0:=eq_of_beq q.1.1;have q2:cS items.size items.size hi-cS items.size 0 lo=items.size:=eq_of_beq q.2;exact hw ⟨by lia,by lia⟩
 show wpAny _ _ (if (((cS items.size 0 lo:Nat):Int)==0&&(1:Int)==1&&(cS items.size items.size hi-cS items.size 0 lo)==items.size)=true then _ else _) _ _ s;rw[if_neg hno,xH]
 first
  | exact Np (m:=PL _) (OI (Nx ⟨_,rfl,Nx h⟩) LL)
  | exact Np (m:=PL _) (OI (Np (Nx (Nx ⟨_,rfl,Nx h⟩))) LL)
  | exact Np (Np (m:=PL _) (OI (Nx (Nx ⟨_,rfl,Nx h⟩)) LL))
  | exact Np (Np (m:=PL _) (OI (Nx ⟨_,rfl,Nx h⟩) LL))
end
end HT
namespace L2
open PySem PySem.Spec PyProof.Rows
abbrev TO:=St->Hp->(Option Int->Hp->Prop)->Prop
def PO(X:Cx)(e:Option Expr)(t:TO):Prop :=
 ∀ (J0:List (Addr×Obj)) (s:Shared) (σ:St) (H:Hp) (Q:Option Int->Hp->Prop),Inv X J0 σ H s->t σ H Q ->
  wpAny (model X.prog X.w) X.A (evalPart e X.env) (λu s'=>∃ o H',Inv X J0 σ H' s'/\IsPart u o/\Q o H') X.xe s
def Ab:TO:=λ_ H Q=>Q none H
def GD(t:TE):TO:=fun σ H Q=>t σ H λx H1=>∃ i,x=.int i/\Q (some i) H1
theorem intsAre_of{ns:List Int}:∀ {us:List Value},Vals (ns.map V.int) us->IntsAre us ns:=by
 induction ns with
 | nil=>intro us r;rw[Qp] at r;cases r;exact .nil
 | cons n ns ih =>
  intro us r;rw[NX] at r;cases r with
  | cons r1 r2 =>
   obtain⟨t,e⟩:=r1;subst e;exact .cons n t (ih r2)
variable{pos:Pos}{e:Expr}{X:Cx}
variable{r:V->Option Int->Option Int->Hp->VK->Prop}
variable{xs:List V}
section
variable{te:TE}{lo hi:Option Expr}{tl th:TO}{p2:Pos}
theorem Bw:PO X none Ab:=by
 intro J0 s σ H Q I h;rw[evalPart_none];exact Nx ⟨none,H,I,.none,h⟩
theorem Bc(h:PE X e te):PO X (some e) (GD te):=by
 intro J0 s σ H Q I hw;rw[evalPart_some];refine cA (h J0 s σ H _ I hw) λu s1 ⟨x,H1,I1,r1,q1⟩=>?_;obtain⟨i,rfl,q⟩:=q1;obtain⟨t,rfl⟩:=r1;exact⟨some i,H1,I1,.int i t,q⟩
def z_(X:Cx)(r:V->Option Int->Option Int->Hp->VK->Prop):Prop :=
 ∀ (J0:List (Addr×Obj)) (s:Shared) (σ:St) (H:Hp) (x:V) (v vl vu:Value) (lo hi:Option Int) (sl:Addr) (Q:VK),Inv X J0 σ H s->RelV x v->s.heap.IsSliceOf sl vl vu .none->IsPart vl lo->IsPart vu hi->r x lo hi H Q ->
  ∃ T id,typeLookup (.type T) "__getitem__" = pure (some (.builtin id))/\s.TypeIs v T/\wpAny (model X.prog X.w) X.A (getItem v (.ref sl)) (EP X J0 σ Q) X.xe s
theorem z_.or{r':V->Option Int->Option Int->Hp->VK->Prop}(h:z_ X r)(h':z_ X r'):z_ X (λx lo hi H Q=>r x lo hi H Q\/r' x lo hi H Q):=by
 intro J0 s σ H x v vl vu lo hi sl Q I rx hs pl pu q;rcases q with q | q
 .exact h J0 s σ H x v vl vu lo hi sl Q I rx hs pl pu q
 .exact h' J0 s σ H x v vl vu lo hi sl Q I rx hs pl pu q
def JV(r:V->Option Int->Option Int->Hp->VK->Prop)(te:TE)(tl th:TO):TE:=fun σ H Q=>te σ H λx H1=>tl σ H1 λl H2=>th σ H2 λu H3=>r x l u H3 Q
theorem xi(hr:z_ X r)(he:PE X e te)(hl:PO X lo tl)(hu:PO X hi th):PE X (.Subscript e (.Slice lo hi none p2) pos) (JV r te tl th):=by
 intro J0 s σ H Q I h;refine Subscript_ (cA (he J0 s σ H _ I h) λv s1 ⟨x,H1,I1,r1,q1⟩=>?_);refine wpAny_Slice (cA (hl J0 s1 σ H1 _ I1 q1) λvl s2 ⟨l,H2,I2,pl,q2⟩=>cA (hu J0 s2 σ H2 _ I2 q2) λvu s3 ⟨u,H3,I3,pu,q3⟩=>?_);rw[evalPart_none];refine Nx ?_;have I4:Inv X J0 σ H3 { s3 with heap:=s3.heap.push { cls:=.type "slice", data:=.fields #[vl,vu,.none] } }:=I3.kept (t':=s3.toks) λb ob q=>Nq _ q;obtain⟨T,id,hT,ht,hg⟩:=hr J0 { s3 with heap:=s3.heap.push { cls:=.type "slice", data:=.fields #[vl,vu,.none] } } σ H3 x v vl vu l u s3.heap.objs.size Q I4 r1 (U7 ..) pl pu q3;show wpAny (model X.prog X.w) X.A (subscriptTail e (.Slice lo hi none p2) v (.ref s3.heap.objs.size)) (EP X J0 σ Q) X.xe { s3 with heap:=s3.heap.push { cls:=.type "slice", data:=.fields #[vl,vu,.none] } };exact tail_any (ops:=[.ref s3.heap.objs.size,v]) ht hT hg (by with_unfolding_all rfl)
def rJ(xs:List V)(lo hi:Option Int):List V:=(xs.drop (HT.cS xs.length 0 lo)).take (HT.cS xs.length xs.length hi-HT.cS xs.length 0 lo)
theorem kQ(xs:List V)(lo hi:Option Int):(rJ xs lo hi).length<=xs.length:=by
 unfold rJ;rw[Pj,PY];lia
def HX(K:Nr):V->Option Int->Option Int->Hp->VK->Prop:=λx lo hi H Q=>∃ a xs,x=.ref a/\ff K H a xs ∧
 ¬ (HT.cS xs.length 0 lo=0/\HT.cS xs.length xs.length hi=xs.length)/\∀ p,H p=none->Q (.ref p) (upd H p (.tup (rJ xs lo hi)))
theorem E9:z_ X (HX X.K):=by
 intro J0 s σ H x v vl vu lo hi sl Q I rx hs pl pu h;obtain⟨a,xs,rfl,hx,hw,q⟩:=h;cases rx;obtain⟨J4,r,ht,hz⟩:=I.tuple hx;have hlen:J4.toArray.size=xs.length:=by rw[ND];exact r.length.symm
 refine⟨"tuple", _,Ol.lookup,ht.typeIs,?_⟩;refine HT.j1 ht hs pl pu (by rw[hlen];exact hw) ?_ (by rw[hlen];exact hz);rw[hlen];refine⟨.ref s.heap.objs.size,_,I.laid (t':=s.toks) (o:=.tup (rJ xs lo hi)) (λb ob q=>Nq _ q) (NC _) ?_,rfl,q _ (I.bw.fresh (NC _))⟩;exact⟨NZ (kQ xs lo hi) hz,_,(r.drop (HT.cS xs.length 0 lo)).take (HT.cS xs.length xs.length hi-HT.cS xs.length 0 lo),S2 _ _⟩
def Cm(K:Nr):R2:=λx y H Q=>∃ a b xs ys,x=.ref a/\y=.ref b/\ff K H a xs/\ff K H b ys/\xs≠[]/\xs.length+ys.length<=sizeLine ∧
 (ys=[]->Q (.ref a) H)/\(ys≠[]->∀ p,H p=none->Q (.ref p) (upd H p (.tup (xs++ys))))
theorem Vals.jL{us:List Value}(r:Vals xs us):us=[] ↔ xs=[]:=by
 cases r with
 | nil=>simp
 | cons _ _=>simp
theorem Aj:fD X (binaryOp .Add) (Cm X.K):=by
 intro J0 s σ H x y v u Q I rx ry h;obtain⟨a,b,xs,ys,rfl,rfl,ha,hb,hx,hz,q1,q2⟩:=h;cases rx;cases ry;obtain⟨J4,r1,p1,_⟩:=I.tuple ha;obtain⟨Le,r2,p2,_⟩:=I.tuple hb;refine HT.B0 p1 p2 (λz=>hx (r1.jL.mp z)) (λz=>⟨.ref a,H,I,rfl,q1 (r2.jL.mp z)⟩) (λz=>?_) (by rw[<- r1.length,<- r2.length];exact hz);refine⟨.ref s.heap.objs.size,_,I.laid (t':=s.toks) (o:=.tup (xs++ys)) (λb ob q=>Nq _ q) (NC _) ?_,rfl,q2 (λw=>z (r2.jL.mpr w)) _ (I.bw.fresh (NC _))⟩;exact⟨by rw[NO];exact hz,_,r1.append r2,S2 _ _⟩
end
def wH(n:Nat)(i:Int):Option Nat:=if 0<=i then (if i<n then some i.toNat else none) else if -(n:Int)<=i then some (i+n).toNat else none
variable{α:Type}
def qy(xs:List α)(i:Int):Option α:=(wH xs.length i).bind λj=>xs[j]?
variable{j n:Nat}{i:Int}
theorem uG(h:wH n i=some j):seqIndex? i n=some j/\j<n/\-(n:Int)<=i/\i<n:=by
 unfold wH at h
 by_cases h0:0<=i
 .rw[if_pos h0] at h
  by_cases h1:i<n
  .rw[if_pos h1] at h;have e:i.toNat=j:=NQ h;exact⟨by rw[Ux h0 h1,e],by lia,by lia,h1⟩
  .rw[if_neg h1] at h;cases h
 .rw[if_neg h0] at h
  by_cases h1:-(n:Int)<=i
  .rw[if_pos h1] at h;have e:(i+n).toNat=j:=NQ h;exact⟨by rw[T5 (by lia) h1,e],by lia,h1,by lia⟩
  .rw[if_neg h1] at h;cases h
theorem qu{xs:List α}{v:α}(h:qy xs i=some v):∃ j,seqIndex? i xs.length=some j/\xs[j]?=some v/\j<xs.length/\-(xs.length:Int)<=i/\i<xs.length:=by
 unfold qy at h;cases e:wH xs.length i with
 | none=>rw[e] at h;cases h
 | some j =>
  rw[e] at h;obtain⟨h1,h2,h3,h4⟩:=uG e;exact⟨j,h1,h,h2,h3,h4⟩
theorem lG{xs:List α}{v:α}(h:xs[j]?=some v):qy xs (j:Int)=some v:=by
 have hj:j<xs.length:=(N8.mp h).1;have e:wH xs.length (j:Int)=some j:=by
  unfold wH;rw[if_pos (by lia),if_pos (by lia)];simp
 unfold qy;rw[e];exact h
def qr(b:Expr):Prop:=∀ o i,subscripted b false o i=operate [o,i] (getItem o i)
def AL(X:Cx)(r:R2):Prop :=
 ∀ (value slice:Expr) (J0:List (Addr×Obj)) (s:Shared) (σ:St) (H:Hp) (x y:V) (v u:Value) (Q:VK),Inv X J0 σ H s->RelV x v->RelV y u->r x y H Q ->
  subscripted slice false v u=operate [v,u] (getItem v u)->wpAny (model X.prog X.w) X.A (subscriptTail value slice v u) (EP X J0 σ Q) X.xe s
def JB(X:Cx)(id:String)(r:V->List V->Hp->VK->Prop):Prop :=
 ∀ (J0:List (Addr×Obj)) (s:Shared) (σ:St) (H:Hp) (x:V) (xs:List V) (v:Value) (us:List Value) (Q:VK),Inv X J0 σ H s->RelV x v->Vals xs us->r x xs H Q ->
  wpAny (model X.prog X.w) X.A (call (.builtin id) (v::us)) (EP X J0 σ Q) X.xe s
variable{J4:List Value}{s:Shared}{H:Hp}{σ:St}{J0:List (Addr×Obj)}
section
variable{a b:Expr}{ta tb:TE}
theorem AL.or{r r':R2}(h:AL X r)(h':AL X r'):AL X (λx y H Q=>r x y H Q\/r' x y H Q):=by
 intro value slice J0 s σ H x y v u Q I rx ry q hs;rcases q with q | q
 .exact h value slice J0 s σ H x y v u Q I rx ry q hs
 .exact h' value slice J0 s σ H x y v u Q I rx ry q hs
theorem Ci{r:R2}(hr:AL X r)(ha:PE X a ta)(hb:PE X b tb)(hs:qr b):PE X (.Subscript a b pos) (Fn r ta tb):=by
 intro J0 s σ H Q I h;exact Subscript_ (Dl ha hb I h λv u s2 x y H2 I2 rx ry q=>hr a b J0 s2 σ H2 x y v u Q I2 rx ry q (hs _ _))
def FK(K:Nr):R2:=λx y H Q=>∃ p xs i v,x=.ref p/\y=.int i/\gc K H p xs/\qy xs i=some v/\Q v H
def Fv(K:Nr):R2:=λx y H Q=>∃ p xs i v,x=.ref p/\y=.int i/\ff K H p xs/\qy xs i=some v/\Q v H
def GF:R2:=λx y H Q=>∃ z i c,x=.str z/\y=.int i/\z.length<=sizeLine/\qy z.cps.toList i=some c/\Q (.str ⟨#[c]⟩) H
theorem Bg:AL X (FK X.K):=by
 intro value slice J0 s σ H x y v u Q I rx ry h hs;obtain⟨p,xs,i,z,rfl,rfl,hq,he,q⟩:=h;cases rx;obtain⟨t,rfl⟩:=ry;obtain⟨J4,r,pl,hz⟩:=I.list hq;obtain⟨j,h1,h2,h3,h4,h5⟩:=qu he;obtain⟨w,ew,Lj⟩:=r.get h2;have hl:=r.length;have hn:=kr;have fin:EP X J0 σ Q w s:=⟨z,H,I,Lj,q⟩
 by_cases h0:0<=i
 .have hj:i.toNat=j:=by
   rw[Ux h0 h5] at h1;exact NQ h1
  exact item_listR pl.isList h0 (by lia) (by rw[hj];simpa using ew) fin hs
 .have hj:(i+(J4.toArray.size:Int)).toNat=j:=by
   rw[T5 (by lia) h4] at h1;rw[ND,<- hl];exact NQ h1
  exact Sm (x:=w) pl.isList.typeIs T6.lookup
   (wpAny_getItem_list_neg (Q:=λr s'=>r=w/\EP X J0 σ Q r s') pl.isList (by lia) (by rw[ND] <;> lia) (by lia) (by rw[hj];simpa using ew) ⟨rfl,fin⟩) hs
theorem DK:AL X (Fv X.K):=by
 intro value slice J0 s σ H x y v u Q I rx ry h hs;obtain⟨p,xs,i,z,rfl,rfl,hq,he,q⟩:=h;cases rx;obtain⟨t,rfl⟩:=ry;obtain⟨J4,r,pl,hz⟩:=I.tuple hq;obtain⟨j,h1,h2,h3,h4,h5⟩:=qu he;obtain⟨w,ew,Lj⟩:=r.get h2;have hl:=r.length;have hn:=kr;have fin:EP X J0 σ Q w s:=⟨z,H,I,Lj,q⟩
 exact Sm (x:=w) pl.typeIs slot_tuple_getitem.lookup
  (getItem_tuple (j:=j) (Q:=λr s'=>r=w/\EP X J0 σ Q r s') pl (by lia) (by lia) (by rw[ND,<- hl];exact h1) (by simpa using ew) ⟨rfl,fin⟩) hs
theorem EN:AL X GF:=by
 intro value slice J0 s σ H x y v u Q I rx ry h hs;obtain⟨z,i,c,rfl,rfl,hz,he,q⟩:=h;obtain⟨t,rfl⟩:=rx;obtain⟨t',rfl⟩:=ry;obtain⟨j,h1,h2,h3,h4,h5⟩:=qu he;have hl:z.cps.toList.length=z.length:=by simp[Str.length]
 rw[hl] at h1 h4 h5;have hn:=kr;exact tail_any (typeIs_str s z t) slot_str_getitem.lookup (getItem_str (c:=c) (by
  have e1:decide (i < -(2^63:Int))=false:=decide_eq_false (by lia);have e2:decide (i>=2^63)=false:=decide_eq_false (by lia);rw[e1,e2,Bool.or_false]) (by rw[h1];simpa using h2) ⟨.str ⟨#[c]⟩,H,I.tok _,⟨_,rfl⟩,q⟩) hs
def Ic(K:Nr):R2:=λx y H Q=>FK K x y H Q\/Fv K x y H Q\/GF x y H Q
theorem wV:AL X (Ic X.K):=Bg.or (DK.or EN)
theorem ua(J4:List Value)(n j:Nat)(u:Value):RL (·.setIfInBounds j u) { cls:=.type "list", data:=.seq J4.toArray n }={ cls:=.type "list", data:=.seq (J4.set j u).toArray n }:=by
 simp[RL]
theorem Inv.lst{J0:List (Addr×Obj)}{σ:St}{H:Hp}{s:Shared}{p:Addr}{xs:List V}(I:Inv X J0 σ H s)(h:H p=some (.lst xs)) :
  ∃ (J4:List Value) (n:Nat),Vals xs J4/\s.heap.get? p=some { cls:=.type "list", data:=.seq J4.toArray n }/\xs.length<=sizeLine:=by
 obtain⟨z,J4,n,r,e⟩:=I.bw p _ h;exact⟨J4,n,r,e,z⟩
theorem Inv.Dy{p:Addr}{ys:List V}{its':List Value}{n':Nat}{f:Obj->Obj}(I:Inv X J0 σ H s)(h:H p=some (.lst xs))
  (ho:s.heap.get? p=some { cls:=.type "list", data:=.seq J4.toArray n }) (hf:f { cls:=.type "list", data:=.seq J4.toArray n }={ cls:=.type "list", data:=.seq its'.toArray n' }) (r:Vals ys its') (hz:ys.length<=sizeLine) (t:Nat) :
  Inv X J0 σ (upd H p (.lst ys)) { s with heap:=s.heap.update p f,toks:=t }:=by
 have e:(s.heap.update p f).get? p=some { cls:=.type "list", data:=.seq its'.toArray n' }:=by
  rw[OL f ho (by rw[hf] <;> rfl),hf]
 refine I.write (x:=p) (e:=p) (by rw[h];trivial) (.inl rfl) (λb u hb q=>(OB _ _ (O5 hb)).trans q) ⟨_,e⟩ ?_;exact⟨hz,its',n',r,e⟩
def F7:V->V->V->Hp->(Hp->Prop)->Prop:=λo i v H Q=>∃ p xs k j,o=.ref p/\i=.int k/\H p=some (.lst xs)/\wH xs.length k=some j/\Q (upd H p (.lst (xs.set j v)))
theorem set_list:Fz X F7:=by
 intro J0 s σ H o i v ov iv u Q I ro ri rv h;obtain⟨p,xs,k,j,rfl,rfl,hp,hj,q⟩:=h;cases ro;obtain⟨t,rfl⟩:=ri;obtain⟨J4,n,r,ho,hz⟩:=I.lst hp;obtain⟨h1,h2,h3,h4⟩:=uG hj;have hl:=r.length;have hn:=kr;have I':Inv X J0 σ (upd H p (.lst (xs.set j v))) { s with heap:=s.heap.update p (RL (·.setIfInBounds j u)) } :=
  I.Dy hp ho (ua J4 n j u) (r.set rv j) (by rw[P9];exact hz) s.toks
 by_cases h0:0<=k
 .have hk:k.toNat=j:=by
   rw[Ux h0 h4] at h1;exact NQ h1
  exact PySem.W.ki_setAt ho h0 (by lia) (by rw[ND,<- hl];exact h4) (by rw[hk];exact⟨_,I',q⟩)
 .have hk:(k+(J4.toArray.size:Int)).toNat=j:=by
   rw[T5 (by lia) h3] at h1;rw[ND,<- hl];exact NQ h1
  exact PySem.W.ki_setBack ho (by lia) (by rw[ND,<- hl];exact h3) (by lia) (by rw[hk];exact⟨_,I',q⟩)
theorem pC(lo hi:Option Int)(n:Nat):(sliceBounds lo hi none n).1=((HT.cS n 0 lo:Nat):Int)/\(sliceBounds lo hi none n).2.1=((HT.cS n n hi:Nat):Int)/\(sliceBounds lo hi none n).2.2=1:=by
 refine⟨?_,?_,rfl⟩
 .cases lo with
  | none=>simp[sliceBounds,HT.cS]
  | some i =>
   simp only[sliceBounds,HT.cS,Uk,show (1:Int)>0 by decide,if_true]
   by_cases h:i<0
   .simp only[h,if_true] <;> lia
   .simp only[h,if_false] <;> lia
 .cases hi with
  | none=>simp[sliceBounds,HT.cS]
  | some i =>
   simp only[sliceBounds,HT.cS,Uk,show (1:Int)>0 by decide,if_true]
   by_cases h:i<0
   .simp only[h,if_true] <;> lia
   .simp only[h,if_false] <;> lia
theorem oh(J4:List Value)(lo hi:Option Int):slicePick J4.toArray lo hi none=((J4.drop (HT.cS J4.length 0 lo)).take (HT.cS J4.length J4.length hi-HT.cS J4.length 0 lo)).toArray:=by
 obtain⟨h1,h2,h3⟩:=pC lo hi J4.toArray.size;unfold slicePick;rw[h1,h2,h3];simp only[sliceRange_one,pick_run,ND] <;> rfl
def Ir(K:Nr):V->Option Int->Option Int->Hp->VK->Prop:=λx lo hi H Q=>∃ a xs,x=.ref a/\gc K H a xs/\∀ p,H p=none->Q (.ref p) (upd H p (.lst (rJ xs lo hi)))
theorem Aq:z_ X (Ir X.K):=by
 intro J0 s σ H x v vl vu lo hi sl Q I rx hs pl pu h;obtain⟨a,xs,rfl,hx,q⟩:=h;cases rx;obtain⟨J4,r,ht,hz⟩:=I.list hx;have hlen:=r.length;refine⟨"list", _,T6.lookup,ht.isList.typeIs,?_⟩;refine wpAny_getItem_list_slice ht.isList hs pl pu .none (by simp) ?_ (by rw[ND] <;> lia);rw[oh,<- hlen];refine⟨.ref s.heap.objs.size,_,I.laid (t':=s.toks) (o:=.lst (rJ xs lo hi)) (λb ob q=>Nq _ q) (NC _) ?_,rfl,q _ (I.bw.fresh (NC _))⟩;exact⟨NZ (kQ xs lo hi) hz,_,0,(r.drop (HT.cS xs.length 0 lo)).take (HT.cS xs.length xs.length hi-HT.cS xs.length 0 lo),Ny _ rfl⟩
theorem p_:cL X (.builtin "len") (λxs H Q=>∃ p ys,xs=[.ref p]/\(gc X.K H p ys\/ff X.K H p ys)/\Q (.int ys.length) H):=by
 intro J0 s σ H xs us Q I r h;obtain⟨p,ys,rfl,hq,q⟩:=h;obtain⟨u,rfl,rx⟩:=vals1 r;cases rx;have hn:=kr;rcases hq with hq | hq
 .obtain⟨J4,r',pl,hz⟩:=I.list hq;have hlen:=r'.length;exact Calls.call_len_list pl.isList (by simp only[ND] <;> lia) ⟨.int ys.length,H,I.tok _,⟨s.toks+1,by rw[ND,hlen]⟩,q⟩
 .obtain⟨J4,r',pl,hz⟩:=I.tuple hq;have hlen:=r'.length;exact len_tuple pl (by simp only[ND] <;> lia) ⟨.int ys.length,H,I.tok _,⟨s.toks+1,by rw[ND,hlen]⟩,q⟩
theorem p4:cL X (.builtin "len") (λxs H Q=>∃ z,xs=[.str z]/\z.length<=sizeLine/\Q (.int z.length) H):=by
 intro J0 s σ H xs us Q I r h;obtain⟨z,rfl,hz,q⟩:=h;obtain⟨u,rfl,t,rfl⟩:=vals1 r;have hn:=kr;exact len_str (by lia) ⟨.int z.length,H,I.tok _,⟨_,rfl⟩,q⟩
theorem cL.or{f:Value}{r r':List V->Hp->VK->Prop}(h:cL X f r)(h':cL X f r'):cL X f (λxs H Q=>r xs H Q\/r' xs H Q):=by
 intro J0 s σ H xs us Q I rs q;rcases q with q | q
 .exact h J0 s σ H xs us Q I rs q
 .exact h' J0 s σ H xs us Q I rs q
theorem pd:cL X (.type "list") (λxs H Q=>∃ p ys,xs=[.ref p]/\(gc X.K H p ys\/ff X.K H p ys)/\∀ l,H l=none->Q (.ref l) (upd H l (.lst ys))):=by
 intro J0 s σ H xs us Q I r h;obtain⟨p,ys,rfl,hq,q⟩:=h;obtain⟨u,rfl,rx⟩:=vals1 r;cases rx;have fin:∀ (J4:List Value),Vals ys J4->ys.length<=sizeLine->∀ (h':Heap) (c':Nat),(∀ b o',s.heap.get? b=some o'->h'.get? b=some o') ->
   h'.get? s.heap.objs.size=some { cls:=.type "list", dict:=none,data:=.seq J4.toArray c',slots:=#[] }->EP X J0 σ Q (.ref s.heap.objs.size) { s with heap:=h' }:=λJ4 r' hz h' c' kp e =>
  ⟨.ref s.heap.objs.size,_,I.laid (t':=s.toks) kp (NC _) (show bS X.prog X.w _ h' _ (.lst ys) from ⟨hz,J4,c',r',e⟩),rfl,q _ (I.bw.fresh (NC _))⟩
 rcases hq with hq | hq
 .obtain⟨J4,r',pl,hz⟩:=I.list hq;have hlen:=r'.length;obtain⟨o,ho,hc,n,hd⟩:=pl.isList;exact call_list_seq p (.inl rfl) ho hc hd (λh' c' kp e=>fin J4 r' hz h' c' kp e) (by simp only[ND] <;> lia)
 .obtain⟨J4,r',pl,hz⟩:=I.tuple hq;have hlen:=r'.length;obtain⟨o,ho,hc,n,hd⟩:=pl;exact call_list_seq p (.inr rfl) ho hc hd (λh' c' kp e=>fin J4 r' hz h' c' kp e) (by simp only[ND] <;> lia)
theorem n8:cL X (.type "tuple") (λxs H Q=>∃ p ys,xs=[.ref p]/\((gc X.K H p ys/\∀ l,H l=none->Q (.ref l) (upd H l (.tup ys)))\/(ff X.K H p ys/\Q (.ref p) H))):=by
 intro J0 s σ H xs us Q I r h;obtain⟨p,ys,rfl,h⟩:=h;obtain⟨u,rfl,rx⟩:=vals1 r;cases rx;rcases h with ⟨hq,q⟩ | ⟨hq,q⟩
 .obtain⟨J4,r',pl,hz⟩:=I.list hq;have hlen:=r'.length;refine call_tuple_list pl.isList (λh' kp=>?_) (by simp only[ND] <;> lia);have I1:Inv X J0 σ H { s with heap:=h' }:=I.kept (t':=s.toks) kp;have I2:Inv X J0 σ (upd H h'.objs.size (.tup ys)) { s with heap:=h'.push { cls:=.type "tuple", data:=.seq J4.toArray } } :=
   I1.laid (t':=s.toks) (λb o e=>Nq _ e) (NC _) (show bS X.prog X.w _ _ _ (.tup ys) from ⟨hz,J4,r',S2 _ _⟩)
  exact⟨.ref h'.objs.size,_,I2,rfl,q _ (I1.bw.fresh (NC _))⟩
 .obtain⟨J4,r',pl,hz⟩:=I.tuple hq;exact call_tuple_same pl ⟨.ref p,H,I,rfl,q⟩
def Jh(K:Nr)(T:String)(x:V)(H:Hp):Prop:=match x with
 | .str _=>T = "str"
 | .int _=>T = "int"
 | .ref p=>(T = "list" /\ ∃ xs,gc K H p xs)\/(T = "tuple" /\ ∃ o,K.lookup p=some o/\o.cls=.type "tuple" /\ o.dict=none) ∨
   (T = "dict" /\ ((∃ Kf,H p=some (.dK Kf))\/∃ Kf,H p=some (.dT Kf)))\/(T = "set" /\ ∃ S n,H p=some (.set S n))
 | _=>False
theorem xV{T:String}{x:V}{v:Value}(I:Inv X J0 σ H s)(r:RelV x v)(ty:Jh X.K T x H) :
  s.TypeIs v T/\∀ a,v=.ref a->∃ ob,s.heap.get? a=some ob/\ob.dict=none:=by
 cases x with
 | str z =>
  obtain⟨t,rfl⟩:=r;cases (show T = "str" from ty);exact⟨typeIs_str s z t,λ_ e=>nomatch e⟩
 | int i =>
  obtain⟨t,rfl⟩:=r;cases (show T = "int" from ty);exact⟨Sn s i t,λ_ e=>nomatch e⟩
 | ref p =>
  cases r;rcases ty with ⟨rfl,xs,hq⟩ | ⟨rfl,o,hk,hc,hd⟩ | ⟨rfl,hk⟩ | ⟨rfl,S,n,hk⟩
  .obtain⟨J4,_,pl,_⟩:=I.list hq;refine⟨pl.isList.typeIs,λa e=>?_⟩;cases e;obtain⟨o,n,e,c,hd,_⟩:=pl;exact⟨o,e,hd⟩
  .refine⟨⟨o,I.gC p o hk,hc⟩,λa e=>?_⟩;cases e;exact⟨o,I.gC _ o hk,hd⟩
  .have z:∃ o,s.heap.get? p=some o/\o.ExactDict:=by
    rcases hk with ⟨Kf,hk⟩ | ⟨Kf,hk⟩
    .obtain⟨_,_,_,_,o,_,_,e,ex,_⟩:=I.bw p _ hk;exact⟨o,e,ex⟩
    .obtain⟨_,_,_,_,o,_,_,e,ex,_⟩:=I.bw p _ hk;exact⟨o,e,ex⟩
   obtain⟨o,e,ex⟩:=z;refine⟨⟨o,e,ex.1⟩,λa e2=>?_⟩;cases e2;exact⟨o,e,ex.2.1⟩
  .obtain⟨o,_,_,_,e,ex,_⟩:=I.bw p _ hk;refine⟨⟨o,e,ex.1⟩,λa e2=>?_⟩;cases e2;exact⟨o,e,ex.2.1⟩
 | _=>exact OA ty
def Gd(K:Nr)(T:String)(r:V->List V->Hp->VK->Prop)(to:TE):TE:=fun σ H Q=>to σ H λx H1=>Jh K T x H1/\r x [] H1 Q
def JK(K:Nr)(T:String)(r:V->List V->Hp->VK->Prop)(to:TE)(t:TA):TE:=fun σ H Q=>to σ H λx H1=>Jh K T x H1/\t σ H1 λxs H2=>r x xs H2 Q
variable{o:Expr}{es:List Expr}{to:TE}{t:TA}{name:Str}{apos J9:Pos}{T id:String}{r:V->List V->Hp->VK->Prop}
theorem EO(pa:PlainAttrs T)(slot:Slot T name id)(hty:typeOf (.builtin id)=pure (.type "method_descriptor"))(hm:JB X id r)(ho:PE X o to)
  (Ll:autoParam (attributeBase o name X.env (eval o X.env)=eval o X.env) aR._auto_1) (Lm:autoParam ((apos.endLine==J9.line)=true) aR._auto_1):PE X (.Call (.Attribute o name apos) [] [] J9) (Gd X.K T r to):=by
 intro J0 s σ H Q I h;refine wpAny_Call_method0_late Ll Lm (cA (ho J0 s σ H _ I h) λv s1 ⟨x,H1,I1,r1,ty,q1⟩=>?_);obtain⟨h1,h2⟩:=xV I1 r1 ty;exact⟨T,id,pa,slot,hty,h1,h2,So rfl (PySem.evalArgs_none (hm J0 s1 σ H1 x [] v [] Q I1 r1 .nil q1))⟩
theorem Gm(pa:PlainAttrs T)(slot:Slot T name id)(hty:typeOf (.builtin id)=pure (.type "method_descriptor"))(hm:JB X id r)(ho:PE X o to)(ha:PA X (e::es) t)
  (Ll:autoParam (attributeBase o name X.env (eval o X.env)=eval o X.env) aR._auto_1)
  (MB:autoParam (((backTo J9 (starEach (e::es) X.env)).all (λx=>!x.1)&&(backToKw J9 (keywordEach [] X.env)).all (λx=>x.1.isSome)
   && decide ((e::es).length+([]:List Keyword).length+(if ([]:List Keyword).isEmpty then 0 else 1)<30))=true) aR._auto_1)
  (Lm:autoParam ((apos.endLine==J9.line)=true) aR._auto_1) (hs:autoParam (starEach (e::es) X.env=(false,eval e X.env)::starEach es X.env) aR._auto_1) (Lx:autoParam ((backTo J9 (starEach es X.env)).any (·.1)=false) aR._auto_1) :
  PE X (.Call (.Attribute o name apos) (e::es) [] J9) (JK X.K T r to t):=by
 intro J0 s σ H Q I h;refine wpAny_Call_method_late Ll MB Lm rfl (cA (ho J0 s σ H _ I h) λv s1 ⟨x,H1,I1,r1,ty,q1⟩=>?_);obtain⟨h1,h2⟩:=xV I1 r1 ty;refine⟨T,id,pa,slot,hty,h1,h2,?_⟩;have hA:=ha J9 J0 s1 σ H1 _ I1 q1;rw[hs] at hA ⊢;refine So (by show (false||(backTo J9 (starEach es X.env)).any (·.1))=false;rw[Lx] <;> rfl) (Calls.evalArgs_plain ?_);exact cA hA λus s2 ⟨vs,H2,I2,r2,q2⟩=>hm J0 s2 σ H2 x vs v us Q I2 r1 r2 q2
end
def Jn(X:Cx)(id:String)(r:V->List V->Hp->VK->Prop):Prop :=
 ∀ (J0:List (Addr×Obj)) (s:Shared) (σ:St) (H:Hp) (x:V) (xs:List V) (v:Value) (us:List Value) (Q:VK),Inv X J0 σ H s->RelV x v->Vals xs us->r x xs H Q ->
  wpAny (model X.prog X.w) X.A (call (.builtin id) (v::us)) (EP X J0 σ Q) X.xe s
theorem Vals.one:∀ {x:V} {us:List Value},Vals [x] us->∃ u,us=[u]/\RelV x u
 | _,_,.cons r .nil=>⟨_,rfl,r⟩
theorem Vals.zero:∀ {us:List Value},Vals [] us->us=[]
 | _,.nil=>rfl
theorem Vals.rep{xs:List V}{us:List Value}(h:Vals xs us):∀ k:Nat,Vals (Nv k xs).flatten (Nv k us).flatten
 | 0=>.nil
 | k+1=>by
  rw[Oo,Oo,OX,OX];exact Vals.append h (Vals.rep h k)
theorem foldl_rep(J4:List Value):∀ (k:Nat) (acc:List Value),
  RM (λx1 x2=>x1++x2) acc.toArray (Nv k J4.toArray)=(acc++(Nv k J4).flatten).toArray
 | 0,acc=>by simp
 | k+1,acc=>by
  have e:acc.toArray++J4.toArray=(acc++J4).toArray:=by simp
  have e2:(acc++J4)++(Nv k J4).flatten=acc++(Nv (k+1) J4).flatten:=by
   rw[Oo,OX,PD]
  rw[<- e2,<- foldl_rep J4 k (acc++J4),<- e,Oo,List.foldl_cons]
variable{t':Nat}
section
variable{l b:Addr}{ys zs:List V}
theorem Inv.Gv{its':List Value}{f:Array Value->Array Value}(I:Inv X J0 σ H s)(hH:H l=some (.lst xs))
  (e:s.heap.get? l=some { cls:=.type "list", data:=.seq J4.toArray n }) (hf:f J4.toArray=its'.toArray) (hv:Vals ys its') (hz:ys.length<=sizeLine) :
  Inv X J0 σ (upd H l (.lst ys)) { s with heap:=s.heap.update l (RL f),toks:=t' }:=by
 have q:=PySem.IsL.update e f;rw[hf] at q;refine I.write (x:=l) (e:=l) (by rw[hH];exact trivial) (.inl rfl) (λb' u hb hu=>(OB s.heap (RL f) (O5 hb)).trans hu) ⟨_,q⟩ ?_;exact⟨hz,its',_,hv,q⟩
theorem Inv.Gh(I:Inv X J0 σ H s)(hv:Vals ys J4)(hz:ys.length<=sizeLine) :
  Inv X J0 σ (upd H s.heap.objs.size (.lst ys)) { s with heap:=s.heap.push { cls:=.type "list", data:=.seq J4.toArray },toks:=t' } :=
 I.laid (λ_ _ q=>Nq _ q) (NC _) ⟨hz,J4,0,hv,Ny _ rfl⟩
theorem Inv.fresh(I:Inv X J0 σ H s):H s.heap.objs.size=none:=I.bw.fresh (NC _)
theorem Inv.y_(I:Inv X J0 σ H s)(hH:H l=some (.lst xs)):xs.length<=sizeLine/\∃ (J4:List Value) (n:Nat),Vals xs J4/\xs.length=J4.length/\s.heap.get? l=some { cls:=.type "list", data:=.seq J4.toArray n }:=by
 obtain⟨z,J4,n,r,e⟩:=I.bw l _ hH;exact⟨z,J4,n,r,r.length,e⟩
theorem yV(h:n<=sizeLine):Qz n=false:=by
 unfold Qz;exact decide_eq_false (by lia)
end
def Bl:V->List V->Hp->VK->Prop:=λx vs H Q=>∃ l xs y,x=.ref l/\vs=[y]/\H l=some (.lst xs)/\xs.length<sizeLine/\Q .bz (upd H l (.lst (xs++[y])))
theorem oK:Jn X "list.append" Bl:=by
 intro J0 s σ H x vs v us Q I rx rv h;obtain⟨l,xs,y,rfl,rfl,hH,hz,q⟩:=h;cases rx;obtain⟨u,rfl,ru⟩:=rv.one;obtain⟨z,J4,n,r,hl,e⟩:=I.y_ hH;refine QG F.slot_list_append ⟨_,e,rfl⟩ F.entry_list_append (F.args_list_append_2 _ _) (PySem.list_append l J4.toArray n u (by rw[ND];lia)) ⟨e,?_⟩;refine⟨.bz,_,I.Gv (its':=J4++[u]) hH e (by simp) (r.append (.cons ru .nil)) ?_,rfl,q⟩;rw[NO,Qd];lia
def xx:V->List V->Hp->VK->Prop:=λx vs H Q=>∃ l xs,x=.ref l/\vs=[]/\H l=some (.lst xs)/\Q .bz (upd H l (.lst []))
theorem wM:Jn X "list.clear" xx:=by
 intro J0 s σ H x vs v us Q I rx rv h;obtain⟨l,xs,rfl,rfl,hH,q⟩:=h;cases rx;have hus:=rv.zero;subst hus;obtain⟨z,J4,n,r,hl,e⟩:=I.y_ hH;refine QG F.slot_list_clear ⟨_,e,rfl⟩ F.entry_list_clear (F.args_list_clear_1 _) (AutoSeq1.list_clear_list_0 l J4.toArray n (by rw[ND];lia)) ⟨e,?_⟩;exact⟨.bz,_,I.Gv (its':=[]) (ys:=[]) hH e rfl .nil (Om _),rfl,q⟩
def GJ:R2:=λx y H Q=>∃ l b xs zs,x=.ref l/\y=.ref b/\H l=some (.lst xs)/\H b=some (.lst zs)/\xs.length+zs.length<=sizeLine/\∀ p,H p=none->Q (.ref p) (upd H p (.lst (xs++zs)))
theorem yP:fD X (binaryOp .Add) GJ:=by
 intro J0 s σ H x y v u Q I rx ry h;obtain⟨l,b,xs,zs,rfl,rfl,hH,hB,hz,q⟩:=h;cases rx;cases ry;obtain⟨z,J4,n,r,hl,e⟩:=I.y_ hH;obtain⟨z2,Le,n2,r2,K3,e2⟩:=I.y_ hB;refine PySem.P.add_list e e2 ?_ (by rw[ND,ND];lia);have ea:J4.toArray++Le.toArray=(J4++Le).toArray:=by simp
 rw[ea];exact⟨.ref _,_,I.Gh (t':=s.toks) (r.append r2) (by rw[NO];lia),rfl,q _ I.fresh⟩
def GP:R2:=λx y H Q=>∃ l k xs,x=.ref l/\y=.int k/\H l=some (.lst xs)/\-(2^63)<=k/\k<2^63/\xs.length*k.toNat<=sizeLine ∧
 ∀ p,H p=none->Q (.ref p) (upd H p (.lst (Nv k.toNat xs).flatten))
theorem len_rep(xs:List α)(k:Nat):(Nv k xs).flatten.length=k*xs.length:=by
 induction k with
 | zero=>simp
 | succ k ih=>rw[Oo,OX,NO,ih,Nat.succ_mul,T7]
theorem DM:fD X (binaryOp .Mult) GP:=by
 intro J0 s σ H x y v u Q I rx ry h;obtain⟨l,k,xs,rfl,rfl,hH,h1,h2,hz,q⟩:=h;cases rx;obtain⟨t,rfl⟩:=ry;obtain⟨z,J4,n,r,hl,e⟩:=I.y_ hH;have hlen:J4.toArray.size*k.toNat<=sizeLine:=by rw[ND,<- hl];exact hz
 have hcap:¬ J4.toArray.size*k.toNat>(2^63-1)/8:=by
  have:(sizeLine:Nat)<=(2^63-1)/8:=by decide
  lia
 have hfit:¬ (!Builtin.List.listFitsIndex k)=true:=by
  rw[fitsIndex_both h1 h2];exact OF
 have M7:¬ Qz (J4.toArray.size*k.toNat)=true:=by
  rw[yV hlen];exact OF
 have K4:RM (λx1 x2=>x1++x2) #[] (Nv (if J4.toArray.isEmpty=true then 0 else k.toNat) J4.toArray)=(Nv k.toNat J4).flatten.toArray:=by
  have f0:∀ m:Nat,RM (λx1 x2=>x1++x2) #[] (Nv m J4.toArray)=(Nv m J4).flatten.toArray:=λm=>by
   have:=foldl_rep J4 m [];rw[P_] at this;exact this
  rw[f0];cases J4 with
  | nil=>simp
  | cons a r'=>rw[if_neg (by simp)]
 refine RV (T := "list") (U := "int") (by decide) ⟨_,e,rfl⟩ (λs'=>Sn s' k t) noFill_list_mul F.fills_int_mul F.slot_int_rmul repeat_list F.slot_int_index.lookup
  (QG F.slot_int_rmul (Sn s k t) F.entry_int_rmul (F.args_int_rmul_2 _ _) (int___rmul___int_list k t l J4.toArray n)
   ⟨e,rfl,⟨_,e,rfl⟩,QG F.slot_list_mul ⟨_,e,rfl⟩ F.entry_list_mul (F.args_list_mul_2 _ _) (AutoListH.list___mul___list_int_3 l J4.toArray n k t hfit hcap M7) ⟨e,?_⟩⟩)
 rw[K4];exact⟨.ref _,_,I.Gh (t':=s.toks) (r.rep k.toNat) (by rw[len_rep,Qq];exact hz),rfl,q _ I.fresh⟩
variable{E:Value->Shared->Prop}{A:Around}{w:World}
section
variable{prog:Program}
end
section
variable{κ:Type}[DecidableEq κ]
end
variable{a:Addr}{P:Program}
section
variable{h:Heap}
end
variable{o:Option V}{u:Value}
section
variable{y v:V}{r:Value}
theorem Inv.big(I:Inv X J0 σ H s):sysModules<s.heap.objs.size:=by
 have h:mainGlobals<s.heap.objs.size:=(I.mod.glob.keeps I.bk).lt;exact Nat.lt_trans (by decide) h
end
variable{Kf:List (Key×V)}
section
variable{k:Key}
end
section
variable{o i value:Expr}{pos' Nn:Pos}{td ty tv:TE}
end
theorem zP(h:Heap)(hb:sysModules<h.objs.size):bS P w H (h.push { cls:=.type "dict", data:=.dict #[] }) h.objs.size (.dK []) :=
 ⟨Om _,beq_eq_false_iff_ne.mpr (O5 (NP hb)),[],.nil,Heap.DictOf.new h⟩
def CS:TE:=λ_ H Q=>∀ p,H p=none->Q (.ref p) (upd H p (.dK []))
theorem zF:PE X (.Dict [] [] pos) CS:=λJ0 s σ H Q I h =>
 wpAny_Dict_empty ⟨.ref s.heap.objs.size,_,I.laid (a:=s.heap.objs.size) (o:=.dK []) (t':=s.toks) (λ_ _ q=>Nq _ q) (NC _) (zP s.heap I.big),rfl,h _ (I.bw.fresh (NC _))⟩
section
variable{y d:V}{r:Value}
end
section
variable{o f:Expr}{apos J9:Pos}{td ty tx:TE}
end
section
variable{y:V}
end
end L2
namespace Att
open PySem PySem.W PySem.Calls PyProof.Rows
variable{h:Heap}{P:Params}
theorem lx:∀ (ns:List Int) (vs:List Value),WellAll P h vs (ns.map WData.int)->IntsAre vs ns:=by
 intro ns
 induction ns with
 | nil =>
  intro vs w;rw[Qp] at w;cases w;exact .nil
 | cons n ns ih =>
  intro vs w;rw[NX] at w;cases w with
  | cons a b =>
   cases a;exact .cons _ _ (ih _ b)
theorem wj{l:OpenLaw}{n:Nat}(hn:l.most=some n){args:List WData}{vals:List Value}
  (vL:l.row.toRowW.claim.pre args=true) (hwl:WellAll P h vals args) :
  ∃ a vs ns,vals=[NB a]/\args=[WData.list (ns.map WData.int)]/\h.get? a=some { cls:=.type "list", data:=.seq vs.toArray }/\IntsAre vs ns/\ns.length<=n:=by
 have hsh:WShape.hasAll [] args [.list .int]=true:=(pre_splitW vL).1;have hc:l.pre.holds [] { args:=args }=true:=(pre_splitW vL).2;obtain⟨d,r,rfl,h1,h2⟩:=hasAllW_cons hsh;obtain rfl:=hasAllW_nil h2;obtain⟨xs,rfl,h3⟩:=hasW_list h1;obtain⟨ns,rfl⟩:=items_int h3;have hlen:ns.length<=n:=by
  unfold OpenLaw.pre at hc;have h4:(WTm.not (.lt (.lit (.int (n:Int))) (.len (.arg 0)))).holds [] { args:=[.list (ns.map .int)] }=true:=by
   have h4:=(holds_andW hc).1;rw[hn] at h4;exact h4
  have h5:=condW_of h4 (w_not (w_lt w_lit (w_len_list (w_arg rfl))));rw[Nu] at h5;refine Nat.le_of_not_lt λq=>?_;have q':(n:Int)<((ns.length:Nat):Int):=by lia
  first
   | (rw[decide_eq_true q'] at h5;exact absurd h5 (by decide))
   | (simp at h5;lia)
 cases hwl with
 | cons w1 w2 =>
  cases w2;cases w1 with
  | list ho hall=>exact⟨_,_,ns,rfl,rfl,ho,lx ns _ hall,hlen⟩
theorem vx(l:OpenLaw)(args:List WData):l.row.toRowW.claim.post args (.bool true) args=true :=
 postW_of (r:=l.row.toRowW) (X:=(true==true))
  (show WShape.has [] (.bool true) .bool=true by first | rfl | decide | simp[WShape.has,WShape.arms,WShape.armsAll])
  (show (WTm.eq .res (.lit (.bool true))).value [] { args:=args,res:=some (.bool true),after:=args }=some (.bool (true==true)) from w_eq_bool (w_res rfl) w_lit) rfl
section
variable{prog:Program}{w:World}{A:Around}{E:Value->Shared->Prop}{s:Shared}{K:Frag}
end
end Att
namespace L2
open PySem PySem.Spec PyProof.Rows
theorem oC:∀ {vs:List Value} {ns:List Int},IntsAre vs ns->Vals (ns.map V.int) vs
 | _,_,.nil=>.nil
 | _,_,.cons n t h=>.cons ⟨t,rfl⟩ (oC h)
def Gx(H:Hp):Prop:=∀ b,H b=none\/∃ o xs,H b=some (.ny o (.lst xs))
variable{mg:Str->Option Value}{w:World}{P:Program}
theorem xM{K:Nr}{mb:Str->Option Value}{CX:C8}{k:Nat}{fa a:Addr}{fd:FuncData}{x:Str}{sp:Sp}{s₁:Shared}{vs:List Value}{ns:List Int}
  (KX:K.In s₁.heap) (hns:s₁.heap.Ns mainGlobals mg) (hb:s₁.heap.Ns builtinsNs mb) (MW:∀ x:Str,x ≠ "__name__" -> mb x=bootBuiltins x) (hlim:s₁.heap.NoLimit) (hg:s₁.gens=#[])
  (ha:s₁.heap.get? a=some { cls:=.type "list", data:=.seq vs.toArray }) (hi:IntsAre vs ns) (hl:ns.length<=sizeLine) (hr:bR k callerA)
  (F:∀ base:Heap,K.In base->base.Ns mainGlobals mg->bj P w K mg base CX k fa fd [x] sp) (MX:∀ (s:Shared) (u:Value),BindsTo s fd ⟨[u],[]⟩ [(x,u)])
  (hsp:∀ H:Hp,Gx H->gc K H a (ns.map V.int)->sp [.ref a] H (λv _=>v=.bl true) λ_ _ _=>False)
  (hCX:∀ H e s',CX [] H s₁ (λ_ _ _=>False) e s'->False) :
  codeAny (model P w) callerA (.call (.ref fa) ⟨[.ref a],[]⟩) (λr s'=>r=.ok (.ret (.bool true))/\OldK s₁.heap s'.heap/\s'.os=s₁.os/\AllBare s'.gens) s₁:=by
 have rv:=oC hi;have lenV:=hi.length;have core:∀ H:Hp,Gx H->gc K H a (ns.map V.int)->j9 P w H s₁.heap->(∀ b,H b≠none->b=a)->(H a≠none->K.lookup a=none) ->
   codeAny (model P w) callerA (.call (.ref fa) ⟨[.ref a],[]⟩) (λr s'=>r=.ok (.ret (.bool true))/\OldK s₁.heap s'.heap/\s'.os=s₁.os/\AllBare s'.gens) s₁:=by
  intro H hO hS bw hA hK;have LG:∀ {b:Addr} {o:Obj},s₁.heap.get? b=some o->H b=none->(qa s₁.heap H).get? b=some o:=λe n=>yD e n;have ub:∀ {b:Addr} {o:Obj} {es:Array DictEntry} {ep:Nat},s₁.heap.get? b=some o->o.data=.dict es ep->H b=none:=λ{b o es ep} e d=>by
   cases q:H b with
   | none=>rfl
   | some u =>
    have e':b=a:=hA b (by rw[q];simp);subst e';rw[ha] at e;cases e;have d':Data.seq vs.toArray _=Data.dict es ep:=d;cases d'
  have nsK:∀ {b:Addr} {m:Str->Option Value},s₁.heap.Ns b m->(qa s₁.heap H).Ns b m:=λ{b m} ⟨o,es,ep,e,d,r⟩=>⟨o,es,ep,LG e (ub e d),d,r⟩
  have hKb:K.In (qa s₁.heap H):=λb o e=>LG (KX b o e) (by
   cases q:H b with
   | none=>rfl
   | some u =>
    have e':b=a:=hA b (by rw[q];simp);subst e';rw[hK (by rw[q];simp)] at e;cases e)
  have hM:Mod K mg (qa s₁.heap H):=⟨hKb,nsK hns,⟨mb,nsK hb,MW⟩,let ⟨mc,h1,h2⟩:=hlim;⟨mc,nsK h1,h2⟩⟩
  have e0:rO P w K mg (qa s₁.heap H) callerA [] s₁ H:=⟨rfl,hM,λb o e=>Ac e,TQ (vV _ _),trivial,λb hb=>absurd (show b∈([]:List Addr) from hb) (by simp),bw,.of_eq hg⟩
  refine QV ((F _ hKb (nsK hns)).run callerA [] s₁ H ⟨[.ref a],[]⟩ [.ref a] [.ref a] _ _ hr e0 (MX s₁ (.ref a)) (.cons rfl .nil) (hsp H hO hS)) λr s' h=>?_;cases r with
  | error e=>exact(hCX H e s' h).elim
  | ok fl =>
   cases fl with
   | next=>exact OA h
   | brk=>exact OA h
   | cont=>exact OA h
   | ret u =>
    obtain⟨v,H',os,bare,un,hok',r',q⟩:=h;have q':v=.bl true:=q;subst q';obtain rfl:u=Pk true:=r';refine⟨rfl,OldK.of_keep λb o e=>?_,os,bare⟩;cases q:H b with
    | none=>exact un.keep b o e q (by intro z;exact absurd (show b∈([]:List Addr) from z) (by simp)) (by simp)
    | some u =>
     rcases hO b with z | ⟨ob,xs,z⟩
     .rw[q] at z;cases z
     .have z2:=un.jj b ob _ z;obtain⟨e1,_⟩:=bw b _ z;obtain⟨e2,_⟩:=hok' b _ z2;rw[e] at e1;cases e1;exact e2
 cases hk:K.lookup a with
 | some o =>
  have e:=KX a o hk;rw[ha] at e;cases e;refine core (λ_=>none) (λ_=>.inl rfl) (.inr ⟨_,vs.toArray,_,hk,rfl,rfl,rfl,by rw[ND,lenV];exact hl,by simpa using rv⟩) (λb u z=>by have z':(none:Option HO)=some u:=z;cases z') (λb z=>absurd rfl z) λz=>absurd rfl z
 | none =>
  refine core (λb=>if b=a then some (.ny { cls:=.type "list", data:=.seq vs.toArray } (.lst (ns.map V.int))) else none) (λb=>?_) (.inl (.inr ⟨{ cls:=.type "list", data:=.seq vs.toArray },if_pos rfl⟩)) (λb u z=>?_) (λb z=>?_) λ_=>hk
  .by_cases hb:b=a
   .exact .inr ⟨_,_,if_pos hb⟩
   .exact .inl (if_neg hb)
  .by_cases hb:b=a
   .have z':=(if_pos hb).symm.trans z;cases z';subst hb;exact⟨ha,by rw[Nu];exact hl,vs,_,rv,ha⟩
   .have z':=(if_neg hb).symm.trans z;cases z'
  .by_cases hb:b=a
   .exact hb
   .exact absurd (if_neg hb) z
def inClass(s:Stmt)(j:Nat):Stmt:=match s with
 | .ClassDef _ _ _ body _ _ _ _ _ _ _=>body.getD j (.Pass ⟨0,0,0,0⟩)
 | _=>.Pass ⟨0,0,0,0⟩
def fW(s:Stmt):Arguments:=match s with
 | .FunctionDef _ a _ _ _ _ _ _ _ _=>a
 | _=>{ posonlyargs:=[],args:=[],vararg:=none,kwonlyargs:=[],kw_defaults:=[],kwarg:=none,defaults:=[] }
def de(s:Stmt):List Stmt:=match s with
 | .FunctionDef _ _ b _ _ _ _ _ _ _=>b
 | _=>[]
def aC(s:Stmt):Scope:=match s with
 | .FunctionDef _ _ _ _ _ _ sc _ _ _=>sc
 | _=>{ kind:=.function,names:=[],isGenerator:=false,isCoroutine:=false }
abbrev Hk:C8:=λ_ _ _ _ _ _=>False
abbrev E0:XK:=λ_ _ _=>False
section
variable{K:Nr}{base:Heap}
end
theorem o4{n:Nat}(h:n<=1000):n<sizeLine:=OC h (by decide)
section
variable{X:Cx}
end
def aX(H H':Hp):Prop:=∀ b o,H b=some o->H' b=some o
end L2
section
namespace HD
open PySem PySem.W L2
abbrev pw:Program:=PySem.Challenge.pw_dialvault_k54_settings_led
noncomputable section
noncomputable def st(s:String)(t:Nat):Value:=.str (NF s) t
def en(P:Params)(s:String)(t:Nat)(v:Value):DictEntry:=⟨PyData.keyHash P (NF s),st s t,v⟩
def tu(xs:List Value):Obj:=⟨.type "tuple", none,.seq ⟨xs⟩ 0,⟨[]⟩⟩
def di(n:Nat)(es:List DictEntry):Obj:=⟨.type "dict", none,.dict ⟨es⟩ n,⟨[]⟩⟩
def tp(i:Nat):Stmt:=pw.main.body.getD i (.Pass ⟨0,0,0,0⟩)
def mp(i j:Nat):Stmt:=inClass (tp i) j
def co(a b:String)(t:Nat)(l n:Int)(x1 x2 x3 x4 x5:Nat)(u:Nat):Obj:=⟨.type "code", none,.fields ⟨[st a t,st b (t+1),st "/claim/cut.py" (t+2),.int l 0,.int n 0,.int 0 0,.int 0 0,.int 3 0,.ref x1,.bool true,.int 181 0,.ref x2,.none,.ref x3,.ref x4,.ref x5,.int u 0,.int l 0,st "/claim/cut.py" (u+1)]⟩,⟨[]⟩⟩
def ft(a b:String)(s:Stmt):Obj:=⟨.none,none,.func ⟨NF a,NF b,fW s,.stmts (de s),aC s,0,[],.none,.none,.none,.none,none,.none,.none,0⟩,⟨[]⟩⟩
def fo(a b:String)(s:Stmt)(df pm:Value)(cd:Nat):Obj:=⟨.type "function", none,.func ⟨NF a,NF b,fW s,.stmts (de s),aC s,3,[],df,.none,.none,pm,none,.ref cd,.none,0⟩,⟨[]⟩⟩
def Dq:List Obj->List Obj
 | []=>[]
 | [a]=>[a]
 | a::_::r=>a::Dq r
def bt:Nat->List Obj->BT
 | 0,_=>.nil
 | _+1,[]=>.nil
 | n+1,a::r=>.node a (bt n (Dq r)) (bt n (Dq (r.drop 1)))
def S(L:Params->List Obj)(n k:Nat)(w:World)(os:OsState):SharedT:=⟨bt 14 (L w.params),n,{},⟨[]⟩,⟨0,0,0,0⟩,k,os⟩
def F(L:Params->List Obj)(k:Nat)(w:World)(os:OsState):Shared:=⟨⟨⟨L w.params⟩,{}⟩,⟨[]⟩,⟨0,0,0,0⟩,k,os⟩
def cc(a:String)(t:Nat)(l:Int)(x y u:Nat):Obj:=⟨.type "code", none,.fields ⟨[st a t,st a (t+1),st "/claim/cut.py" (t+2),.int l 0,.int 0 0,.int 0 0,.int 0 0,.int 0 0,.ref x,.bool false,.int 181 0,.ref y,.none,.none,.none,.none,.int u 0,.int l 0,st "/claim/cut.py" (u+1)]⟩,⟨[]⟩⟩
def fr(a b:Nat)(s:String)(t:Nat):Obj:=⟨.type "frame", none,.plain,⟨[some (.ref a),some (.ref 3),some (.ref b),none,some (st s t),none,some (.ref 0)]⟩⟩
def su(a:Nat):Obj:=⟨.type "super", none,.fields ⟨[.ref a,.ref a,.ref a]⟩,⟨[]⟩⟩
def ii(a:Nat):Obj:=⟨.type "builtin_function_or_method", none,.fields ⟨[.builtin "object.__init_subclass__", .ref a]⟩,⟨[]⟩⟩
def G6:List Nat->List Value
 | a::b::c::r=>.int a 0::.int b 0::.ref c::G6 r
 | _=>[]
def fi(xs:List Nat):Obj:=⟨.none,none,.fields ⟨G6 xs⟩,⟨[]⟩⟩
def cl(n:Str)(bs ms:List Value)(k:Nat)(ss:List Value)(sl:List (Option Value)):Obj:=⟨.type "type", none,.cls ⟨n,bs,ms,k,n,true,[],ss,false,none,false⟩,⟨sl⟩⟩
def pt(L:List Obj)(us:List (Nat×Obj))(ns:List Obj):List Obj:=us.foldl (λl u=>l.set u.1 u.2) L++ns
abbrev b0:=boot_o_0
abbrev b1:=boot_o_1
abbrev b2:=boot_o_2
abbrev b3:=boot_o_3
abbrev b4:=boot_o_4
abbrev b5:=boot_o_5
abbrev b6:=boot_o_6
abbrev b7:=boot_o_7
abbrev b8:=boot_o_8
abbrev b9:=boot_o_9
abbrev JY:=boot_o_10
def m0:Value:=st "__main__" 164
def m1:Value:=st "dialvault.errors" 194
def m2:Value:=st "dialvault.wholes" 395
def m3:Value:=st "dialvault.vault" 449
def m4:Value:=st "dialvault.gears" 578
def m5:Value:=st "law_dialvault_k54_settings_led" 633
def nl:List String->Nat->List Value
 | [],_=>[]
 | x::r,t=>st x t::nl r (t+1)
def fA(P:Params)(a t:Nat)(x q:String)(s:Stmt)(l n:Int)(vs:List String)(df pm:Value):List Obj:=[b7 P,b8 P,tu (nl vs (t+3)),b7 P,ft x q s,co x q t l n a (a+1) (a+2) (a+3) (a+4) (t+3+vs.length),fo x q s df pm (a+5)]
def fT(P:Params)(a t:Nat)(x:String)(s:Stmt)(l n:Int)(vs:List String)(pm:Value):List Obj:=fA P a t x x s l n vs .none pm
def fB(P:Params)(a t:Nat)(x q:String)(s:Stmt)(l n:Int)(df pm:Value):List Obj:=[b7 P,b8 P,ft x q s,⟨.type "code", none,.fields ⟨[st x t,st q (t+1),st "/claim/cut.py" (t+2),.int l 0,.int n 0,.int 0 0,.int 0 0,.int 3 0,.ref a,.bool true,.int 181 0,.ref (a+1),.none,.none,.none,.ref (a+2),.int (t+3) 0,.int l 0,st "/claim/cut.py" (t+4)]⟩,⟨[]⟩⟩,fo x q s df pm (a+3)]
def dB(P:Params)(n t:Nat)(m:Value)(l:Int)(r:List DictEntry):Obj:=di n (en P "__module__" t m::en P "__firstlineno__" (t+4) (.int l (t+3))::r)
def dA(P:Params)(n t:Nat)(m:Value)(x:String)(l:Int)(r:List DictEntry):Obj:=di n (en P "__module__" t m::en P "__qualname__" (t+2) (st x (t+1))::en P "__firstlineno__" (t+4) (.int l (t+3))::r)
def gw(t a:Nat):Obj:=⟨.type "getset_descriptor", none,.fields ⟨[st "__weakref__" t,.ref a,.builtin "ExceptionGroup.__weakref__", .none]⟩,⟨[]⟩⟩
def gd(t a:Nat):Obj:=⟨.type "getset_descriptor", none,.fields ⟨[st "__dict__" t,.ref a,.builtin "function.__dict__", .builtin "function.__dict__#set"]⟩,⟨[]⟩⟩
def ce(x:String)(b a k:Nat)(ss:List Value)(d t u:Nat):Obj:=cl x [.ref b] [.ref a,.ref b,.type "ValueError", .type "Exception", .type "BaseException", .type "object"] k ss [some (.ref d),none,some (st x t),some (st x u),some (.builtin "ValueError.__new__"),some (.bool true)]
def gl P:=[en P "__doc__" 166 .none,en P "__package__" 167 .none,en P "__loader__" 168 (.builtin "__main__.__loader__#opaque"),en P "__spec__" 169 .none,en P "__annotations__" 170 (.ref 6),en P "__builtins__" 171 (.ref 4),en P "__file__" 173 (st "/claim/cut.py" 172),en P "__cached__" 174 .none,en P "_wall" 193 (.ref 21),en P "VaultError" 220 (.ref 38),en P "NoDial" 252 (.ref 65),en P "NoLever" 284 (.ref 91),en P "NoPrice" 316 (.ref 117),en P "NoSetting" 339 (.ref 136),en P "TooMany" 362 (.ref 155),en P "NoGear" 394 (.ref 181),en P "is_whole" 403 (.ref 190),en P "is_row" 409 (.ref 195),en P "common" 421 (.ref 202),en P "multiple_of" 430 (.ref 209),en P "column" 436 (.ref 214),en P "rest_sum" 442 (.ref 219),en P "rest_sums" 448 (.ref 224),en P "MOST_DIALS" 452 (.int 6 451),en P "LEAST_SIZE" 454 (.int 2 453),en P "MOST_SIZE" 456 (.int 360 455),en P "MOST_LEVERS" 458 (.int 8 457),en P "LEAST_PRICE" 460 (.int 1 459),en P "MOST_PRICE" 462 (.int 1000 461),en P "Vault" 520 (.ref 268),en P "is_within" 529 (.ref 279),en P "need_sizes" 538 (.ref 286),en P "need_levers" 548 (.ref 293),en P "prices_for" 557 (.ref 300),en P "rests" 563 (.ref 305),en P "is_setting" 569 (.ref 310),en P "need_setting" 577 (.ref 317),en P "Gear" 616 (.ref 339),en P "is_tooth_row" 622 (.ref 348),en P "need_teeth" 632 (.ref 355),en P "_law_cell" 642 (.ref 362),en P "_law_mix" 651 (.ref 369),en P "_law_digits" 661 (.ref 376),en P "_law_size" 668 (.ref 383),en P "_law_sizes" 674 (.ref 388),en P "_law_divisor" 682 (.ref 395),en P "_law_teeth" 699 (.ref 402),en P "_law_led" 705 (.ref 407),en P "_law_told" 717 (.ref 414),en P "_law_spoiled" 732 (.ref 421),en P "_law_not_round" 748 (.ref 428),en P "_law_refused" 768 (.ref 435),en P "law" 774 (.ref 440)]
def LA(P:Params):List Obj:=[b0 P,b1 P,b2 P,b3 P,b4 P,b5 P,b6 P,b7 P,b8 P,b9 P,JY P,b7 P,b8 P,cc "<module>" 182 1 11 12 185,fr 13 3 "__main__" 164]
def o9:Obj:=⟨.type "builtin_function_or_method", none,(.fields ⟨[.builtin "type.__prepare__", .type "type"]⟩),⟨[]⟩⟩
def JD:Obj:=gw 216 38
def Fl:=tu [.ref 38]
def L0 P:=pt (LA P) [(3,di 15 (en P "__name__" 165 m1::(gl P).take 14)),(12,fi [1,0,20,5,0,27,9,0,47,16,0,73,23,0,99,30,0,125])] (fT P 15 187 "_wall" (tp 0) 1 1 ["k"] m0++([tu [.type "ValueError"],o9,dA P 5 203 m1 "VaultError" 5 [en P "word" 214 (.ref 35),en P "__static_attributes__" 215 (.ref 36)],b7 P,fi [7,4,34],cc "VaultError" 198 5 25 26 201,fr 27 24 "dialvault.errors" 194]++(fA P 29 208 "word" "VaultError.word" (mp 2 0) 7 1 ["self"] .none m1++([b7 P,dB P 3 203 m1 5 [en P "word" 214 (.ref 35),en P "__static_attributes__" 215 (.ref 36),en P "__weakref__" 217 (.ref 39),en P "__doc__" 218 .none],cl "VaultError" [.type "ValueError"] [.ref 38,.type "ValueError", .type "Exception", .type "BaseException", .type "object"] 37 [.ref 65,.ref 91,.ref 117,.ref 136] [some (.ref 22),none,some (st "VaultError" 196),some (st "VaultError" 204),some (.builtin "ValueError.__new__"),some (.bool true)],JD,su 38,ii 38,Fl,o9,dA P 6 228 m1 "NoDial" 9 [en P "__init__" 240 (.ref 55),en P "word" 247 (.ref 62),en P "__static_attributes__" 249 (.ref 63)],b7 P,fi [11,4,54,14,4,61],cc "NoDial" 223 9 45 46 226,fr 47 44 "dialvault.errors" 194]++(fA P 49 233 "__init__" "NoDial.__init__" (mp 3 0) 11 2 ["self", "dial"] .none m1++(fA P 56 241 "word" "NoDial.word" (mp 3 1) 14 1 ["self"] .none m1++([tu [st "dial" 248],dB P 2 228 m1 9 [en P "__init__" 240 (.ref 55),en P "word" 247 (.ref 62),en P "__static_attributes__" 249 (.ref 63),en P "__doc__" 250 .none],ce "NoDial" 38 65 64 [] 42 221 229,su 65,ii 65,Fl,o9,dA P 6 260 m1 "NoLever" 16 [en P "__init__" 272 (.ref 81),en P "word" 279 (.ref 88),en P "__static_attributes__" 281 (.ref 89)],b7 P,fi [18,4,80,21,4,87],cc "NoLever" 255 16 71 72 258,fr 73 70 "dialvault.errors" 194]++(fA P 75 265 "__init__" "NoLever.__init__" (mp 4 0) 18 2 ["self", "lever"] .none m1++(fA P 82 273 "word" "NoLever.word" (mp 4 1) 21 1 ["self"] .none m1++([tu [st "lever" 280],dB P 2 260 m1 16 [en P "__init__" 272 (.ref 81),en P "word" 279 (.ref 88),en P "__static_attributes__" 281 (.ref 89),en P "__doc__" 282 .none],ce "NoLever" 38 91 90 [] 68 253 261,su 91,ii 91,Fl,o9,dA P 6 292 m1 "NoPrice" 23 [en P "__init__" 304 (.ref 107),en P "word" 311 (.ref 114),en P "__static_attributes__" 313 (.ref 115)],b7 P,fi [25,4,106,28,4,113],cc "NoPrice" 287 23 97 98 290,fr 99 96 "dialvault.errors" 194]++(fA P 101 297 "__init__" "NoPrice.__init__" (mp 5 0) 25 2 ["self", "lever"] .none m1++(fA P 108 305 "word" "NoPrice.word" (mp 5 1) 28 1 ["self"] .none m1++([tu [st "lever" 312],dB P 2 292 m1 23 [en P "__init__" 304 (.ref 107),en P "word" 311 (.ref 114),en P "__static_attributes__" 313 (.ref 115),en P "__doc__" 314 .none],ce "NoPrice" 38 117 116 [] 94 285 293,su 117,ii 117,Fl,o9,dA P 5 324 m1 "NoSetting" 30 [en P "word" 335 (.ref 133),en P "__static_attributes__" 336 (.ref 134)],b7 P,fi [32,4,132],cc "NoSetting" 319 30 123 124 322,fr 125 122 "dialvault.errors" 194]++(fA P 127 329 "word" "NoSetting.word" (mp 6 0) 32 1 ["self"] .none m1++([b7 P,dB P 2 324 m1 30 [en P "word" 335 (.ref 133),en P "__static_attributes__" 336 (.ref 134),en P "__doc__" 337 .none],ce "NoSetting" 38 136 135 [] 120 317 325,su 136,ii 136])))))))))))))))
def IE:Obj:=gd 514 268
def Ji:Obj:=gw 516 268
def L1 P:=pt (L0 P) [(3,di 38 (en P "__name__" 165 m4::(gl P).take 37)),(12,fi [1,0,20,5,0,27,9,0,47,16,0,73,23,0,99,30,0,125,34,0,144,38,0,163,46,0,189,48,0,194,52,0,201,63,0,208,68,0,213,70,0,218,72,0,223,81,0,230,102,0,278,104,0,285,112,0,292,118,0,299,127,0,304,129,0,309,134,0,316]),(38,cl "VaultError" [.type "ValueError"] [.ref 38,.type "ValueError", .type "Exception", .type "BaseException", .type "object"] 37 [.ref 65,.ref 91,.ref 117,.ref 136,.ref 155,.ref 181] [some (.ref 22),none,some (st "VaultError" 196),some (st "VaultError" 204),some (.builtin "ValueError.__new__"),some (.bool true)])] ([Fl,o9,dA P 5 347 m1 "TooMany" 34 [en P "word" 358 (.ref 152),en P "__static_attributes__" 359 (.ref 153)],b7 P,fi [36,4,151],cc "TooMany" 342 34 142 143 345,fr 144 141 "dialvault.errors" 194]++(fA P 146 352 "word" "TooMany.word" (mp 7 0) 36 1 ["self"] .none m1++([b7 P,dB P 2 347 m1 34 [en P "word" 358 (.ref 152),en P "__static_attributes__" 359 (.ref 153),en P "__doc__" 360 .none],ce "TooMany" 38 155 154 [] 139 340 348,su 155,ii 155,Fl,o9,dA P 6 370 m1 "NoGear" 38 [en P "__init__" 382 (.ref 171),en P "word" 389 (.ref 178),en P "__static_attributes__" 391 (.ref 179)],b7 P,fi [40,4,170,43,4,177],cc "NoGear" 365 38 161 162 368,fr 163 160 "dialvault.errors" 194]++(fA P 165 375 "__init__" "NoGear.__init__" (mp 8 0) 40 2 ["self", "dial"] .none m1++(fA P 172 383 "word" "NoGear.word" (mp 8 1) 43 1 ["self"] .none m1++([tu [st "dial" 390],dB P 2 370 m1 38 [en P "__init__" 382 (.ref 171),en P "word" 389 (.ref 178),en P "__static_attributes__" 391 (.ref 179),en P "__doc__" 392 .none],ce "NoGear" 38 181 180 [] 158 363 371,su 181,ii 181]++(fT P 184 397 "is_whole" (tp 10) 46 1 ["thing"] m2++(fB P 191 404 "is_row" "is_row" (tp 11) 48 2 .none m2++(fT P 196 410 "common" (tp 12) 52 2 ["one", "other", "row", "behind", "times", "rest"] m2++(fT P 203 422 "multiple_of" (tp 13) 63 1 ["numbers", "multiple", "number"] m2++(fB P 210 431 "column" "column" (tp 14) 68 2 .none m2++(fB P 215 437 "rest_sum" "rest_sum" (tp 15) 70 3 .none m2++(fB P 220 443 "rest_sums" "rest_sums" (tp 16) 72 3 .none m2++([b7 P,o9,dA P 9 470 m3 "Vault" 81 [en P "__init__" 480 (.ref 237),en P "sizes" 487 (.ref 244),en P "levers" 494 (.ref 251),en P "prices" 501 (.ref 258),en P "around" 508 (.ref 265),en P "__static_attributes__" 513 (.ref 266)],b7 P,fi [83,4,236,91,4,243,94,4,250,97,4,257,100,4,264],cc "Vault" 465 81 228 229 468,fr 230 227 "dialvault.vault" 449,tu [.none]]++(fB P 233 475 "__init__" "Vault.__init__" (mp 24 0) 83 4 (.ref 232) m3++(fA P 238 481 "sizes" "Vault.sizes" (mp 24 1) 91 1 ["self"] .none m3++(fA P 245 488 "levers" "Vault.levers" (mp 24 2) 94 1 ["self"] .none m3++(fA P 252 495 "prices" "Vault.prices" (mp 24 3) 97 1 ["self"] .none m3++(fA P 259 502 "around" "Vault.around" (mp 24 4) 100 1 ["self"] .none m3++([tu [st "dial_sizes" 509,st "least_round" 510,st "lever_prices" 511,st "lever_settings" 512],dB P 4 470 m3 81 [en P "__init__" 480 (.ref 237),en P "sizes" 487 (.ref 244),en P "levers" 494 (.ref 251),en P "prices" 501 (.ref 258),en P "around" 508 (.ref 265),en P "__static_attributes__" 513 (.ref 266),en P "__dict__" 515 (.ref 269),en P "__weakref__" 517 (.ref 270),en P "__doc__" 518 .none],cl "Vault" [.type "object"] [.ref 268,.type "object"] 267 [] [none,none,some (st "Vault" 463),some (st "Vault" 471),some (.builtin "object.__new__"),some (.bool true)],IE,Ji,su 268,ii 268]++(fT P 273 521 "is_within" (tp 25) 102 3 ["thing", "least", "most"] m3++(fT P 280 530 "need_sizes" (tp 26) 104 1 ["sizes", "dial", "size"] m3++(fT P 287 539 "need_levers" (tp 27) 112 2 ["levers", "dials", "place", "lever"] m3++(fT P 294 549 "prices_for" (tp 28) 118 2 ["levers", "prices", "place"] m3++(fB P 301 558 "rests" "rests" (tp 29) 127 2 .none m3++(fB P 306 564 "is_setting" "is_setting" (tp 30) 129 2 .none m3++(fT P 311 570 "need_setting" (tp 31) 134 2 ["vault", "thing"] m3)))))))))))))))))))))))))))
def IA:Obj:=gd 610 339
def HW:Obj:=gw 612 339
def L2 P:=pt (L1 P) [(3,di 54 (en P "__name__" 165 m5::gl P)),(12,fi [1,0,20,5,0,27,9,0,47,16,0,73,23,0,99,30,0,125,34,0,144,38,0,163,46,0,189,48,0,194,52,0,201,63,0,208,68,0,213,70,0,218,72,0,223,81,0,230,102,0,278,104,0,285,112,0,292,118,0,299,127,0,304,129,0,309,134,0,316,138,0,323,149,0,347,153,0,354,158,0,361,162,0,368,166,0,375,172,0,382,176,0,387,181,0,394,185,0,401,195,0,406,200,0,413,211,0,420,223,0,427,232,0,434,245,0,439])] ([b7 P,o9,dA P 6 587 m4 "Gear" 138 [en P "__init__" 597 (.ref 329),en P "led" 605 (.ref 336),en P "__static_attributes__" 609 (.ref 337)],b7 P,fi [140,4,328,146,4,335],cc "Gear" 582 138 321 322 585,fr 323 320 "dialvault.gears" 578]++(fB P 325 592 "__init__" "Gear.__init__" (mp 33 0) 140 4 .none m4++(fA P 330 598 "led" "Gear.led" (mp 33 1) 146 2 ["self", "setting"] .none m4++([tu [st "front_dials" 606,st "rear_dials" 607,st "tooth_rows" 608],dB P 4 587 m4 138 [en P "__init__" 597 (.ref 329),en P "led" 605 (.ref 336),en P "__static_attributes__" 609 (.ref 337),en P "__dict__" 611 (.ref 340),en P "__weakref__" 613 (.ref 341),en P "__doc__" 614 .none],cl "Gear" [.type "object"] [.ref 339,.type "object"] 338 [] [none,none,some (st "Gear" 580),some (st "Gear" 588),some (.builtin "object.__new__"),some (.bool true)],IA,HW,su 339,ii 339]++(fB P 344 617 "is_tooth_row" "is_tooth_row" (tp 34) 149 3 .none m4++(fT P 349 623 "need_teeth" (tp 35) 153 3 ["front", "rear", "teeth", "dial"] m4++(fT P 356 635 "_law_cell" (tp 37) 158 2 ["_law_script", "_law_k"] m5++(fT P 363 643 "_law_mix" (tp 38) 162 2 ["_law_cell_here", "_law_k", "_law_number"] m5++(fT P 370 652 "_law_digits" (tp 39) 166 2 ["_law_cell_here", "_law_sizes_here", "_law_row", "_law_size_here"] m5++(fT P 377 662 "_law_size" (tp 40) 172 1 ["_law_number"] m5++(fB P 384 669 "_law_sizes" "_law_sizes" (tp 41) 176 1 .none m5++(fT P 389 675 "_law_divisor" (tp 42) 181 2 ["_law_one", "_law_other"] m5++(fT P 396 683 "_law_teeth" (tp 43) 185 3 ["_law_cell_here", "_law_front", "_law_rear", "_law_teeth_here", "_law_dial", "_law_size_here", "_law_row", "_law_place", "_law_other", "_law_number", "_law_tooth"] m5++(fB P 403 700 "_law_led" "_law_led" (tp 44) 195 3 .none m5++(fT P 408 706 "_law_told" (tp 45) 200 4 ["_law_front", "_law_rear", "_law_teeth_here", "_law_thing", "_law_told_here", "e"] m5++(fT P 415 718 "_law_spoiled" (tp 46) 211 4 ["_law_cell_here", "_law_front", "_law_rear", "_law_teeth_here", "_law_at", "_law_place", "_law_row", "_law_some", "_law_found"] m5++(fT P 422 733 "_law_not_round" (tp 47) 223 4 ["_law_cell_here", "_law_front", "_law_rear", "_law_teeth_here", "_law_dial", "_law_size_here", "_law_place", "_law_other", "_law_row", "_law_behind"] m5++(fT P 429 749 "_law_refused" (tp 48) 232 4 ["_law_cell_here", "_law_front", "_law_rear", "_law_teeth_here", "_law_at", "_law_wrong", "_law_dial", "_law_other", "_law_rows", "_law_some", "_law_more", "_law_what", "_law_due", "_law_bad"] m5++(fB P 436 769 "law" "law" (tp 49) 245 1 .none m5)))))))))))))))))))
def LF(P:Params):=L2 P
def bE:List Stmt:=behindTheImports pw
def env:Env:={ scope:=pw.main.scope,locals:=mainNs,globals:=mainNs,cells:=[],code:=.ref 13,frame:=some 14 }
def cE:Code:=.body bE env
abbrev B:List Frame:=[topFrame ⟨0,0,0,0⟩]
abbrev ann:Option Value:=(some (.ref 6))
def Fh:List Stmt:=(bE.drop 0).take 7
def DC:List Stmt:=(bE.drop 7).take 26
def Eo:List Stmt:=(bE.drop 33).take 17
end
theorem vL:∀ w:World,(λos=>topGo treeTable pw w 11 ann 12 ⟨boot_heap w.params,⟨[]⟩,boot_drawn,boot_toks,os⟩ (topStub pw))=λos=>some (F LA 187 w os,⟨denote treeTable cE,cE,⟨0,0,0,0⟩,B⟩):=λw=>by
 rw[PySem.W.Fast.te15667345088766844465,N_,PySem.W.Fast.te11892475500146522536]
 kernel_rfl
theorem Jg:∀ w:World,(λos=>segRun treeTable pw w 11 ann 1 1 (F LA 187 w os) (blockOf bE env cE ⟨0,0,0,0⟩ B))=λos=>some (Sa,(S LA 15 187 w os).abs,cE,⟨0,0,0,0⟩):=λw=>by
 rw[PySem.W.Fast.te14374325043358763698,N_]
 kernel_rfl
theorem JL:∀ w:World,(λos=>segRunT treeTable pw w 11 ann 1 1326 (S LA 15 187 w os) (piecesOf Fh env cE ⟨0,0,0,0⟩ B))=λos=>some (Sa,S L0 139 340 w os,cE,⟨30,0,33,27⟩):=λw=>by
 rw[Pf,N_]
 kernel_rfl
theorem JF:∀ w:World,(λos=>segRunT treeTable pw w 11 ann 1 1352 (S L0 139 340 w os) (piecesOf DC env cE ⟨30,0,33,27⟩ B))=λos=>some (Sa,S L1 318 580 w os,cE,⟨137,0,137,8⟩):=λw=>by
 rw[Pf,N_]
 kernel_rfl
theorem Fs:∀ w:World,(λos=>segRunT treeTable pw w 11 ann 1 740 (S L1 318 580 w os) (piecesOf Eo env cE ⟨137,0,137,8⟩ B))=λos=>some (Sa,S L2 441 775 w os,cE,⟨245,0,266,90⟩):=λw=>by
 rw[Pf,N_]
 kernel_rfl
theorem Dp:∀ w:World,(λos=>topRun treeTable pw w 11 ann 2 (S L2 441 775 w os).abs ⟨doneF .next,cE,⟨245,0,266,90⟩,B⟩)=λos=>some (F LF 775 w os):=λw=>by
 rw[PySem.W.Fast.te14082659384304107361,N_]
 kernel_rfl
theorem JG:bE=(Fh++(DC++(Eo++[]))):=by kernel_rfl
theorem zk(w:World)(os:OsState):topRun treeTable pw w 11 ann (1326+(1352+(740+2))) (S LA 15 187 w os).abs (restOf bE env cE ⟨0,0,0,0⟩ B)=some (F LF 775 w os):=by
 rw[show restOf bE env cE ⟨0,0,0,0⟩ B=restOf (Fh++(DC++(Eo++[]))) env cE ⟨0,0,0,0⟩ B from congrArg (λb=>restOf b env cE ⟨0,0,0,0⟩ B) JG];exact piece_app (segRun_of (congrFun (JL w) os)) (piece_app (segRun_of (congrFun (JF w) os)) (piece_app (segRun_of (congrFun (Fs w) os)) (piece_nil (congrFun (Dp w) os))))
theorem Hm(w:World)(os:OsState):topRun treeTable pw w 11 ann (12+(1+(1326+(1352+(740+2))))) ⟨boot_heap w.params,⟨[]⟩,boot_drawn,boot_toks,os⟩ (topStub pw)=some (F LF 775 w os) :=
 go_top (congrFun (vL w) os) (piece_block (congrFun (Jg w) os) (zk w os))
end HD
end
section
namespace HD
open PySem PySem.W L2
noncomputable section
def vw:Program:=PySem.W.view pw [0,2,3,4,5,6,7,8,10,11,12,13,14,15,16,18,19,20,21,22,23,24,25,26,27,28,29,30,31,33,34,35,37,38,39,40,41,42,43,44,45,46,47,48,49]
def loose:List Str:=[]
noncomputable def as:List Addr:=[2,3,15,17,18,20,21,22,29,31,32,34,35,36,37,38,39,42,49,51,52,54,55,56,58,59,61,62,63,64,65,68,75,77,78,80,81,82,84,85,87,88,89,90,91,94,101,103,104,106,107,108,110,111,113,114,115,116,117,120,127,129,130,132,133,134,135,136,139,146,148,149,151,152,153,154,155,158,165,167,168,170,171,172,174,175,177,178,179,180,181,184,186,187,189,190,191,194,195,196,198,199,201,202,203,205,206,208,209,210,213,214,215,218,219,220,223,224,232,233,236,237,238,240,241,243,244,245,247,248,250,251,252,254,255,257,258,259,261,262,264,265,266,267,268,269,270,273,275,276,278,279,280,282,283,285,286,287,289,290,292,293,294,296,297,299,300,301,304,305,306,309,310,311,313,314,316,317,325,328,329,330,332,333,335,336,337,338,339,340,341,344,347,348,349,351,352,354,355,356,358,359,361,362,363,365,366,368,369,370,372,373,375,376,377,379,380,382,383,384,387,388,389,391,392,394,395,396,398,399,401,402,403,406,407,408,410,411,413,414,415,417,418,420,421,422,424,425,427,428,429,431,432,434,435,436,439,440]
def K(P:Params):Frag:=as.map λa=>(a,(LF P).getD a (su 0))
def hook:Hook:=kHook K as (λ_=>by kernel_rfl)
abbrev rr:RowW:=(PySem.Challenge.rw_dialvault_k54_settings_led.row).toRowW
def Xt:Shared->Bool:=λs=>xlAt vw [] s&&recOk (RowW.records rr) s
def H1(P:Params):Heap:=⟨⟨LF P⟩,{}⟩
end
theorem FZ:∀ w:World,((boot_heap w.params).isNs mainGlobals&&(Array.mk []:Array GenState).size==0,(boot_heap w.params).objs.size,(boot_heap w.params).nsMap mainGlobals "__annotations__")=(true,11,ann):=λw=>by
 rw[PySem.W.Fast.te8920871248978507458]
 kernel_rfl
theorem JP(w:World):staticsOk (importedModules pw.main.body) (boot_heap w.params) (H1 w.params)=true:=by
 first | (rw[NK,NL];kernel_rfl) | (rw[NK];kernel_rfl) | (rw[NL];kernel_rfl) | (kernel_rfl)
theorem JW(w:World):namesBound pw (H1 w.params)=true:=by
 first | (rw[NK,NL];kernel_rfl) | (rw[NK];kernel_rfl) | (rw[NL];kernel_rfl) | (kernel_rfl)
theorem JQ(w:World)(os:_):gensDone ⟨H1 w.params,⟨[]⟩,⟨0,0,0,0⟩,775,os⟩=true:=by
 first | (rw[NK,NL];kernel_rfl) | (rw[NK];kernel_rfl) | (rw[NL];kernel_rfl) | (kernel_rfl)
theorem JE(w:World):laidKept (boot_heap w.params) (H1 w.params)=true:=by
 first | (rw[NK,NL];kernel_rfl) | (rw[NK];kernel_rfl) | (rw[NL];kernel_rfl) | (kernel_rfl)
theorem JO(w:World)(os:_):openSeen vw loose (importedModules pw.main.body) Xt true ⟨H1 w.params,⟨[]⟩,⟨0,0,0,0⟩,775,os⟩=openGood vw loose:=by
 first | (rw[NK,NL];kernel_rfl) | (rw[NK];kernel_rfl) | (rw[NL];kernel_rfl) | (kernel_rfl)
theorem JJ(w:World)(os:_):Hook.obs hook ⟨H1 w.params,⟨[]⟩,⟨0,0,0,0⟩,775,os⟩=Hook.val hook w:=by
 first | (rw[NK,NL];kernel_rfl) | (rw[NK];kernel_rfl) | (rw[NL];kernel_rfl) | (kernel_rfl)
theorem E7:∀ w:World,(λos=>((staticsOk (importedModules pw.main.body) (boot_heap w.params) (H1 w.params)&&namesBound pw (H1 w.params)&&gensDone ⟨H1 w.params,⟨[]⟩,⟨0,0,0,0⟩,775,os⟩&&laidKept (boot_heap w.params) (H1 w.params)),
  openSeen vw loose (importedModules pw.main.body) Xt true ⟨H1 w.params,⟨[]⟩,⟨0,0,0,0⟩,775,os⟩,Hook.obs hook ⟨H1 w.params,⟨[]⟩,⟨0,0,0,0⟩,775,os⟩))=λ_=>(true,openGood vw loose,Hook.val hook w):=λw=>funext λos=>by
 rw[JP,JW,JQ,JE,JO,JJ];rfl
theorem FR:LeftO pw vw loose Xt (Hook.obs hook) (Hook.val hook) 6956 :=
 LeftO.of_pieces (H₀:=boot_heap) (H₁:=H1) (gs₀:=⟨[]⟩) (gs₁:=⟨[]⟩) (d₀:=boot_drawn) (d₁:=⟨0,0,0,0⟩) (k₀:=boot_toks) (k₁:=775) (m₀:=11) (ann:=ann) (M:=(12+(1+(1326+(1352+(740+2))))))
  (boot_open (by kernel_rfl) (by kernel_rfl) (λs=>by kernel_rfl)) FZ Hm (by kernel_rfl) E7
end HD
end
section
open PySem PySem.W
theorem HD.said:PySem.Challenge.rw_dialvault_k54_settings_led.wellSaid=true:=by
 decide +kernel
end
namespace L2
open PySem PySem.Spec PyProof.Rows
variable{X:Cx}
variable{n:Nat}
def xf(_ j:Int):Prop:=j≠0/\j.natAbs.log2<9000
theorem yX:fD X (binaryOp .FloorDiv) (rI xf λi j=>.int (i.fdiv j)):=G8 λ_ _ _ _ _ _ _ hc q=>floordiv_int hc.1 q (.inl (PyProof.noPylong_of_log2 hc.2))
theorem BF:fD X (binaryOp .Mult) (rI (λi j=>IntMulOk i j) λi j=>.int (i*j)):=G8 λ_ _ _ _ _ _ _ hc q=>mul_int q hc
theorem xB{a b:Int}{m:Nat}(ha:a.natAbs<2^m)(hb:b.natAbs<2^n)(h:m+n<=134217728):IntMulOk a b:=IntMulOk.of_le (intBits_le_iff.mpr ha) (intBits_le_iff.mpr hb) h
theorem qw:bootBuiltins "isinstance" = some (.builtin "isinstance"):=by decide +kernel
theorem zu:bootBuiltins "int" = some (.type "int"):=by decide +kernel
theorem BQ:bootBuiltins "bool" = some (.type "bool"):=by decide +kernel
theorem nq:bootBuiltins "tuple" = some (.type "tuple"):=by decide +kernel
theorem uT:bootBuiltins "list" = some (.type "list"):=by decide +kernel
theorem DH:bootBuiltins "sum" = some (.builtin "sum"):=by decide +kernel
def HU(K:Nr):List V->Hp->VK->Prop:=λxs H Q=>∃ x T t b,xs=[x,.ty T]/\hX K H x t/\NI K t (.type T)=some b/\Q (.bl b) H
def Ig(K:Nr):List V->Hp->VK->Prop:=λxs H Q=>∃ x C t b,xs=[x,.ref C]/\hX K H x t/\NI K t (.ref C)=some b/\Q (.bl b) H
theorem qY:cL X (.builtin "isinstance") (HU X.K):=by
 intro J0 s σ H xs us Q I r h;obtain⟨x,T,t,b,rfl,ty,e,q⟩:=h;cases r with
 | cons r1 r2 =>
  cases r2 with
  | cons r3 r4 =>
   cases r4;cases (show _=OW T from r3);exact o_ I r1 ty e λtk=>⟨.bl b,H,I.tok tk,rfl,q⟩
theorem yk:cL X (.builtin "isinstance") (Ig X.K):=by
 intro J0 s σ H xs us Q I r h;obtain⟨x,C,t,b,rfl,ty,e,q⟩:=h;cases r with
 | cons r1 r2 =>
  cases r2 with
  | cons r3 r4 =>
   cases r4;cases (show _=NB C from r3);exact o_ I r1 ty e λtk=>⟨.bl b,H,I.tok tk,rfl,q⟩
section
variable(K:Nr)
end
variable{o:HO}{a:Addr}{ch:List Addr}{t':Nat}{h':Heap}{s:Shared}{H:Hp}{σ:St}{J0:List (Addr×Obj)}
variable{x1:Nat}{elts:List Expr}{w:World}{P:Program}
theorem Inv.iX(I:Inv X J0 σ H s)(k:∀ b u,b ∉ ch->s.heap.get? b=some u->h'.get? b=some u)
  (Lk:∀ b∈ch,jZ X J0 H b) (hp:s.heap.objs.size<=a) (hl:∀ b∈ch,∃ u,s.heap.get? b=some u) (new:bS X.prog X.w (upd H a o) h' a o):Inv X J0 σ (upd H a o) { s with heap:=h',toks:=t' }:=by
 have ne:∀ b u,s.heap.get? b=some u->b≠a:=λb u e=>NP (NG (Nz e) hp);have L8:H a=none:=I.bw.fresh hp;have Mh:∀ b u,H b=some u->b ∉ ch:=λb u e z=>by rw[(Lk b z).1] at e;cases e
 have Mg:∀ b u,H b=some u->b≠a:=λb u e z=>by rw[z,L8] at e;cases e
 refine I.step (g':=s.gens) (d':=s.drawn) (ch:=ch) (λb hb=>?_) (λb u _ _ hc e _=>k b u hc e) (λb u _ _ hc e _=>⟨u.slots,k b u hc e⟩)
  (λb u _ e n=>by rw[av (ne b u e)];exact n) (λb u hc e=>⟨u,k b u hc e⟩)
  (λb xs e=>by rw[av (Mg b _ e)];exact e) (λb ob u e=>by rw[av (Mg b _ e)];exact e) (λb ps e=>⟨#[],by rw[av (Mg b _ e),e];simp⟩) (λm hm=>?_) (λb u e=>?_) I.bare
 .obtain⟨_,f1,_,f3,f4,f5⟩:=Lk b hb;exact⟨f3,f1,f4,f5⟩
 .obtain⟨ob,es,ep,ho,r⟩:=hm;exact⟨ob,es,ep,k _ ob (λz=>(Lk _ z).2.1 rfl) ho,r⟩
 .by_cases z:b=a
  .subst z;rw[az] at e;cases e;exact new
  .rw[av z] at e;refine(I.bw b u e).jK (λc v hc q=>k c v ?_ q) (λc q=>?_) λc ys q=>?_
   .rcases hc with z' | z'
    .rw[z'];exact Mh b u e
    .exact Mh c _ z'
   .rw[av (Mg c _ q)];exact q
   .rw[av (Mg c _ q)];exact q
def E_ (K : Nr) (a : Addr) : It :=
  ⟨λi H => ∃ xs x, gc K H a xs /\ xs[i]? = some x,
   λi H y H' => ∃ p x, H p = none /\ y = .ref p /\ H' = upd H p (.tup [.int i, x]) /\ ∀ xs, gc K H a xs -> xs[i]? = some x,
   λi H => ∃ xs, gc K H a xs /\ xs.length <= i⟩
theorem vF{K:Nr}{tp:Pos}(a e it:Addr)(LV:e≠it):Turn P w K (.Tuple elts x1 tp) (E_ K a) [e,it] e (λi h=>(∃ old,IsEnum h e it i old)/\h.IsListIter it a i) where
 mem:=by simp
 obj:=λi h st b hb=>by
  obtain⟨⟨old,he⟩,⟨o,e1,c,d⟩⟩:=st;rcases NJ.mp hb with z | z
  .subst z;exact⟨_,he,λv z=>by cases z⟩
  .have z':b=it:=by simpa using z
   subst z';exact⟨o,e1,λv z=>by rw[d] at z;cases z⟩
 keep:=λi h h' st k=>by
  obtain⟨⟨old,he⟩,hit⟩:=st;exact⟨⟨old,k e (by simp) _ he⟩,hit.at λo x=>k it (by simp) o x⟩
 item:=by
  intro X hP hw hK hc i J0 s σ H E I hf st hg;subst hP hw hK;obtain⟨xs,x,hq,hx⟩:=hg;obtain⟨J4,rv,p,hz⟩:=I.list hq;obtain⟨u,hu,ru⟩:=rv.get hx;obtain⟨⟨old,he⟩,hit⟩:=st;have L7:e<s.heap.objs.size:=Nz he;have MC:it<s.heap.objs.size:=by obtain⟨_,z,_⟩:=hit;exact Nz z
  refine wpAny_pyNext_enum_item he hit p.isList (x:=u) (by simpa using hu) LV λh' ho MD hT K7 hk=>⟨_,rfl,?_⟩
  refine RN (s:={ s with heap:=h',toks:=s.toks+1 }) ho λh2 he2 Li=>?_;have Me:∀ b o,b ∉ [e,it]->s.heap.get? b=some o->h2.get? b=some o:=λb o hb q=>by
   have n1:b≠e:=λz=>hb (by simp[z]);have n2:b≠it:=λz=>hb (by simp[z]);exact(Li.2 b n1).trans (hk b o n1 n2 q)
  have Mn:h2.get? s.heap.objs.size=some { cls:=.type "tuple", data:=.seq #[.int i s.toks,u] }:=(Li.2 _ (Pd L7)).trans hT;have I2:Inv X J0 σ (upd H s.heap.objs.size (.tup [.int i,x])) { s with heap:=h2,toks:=s.toks+1 } :=
   I.iX (ch:=[e,it]) Me hf (NC _) (λb hb=>by
    rcases NJ.mp hb with z | z
    .subst z;exact⟨_,he⟩
    .have z':b=it:=by simpa using z
     subst z';obtain⟨o,z,_⟩:=hit;exact⟨o,z⟩)
    ⟨by show 2<=sizeLine;decide,[.int i s.toks,u],.cons ⟨_,rfl⟩ (.cons ru .nil),⟨_,Mn,rfl,_,rfl⟩⟩
  have K4:H s.heap.objs.size=none:=I.bw.fresh (NC _);refine⟨.ref s.heap.objs.size,_,I2,rfl,⟨_,x,K4,rfl,rfl,λys hy=>by rw[I.lV hy hq];exact hx⟩,⟨⟨u,by simpa using he2⟩,MD.at λo z=>(Li.2 it (O5 LV)).trans z⟩,λb hb=>?_⟩;have nb:b≠s.heap.objs.size:=by
   rcases NJ.mp hb with z | z
   .rw[z];exact NP L7
   .have z':b=it:=by simpa using z
    rw[z'];exact NP MC
  rw[av nb];exact(hf b hb).1
 done:=by
  intro X hP hw hK hc i J0 s σ H E I hf st hg;subst hP hw hK;obtain⟨xs,hq,hx⟩:=hg;obtain⟨J4,rv,p,hz⟩:=I.list hq;have hl:=rv.length;obtain⟨⟨old,he⟩,hit⟩:=st;obtain⟨f0,f1,f2,f3,f4,f5⟩:=hf it (by simp);exact wpAny_pyNext_enum_end (I.ok.hd hc) he hit p.isList (by simp;lia) λh' eb=>⟨rfl,I.turned (t':=s.toks) (λb o hb e=>eb b o hb e) f0 f1 f3 f4 f5⟩
 self:=λ_ _ _ _ _ st h=>by
  obtain⟨⟨old,he⟩,_⟩:=st;exact QW he h
variable{A:Around}{prog:Program}
variable{pos:Pos}{scope:Scope}{ifs:List Expr}{elt iter:Expr}
section
variable{R:Result->Shared->Prop}
theorem v5{target:Expr}{it acc:Value}{env:Env}(I:Nat->Shared->Prop)
  (turn:∀ n s,I n s->wpAny (model prog w) A (pyNext it) (λr s₁=>match r with
   | none=>R (.ok .next) s₁
   | some v=>wpAny (model prog w) A (letOwnedTupleGo target it v) (λ_ s₂=>wpAny (model prog w) A (assign target env v) (λ_ s₃ =>
     wpAny (model prog w) A (forIn ifs true λc r=>if r=true then do let ok <- isTrue c env (eval c env);pure (UD ok) else pure (UD r)) (λok s₄ =>
      if ok=true then wpAny (model prog w) A (eval elt env) (λx s₅ =>
       wpAny (model prog w) A (call (.builtin "list.append") [acc,x]) (λ_ s₆=>∃ m,m<n/\I m s₆) (λ_ _=>False) s₅) (λ_ _=>False) s₄
      else ∃ m,m<n/\I m s₄) (λ_ _=>False) s₃) (λ_ _=>False) s₂) (λ_ _=>False) s₁) (λ_ _=>False) s)
  (n:Nat) (h:I n s) :
  codeAny (model prog w) A (.compLoop (.ListComp elt [⟨target,iter,ifs,0⟩] scope pos) 0 it acc env) R s:=by
 refine codeAny_loop rfl I (λn s hI=>?_) n h;show wpAny _ A ((compTurn (.ListComp elt [⟨target,iter,ifs,0⟩] scope pos) 0 it acc env).onRaise (λx=>do noteFrame x env;theTreesLotGoes x)) _ _ s;refine wpAny_noted ?_;rw[compTurn_list];refine Np (Qw (Np (OP (turn n s hI) (λr s₁ h₁=>?_) λ_ _ h'=>h'.elim)));cases r with
 | none=>exact Nx h₁
 | some v =>
  refine Np (OP h₁ (λ_ s₂ h₂=>Np (OP h₂ (λ_ s₃ h₃=>Np (OP h₃ (λok s₄ h₄=>?_) λ_ _ h'=>h'.elim)) λ_ _ h'=>h'.elim)) λ_ _ h'=>h'.elim);cases ok with
  | false=>exact Nx ⟨rfl,h₄⟩
  | true =>
   exact Np (Np (OP h₄ (λx s₅ h₅=>Np (OP h₅ (λ_ s₆ h₆=>Nx (Nx ⟨rfl,h₆⟩)) λ_ _ h'=>h'.elim)) λ_ _ h'=>h'.elim))
end
def sA(X:Cx)(scope:Scope)(cl:List (Str×Addr))(N:List Str)(C:Addr)(s₀:Shared)(H₀:Hp)(ex:List Addr)(J0:List (Addr×Obj)):Cx :=
 { X with N:=N,s₀:=s₀,H₀:=H₀,env:=compEnvC scope cl C X.env,outer:=X.stack,stack:=X.stack,ex:=ex,fn:=λ_=>false,pn:=X.pn++J0,xe:=λ_ _=>False }
inductive iq (X:Cx) (sc:Scope) (cl:List (Str×Addr)):List Str->List Nat->Prop where
 | nil:iq X sc cl [] []
 | cons {x:Str} {j:Nat} {c:Addr} {fs:List Str} {js:List Nat} (hN:X.N[j]?=some x) (hf:sc.names.lookup x=some .free) (hv:X.env.kindOf x=some .cell\/X.env.kindOf x=some .free) (hc:X.env.cells.lookup x=some c) (hl:cl.lookup x=some c) (r:iq X sc cl fs js):iq X sc cl (x::fs) (j::js)
inductive eP (X:Cx):List (Str×Addr)->Prop where
 | nil:eP X []
 | cons {x:Str} {c:Addr} {r:List (Str×Addr)} (h:X.env.cells.lookup x=some c) (t:eP X r):eP X ((x,c)::r)
theorem eP.at{X:Cx}:∀ {cl:List (Str×Addr)},eP X cl->∀ x c,cl.lookup x=some c->X.env.cells.lookup x=some c
 | _,.nil,_,_,e=>by simp at e
 | _,.cons (x:=y) (c:=d) h t,x,c,e=>by
  rw[OD] at e;cases q:x==y with
  | true =>
   rw[q] at e;have e':d=c:=NQ e;have q':x=y:=by simpa using q
   rw[q',<- e'];exact h
  | false =>
   rw[q] at e;exact eP.at t x c e
def iZ(cl:List (Str×Addr))(names:List (Str×NameKind)):Bool:=names.all λy=>y.2 != .free||(cl.lookup y.1).isSome
def gk(names:List (Str×NameKind)):Bool:=names.all λy=>y.2 != .cell
def iW(names:List (Str×NameKind)):Bool:=names.all λy=>y.2 != .local||(names.lookup y.1==some .local)
def eX(ts:List Str)(js:List Nat)(σ:St):St:=ts.map (λ_=>none)++js.map λj=>(σ[j]?).join
def w8(wi:TI)(g:TG)(tt:Option TT)(te:TE)(ts:List Str)(js:List Nat):TE:=fun σ H Q=>wi σ H λJ H1=>∀ D,H1 D=none ->
 ∃ W:Nat->Nat->St->Hp->Prop,(∃ m,W 0 m (eX ts js σ) (upd H1 D (.lst [])))/\∀ i m σ' H',W i m σ' H' ->
  (J.stop i H'/\Q (.ref D) H')\/(J.go i H'/\∃ N:St->Hp->Prop,(∀ σ'' H'',N σ'' H''->∃ m',m'<m/\W (i+1) m' σ'' H'') ∧
   ∀ x H2,J.tU i H' x H2->g x σ' H2 fun σ2 H3=>match tt with
    | none=>te σ2 H3 λy H4=>∃ ys,H4 D=some (.lst ys)/\ys.length<sizeLine/\N σ2 (upd H4 D (.lst (ys++[y])))
    | some t=>t σ2 H3 λb H3'=>if b=true then te σ2 H3' λy H4=>∃ ys,H4 D=some (.lst ys)/\ys.length<sizeLine/\N σ2 (upd H4 D (.lst (ys++[y]))) else N σ2 H3')
variable{C:Addr}
theorem mO {cl : List (Str × Addr)} {env : Env} {x : Str} (h : (compEnvC scope cl C env).kindOf x = some .cell \/ (compEnvC scope cl C env).kindOf x = some .free) (nc : gk scope.names = true) : scope.names.lookup x = some .free := by
  have key : ∀ (names : List (Str × NameKind)), gk names = true ->
      ((names.map λ(n, k) => if (k == Q_ && env.scope.kind == .function && env.kindOf n == some .cell) then (n, S_) else (n, k)).lookup x = some .cell ∨
       (names.map λ(n, k) => if (k == Q_ && env.scope.kind == .function && env.kindOf n == some .cell) then (n, S_) else (n, k)).lookup x = some .free) -> names.lookup x = some .free := by
    intro names
    induction names with
    | nil => intro _ h; simp at h
    | cons p r ih =>
      obtain ⟨n, k⟩ := p;intro nc h;have nc' : (k != .cell) = true /\ gk r = true := by
        unfold gk at nc;rw [Tc, Ou] at nc;exact nc
      rw [NX] at h;dsimp only at h
      by_cases hc : (k == Q_ && env.scope.kind == .function && env.kindOf n == some .cell) = true
      . rw [if_pos hc] at h;rw [OD] at h ⊢;cases q : x == n with
        | true =>
          have : k = .free := by
            rw [Ou, Ou] at hc;simpa using hc.1.1
          rw [this]
        | false =>
          rw [q] at h;exact ih nc'.2 h
      . rw [if_neg hc] at h;rw [OD] at h ⊢;cases q : x == n with
        | true =>
          rw [q] at h;have nk : k ≠ .cell := by simpa using nc'.1
          rcases h with h | h
          . exact absurd (NQ h) nk
          . exact h
        | false =>
          rw [q] at h;exact ih nc'.2 h
  exact key scope.names nc h
variable{js:List Nat}{ts:List Str}{te:TE}{tt:Option TT}{J9:Pos}{tg:Expr}
theorem rP{cl:List (Str×Addr)}{wi:TI}{g:TG}{fs:List Str}(J7:X.calm=true)
  (Kq:closureFor scope X.env=pure cl) (hk:scope.kind=.function) (nc:gk scope.names=true) (lo:iW scope.names=true) (fh:iZ cl scope.names=true) (ag:eP X cl) (fr:iq X scope cl fs js)
  (hi:PI X tg iter wi) (hg:∀ C s₀ H₀ ex J0,PG (sA X scope cl (ts++fs) C s₀ H₀ ex J0) tg g)
  (ht:∀ C s₀ H₀ ex J0,match ifs,tt with | [],none=>True | [c],some t=>PT (sA X scope cl (ts++fs) C s₀ H₀ ex J0) c t | _,_=>False)
  (he:∀ C s₀ H₀ ex J0,PE (sA X scope cl (ts++fs) C s₀ H₀ ex J0) elt te)
  (hs:∀ x,foldedSetIterable iter X.env x=pure x) {Q:VK} (I:Inv X J0 σ H s) (h:w8 wi g tt te ts js σ H Q)
  (use:Option (Value->Sem Unit)) (Qv:Value->Shared->Prop)
  (Dp:∀ (D:Addr) (H':Hp) (s':Shared) (C:Addr),Inv X J0 σ H' s'->Q (.ref D) H'->(∃ m,s'.heap.Ns C m)->jZ X J0 H' C->compPost (model X.prog X.w) X.A X.xe use Qv (.ref D) C (.ok .next) s') :
  wpAny (model X.prog X.w) X.A (comprehension (.ListComp elt [⟨tg,iter,ifs,0⟩] scope pos) scope X.env J9 (newList []) false (eval iter X.env) use) Qv X.xe s:=by
 have LI:∀ y∈scope.names,y.2≠.cell:=λy hy=>by
  have:=Oh.mp nc y hy;simpa using this
 have ME:∀ y∈scope.names,y.2=.local->scope.names.lookup y.1=some .local:=λy hy hl=>by
  have:=Oh.mp lo y hy;rw[hl] at this;simpa using this
 refine wpAny_comprehension_free (use:=use) rfl hs Kq hk ME (cA (hi J0 s σ H _ I h) λv s1 h1=>cA h1 λitv s2 h2=>?_);obtain⟨it,fp,tn,J,H1,e,I2,T,LS,f2,hJ⟩:=h2;subst e;refine OI (wpAny_newFunctionEnv LI (by intro y hy;simp at hy) (λh₁ hns1 hsb1=>?_) hk);dsimp only at hns1 hsb1 ⊢;generalize hH2:s2.heap.push { cls:=.type "list", dict:=none,data:=.seq ([]:List Value).toArray }=G at hns1 hsb1 ⊢;have hC:G.objs.size=s2.heap.objs.size+1:=by rw[<- hH2,NY]
 have old:∀ b o,s2.heap.get? b=some o->h₁.get? b=some o:=λb o e=>by
  have hb:=Nz e;refine hsb1.extBut b o (NP (NG hb (QL (by rw[hC];exact O3 _)))) (Nq _ ?_);rw[<- hH2];exact Nq _ e
 have hacc:h₁.get? s2.heap.objs.size=some { cls:=.type "list", dict:=none,data:=.seq #[] }:=by
  refine hsb1.extBut _ _ (NP (by rw[hC];exact O3 _)) (Nq _ ?_);rw[<- hH2];exact Ny _ rfl
 have nD:H1 s2.heap.objs.size=none:=I2.bw.fresh (NC _);have nC:H1 G.objs.size=none:=I2.bw.fresh (by lia);obtain⟨W,⟨m0,w0⟩,turn⟩:=hJ _ nD;have M3:∀ b∈fp,b<s2.heap.objs.size:=λb hb=>by
  obtain⟨o,e,_⟩:=T.obj _ _ LS b hb;exact Nz e
 have ltk:∀ (x:Str) (c:Addr),cl.lookup x=some c->c<s2.heap.objs.size/\H1 c=none/\(∃ v,s2.heap.IsCell c v):=λx c e=>by
  have e':=ag.at x c e;obtain⟨v,q⟩:=I2.cell x c e';exact⟨q.lt,I2.eQ x c e',v,q⟩
 let X':=sA X scope cl (ts++fs) G.objs.size s2 H1 fp J0
 have okX:X'.Ok:=by
  refine⟨I2.ok.mod,hk,I2.ok.glob,I2.ok.blt,by show s2.heap.objs.size<=G.objs.size;lia,λx y c e1 e2=>I2.ok.inj x y c (ag.at x c e1) (ag.at y c e2),λx hx=>?_,λx c hf _=>(nomatch (show (false:Bool)=true from hf)),I2.ok.hd,I2.ok.frames,.inl rfl,λb hb=>⟨?_,λx c e z=>?_⟩,λb o e=>I2.bs b o e,NZ I2.ok.wI I2.sz,λb o e hb=>?_,λb hb hz=>?_,I2.stack,λb hb=>I2.pk b hb⟩
  .have LJ:=mO (env:=X.env) hx nc;have hm:∃ y∈scope.names,y.1=x/\y.2=.free:=by
    have:∀ (l:List (Str×NameKind)),l.lookup x=some .free->∃ y∈l,y.1=x/\y.2=.free:=by
     intro l
     induction l with
     | nil=>intro h;simp at h
     | cons p r ih =>
      intro h;rw[OD] at h;cases q:x==p.1 with
      | true =>
       rw[q] at h;exact⟨p,NU,(by simpa using q:x=p.1).symm,NQ h⟩
      | false =>
       rw[q] at h;obtain⟨y,hy,r1,r2⟩:=ih h;exact⟨y,NH _ hy,r1,r2⟩
    exact this _ LJ
   obtain⟨y,hy,r1,r2⟩:=hm;have:=Oh.mp fh y hy;rw[r2] at this;have h':(cl.lookup y.1).isSome=true:=by simpa using this
   rw[r1] at h';exact Qx.mp h'
  .exact NP (NG (M3 b hb) (by show s2.heap.objs.size<=G.objs.size;lia))
  .exact(f2 b hb).2.2.2.2.1 x c (ag.at x c e) z
  .obtain⟨_,_,_,f3,_,_⟩:=f2 b hb;rcases f3 with z | z
   .exact I2.ok.pL b o e z
   .exact absurd (NG (Nz (I2.ok.bs b o e).1) z) (PJ _)
  .rcases NJ.mp (I2.qg b hz) with z | z
   .exact(f2 b hb).2.1 z
   .exact(f2 b hb).2.2.1 z
 have keepB:∀ b o,s2.heap.get? b=some o->h₁.get? b=some o:=old;have I3:Inv X' [] (eX ts js σ) (upd H1 s2.heap.objs.size (.lst [])) { s2 with heap:=h₁,toks:=s2.toks+([]:List (Str×Value)).length }:=by
  have neD:∀ b o,s2.heap.get? b=some o->b≠s2.heap.objs.size:=λb o e=>NP (Nz e);refine⟨okX,rfl,I2.bare,⟨λb o e n hb hx=>old b o e,λb o e n hb hx=>⟨o.slots,old b o e⟩,λb o e n hx=>by rw[av (neD b o e)];exact n,λb o e hx=>⟨o,old b o e⟩,λb xs e=>?_,λb o u e=>?_,λb ps e=>?_⟩,⟨_,hns1,λi x v e1 e2 e3=>?_⟩,λx c e=>?_,?_,λx c e=>?_,λp hp=>?_,?_,?_⟩
  .rw[av (bQ e nD)];exact e
  .rw[av (bQ e nD)];exact e
  .exact⟨#[],by rw[av (bQ e nD)];exact N3 e (by simp)⟩
  .
   have hlen:(ts.map (λ_=>(none:Option V))).length=ts.length:=Nu _;unfold eX at e2
   by_cases KW:i<ts.length
   .rw[N9 (by rw[hlen];exact KW),NT] at e2;cases q:ts[i]? <;> rw[q] at e2 <;> cases e2
   .rw[N2 (by rw[hlen];lia),hlen] at e2;have e1':fs[i-ts.length]?=some x:=by
     have e1':(ts++fs)[i]?=some x:=e1;rw[N2 (by lia)] at e1';exact e1'
    have all:∀ {fs:List Str} {js:List Nat},iq X scope cl fs js->∀ k:Nat,fs[k]?=some x->(js.map λj=>(σ[j]?).join)[k]?=some (some v) ->
      ∃ (j:Nat) (c:Addr),X.N[j]?=some x/\σ[j]?=some (some v)/\(X.env.kindOf x=some .cell\/X.env.kindOf x=some .free)/\X.env.cells.lookup x=some c/\cl.lookup x=some c/\scope.names.lookup x=some .free:=by
     intro fs js r
     induction r with
     | nil=>intro k e;simp at e
     | @cons y j c fs js hN hf hv hc hl r ih =>
      intro k e e';cases k with
      | zero =>
       have e0:y=x:=by simpa using e
       subst e0;have MT:(σ[j]?).join=some v:=by simpa using e'
       refine⟨j,c,hN,?_,hv,hc,hl,hf⟩;cases q:σ[j]? with
       | none=>rw[q] at MT;cases MT
       | some z=>rw[q] at MT;cases z with
        | none=>cases MT
        | some z =>
         have:z=v:=by simpa using MT
         rw[this]
      | succ k=>exact ih k (by simpa using e) (by simpa using e')
    obtain⟨j,c,q1,q2,q3,q4,q5,q6⟩:=all fr (i-ts.length) e1' e2;obtain⟨m,hn,hl⟩:=I2.loc;have vis:z8 X.env.scope x:=by
     rcases q3 with z | z
     .exact .inr (.inl z)
     .exact .inr (.inr z)
    obtain⟨u,ru,lk⟩:=hl j x v q1 q2 vis;refine⟨u,ru,.inr ⟨?_,c,q5,?_⟩⟩
    .rcases e3 with z | z | z
     .exfalso;have key:∀ (l:List (Str×NameKind)),(l.map λ(n,k)=>if (k==Q_&&X.env.scope.kind==.function&&X.env.kindOf n==some .cell) then (n,S_) else (n,k)).lookup x=some .local->l.lookup x=some .local:=by
       intro l
       induction l with
       | nil=>intro h;simp at h
       | cons p r ih =>
        obtain⟨n,k⟩:=p;intro h;rw[NX] at h;dsimp only at h
        by_cases hc:(k==Q_&&X.env.scope.kind==.function&&X.env.kindOf n==some .cell)=true
        .rw[if_pos hc] at h;rw[OD] at h ⊢;cases q:x==n with
         | true=>rw[q] at h;cases h
         | false=>rw[q] at h;exact ih h
        .rw[if_neg hc] at h;rw[OD] at h ⊢;cases q:x==n with
         | true=>rw[q] at h;exact h
         | false=>rw[q] at h;exact ih h
      have:=key _ z;rw[q6] at this;cases this
     .exact .inl z
     .exact .inr z
    .rcases lk with ⟨k,_⟩ | ⟨_,c',e4,z⟩
     .rcases q3 with z | z <;> rw[z] at k <;> cases k
     .rw[q4] at e4;cases e4;obtain⟨o,ho,hd⟩:=z;exact⟨o,old c o ho,hd⟩
  .obtain⟨_,_,v,o,ho,hd⟩:=ltk x c e;exact⟨v,o,old c o ho,hd⟩
  .show upd H1 s2.heap.objs.size (.lst []) G.objs.size=none;rw[av (Pd (by rw[hC];exact O3 _))];exact nC
  .obtain⟨q1,q2,_⟩:=ltk x c e;rw[av (NP q1)];exact q2
  .have My:p∈X.pn++J0:=by
    have:p∈(X.pn++J0)++[]:=hp
    rwa [Og] at this
   obtain⟨e,n,ne,nf,d⟩:=I2.pin p My;have KW:=Nz e;refine⟨old _ _ e,by rw[av (NP KW)];exact n,?_,λhz=>?_,d⟩
   .show p.1≠G.objs.size;exact NP (Nat.lt_trans KW (by rw[hC];exact O3 _))
   .rcases NJ.mp (I2.qg _ hz) with z | z
    .exact ne z
    .exact nf z
  .exact I2.bw.laid old (NC _) ⟨Om _,[],0,.nil,hacc⟩
  .show (eX ts js σ).length=(ts++fs).length;have frl:∀ {fs:List Str} {js:List Nat},iq X scope cl fs js->fs.length=js.length:=by
    intro fs js r
    induction r with
    | nil=>rfl
    | cons _ _ _ _ _ _ ih=>rw[OQ,OQ,ih]
   unfold eX;rw[NO,NO,Nu,Nu,frl fr]
 have LC:∀ {H':Hp},(∀ b∈fp,H' b=none)->∀ b∈fp,jZ X' [] H' b:=λ{H'} hn b hb=>by
  obtain⟨_,f1,f3,_,f4,f5⟩:=f2 b hb;refine⟨hn b hb,okX.Fp b hb |>.1,okX.sd b hb,.inl hb,λx c e=>f4 x c (ag.at x c e),λp hp=>f5 p ?_⟩;have:p∈(X.pn++J0)++[]:=hp
  rwa [Og] at this
 have fin:∀ {σ':St} {H':Hp} {s':Shared},Inv X' [] σ' H' s'->Q (.ref s2.heap.objs.size) H' ->
   compPost (model X.prog X.w) X.A X.xe use Qv (.ref s2.heap.objs.size) G.objs.size (.ok .next) s':=by
  intro σ' H' s' I4 q;obtain⟨m,hn,_⟩:=I4.loc;have fC:H' G.objs.size=none:=I4.free;have Io:Inv X J0 σ H' s':=by
   refine I2.yq (s':=s') (ch:=fp) I4.os ⟨λb o e n hb hx=>?_,λb o e n hb hx=>?_,λb o e n hx=>I4.base.free b o e n hx,λb o e hx=>?_,I4.base.mi,I4.base.jj,I4.base.mV⟩ I4.bw I4.bare λb hb=>?_
   .exact I4.base.keep b o e n hb hx
   .exact I4.base.slot b o e n hb hx
   .exact I4.base.there b o e hx
   .obtain⟨_,f1,_,f3,f4,f5⟩:=f2 b hb;exact⟨f3,f1,f4,f5⟩
  have hCl:s2.heap.objs.size<=G.objs.size:=by rw[hC];exact Rh _
  exact Dp _ H' s' _ Io q ⟨m,hn⟩ (I2.rf hCl fC)
 have loop:∀ s3:Shared,s3={ s2 with heap:=h₁,toks:=s2.toks+([]:List (Str×Value)).length } ->
   codeAny (model X.prog X.w) X.A (.compLoop (.ListComp elt [⟨tg,iter,ifs,0⟩] scope pos) 0 (.ref it) (.ref s2.heap.objs.size) (compEnvC scope cl G.objs.size X.env))
    (compPost (model X.prog X.w) X.A X.xe use Qv (.ref s2.heap.objs.size) G.objs.size) s3:=by
  rintro s3 rfl;refine v5 (λn s'=>∃ i σ' H',Inv X' [] σ' H' s'/\tn i s'.heap/\(∀ b∈fp,H' b=none)/\W i n σ' H') ?_ m0 ⟨0,_,_,I3,T.keep _ _ _ LS λb _ o e=>old b o e,λb hb=>?_,w0⟩
  .rintro n s3 ⟨i,σ3,H3,I3,Mz,fr3,w3⟩;rcases turn i n σ3 H3 w3 with ⟨stop,qn⟩ | ⟨go,N,hN,step⟩
   .refine cA (T.done X' rfl rfl rfl J7 i [] s3 σ3 H3 _ I3 (LC fr3) Mz stop) λr s4 ⟨hr,I4⟩=>?_;subst hr;exact fin I4 qn
   .refine cA (T.item X' rfl rfl rfl J7 i [] s3 σ3 H3 _ I3 (LC fr3) Mz go) λr s4 ⟨u,hr,h4⟩=>?_;subst hr;refine cA h4 λ_ s5 ⟨x,H5,I5,r5,y5,st5,fr5⟩=>?_;have I5':=I5.pinned (LC fr5) (T.obj _ _ st5);refine cA (hg _ _ _ _ _ _ s5 σ3 H5 x u _ I5' r5 (step x H5 y5)) λ_ s6 ⟨σ6,H6,I6,q6⟩=>?_;have again:∀ {σ7:St} {H7:Hp} {s7:Shared},Inv X' ([]++j7 fp s5.heap) σ7 H7 s7->N σ7 H7->∃ m,m<n/\∃ i σ' H',Inv X' [] σ' H' s7/\tn i s7.heap/\(∀ b∈fp,H' b=none)/\W i m σ' H':=λ{σ7 H7 s7} I7 n7=>by
     obtain⟨m',hm,w7⟩:=hN σ7 H7 n7;refine⟨m',hm,i+1,σ7,H7,I7.jO,T.keep _ _ _ st5 λb hb o e=>(I7.pin (b,o) (Oe _ (Oe _ (gJ hb e)))).1,λb hb=>?_,w7⟩;obtain⟨o,e,d⟩:=T.obj _ _ st5 b hb;exact(I7.pin (b,o) (Oe _ (Oe _ (gJ hb e)))).2.1
    have tail:∀ {H7:Hp} {s7:Shared},Inv X' ([]++j7 fp s5.heap) σ6 H7 s7->(te σ6 H7 λy H4=>∃ ys,H4 s2.heap.objs.size=some (.lst ys)/\ys.length<sizeLine/\N σ6 (upd H4 s2.heap.objs.size (.lst (ys++[y])))) ->
      wpAny (model X.prog X.w) X.A (eval elt (compEnvC scope cl G.objs.size X.env)) (λx s₅=>wpAny (model X.prog X.w) X.A (call (.builtin "list.append") [.ref s2.heap.objs.size,x])
       (λ_ s₆=>∃ m,m<n/\∃ i σ' H',Inv X' [] σ' H' s₆/\tn i s₆.heap/\(∀ b∈fp,H' b=none)/\W i m σ' H') (λ_ _=>False) s₅) (λ_ _=>False) s7:=by
     intro H7 s7 I7 q7;refine cA (he _ _ _ _ _ _ s7 σ6 H7 _ I7 q7) λuy s8 ⟨y,H8,I8,ry,ys,hy,hl,q8⟩=>?_;refine cA (oK (X:=X') _ s8 σ6 H8 (.ref s2.heap.objs.size) [y] (.ref s2.heap.objs.size) [uy] (λ_ H9=>N σ6 H9) I8 rfl (.cons ry .nil) ⟨_,ys,y,rfl,rfl,hy,hl,q8⟩) λ_ s9 ⟨_,H9,I9,_,q9⟩=>?_;exact again I9 q9
    cases ifs with
    | nil =>
     cases tt with
     | none=>exact wpAny_tests_nil (tail I6 q6)
     | some t=>exact(ht 0 s2 H1 [] []).elim
    | cons c r =>
     cases r with
     | nil =>
      cases tt with
      | none=>exact(ht 0 s2 H1 [] []).elim
      | some t =>
       refine wpAny_tests_one (cA (ht G.objs.size s2 H1 fp J0 _ s6 σ6 H6 _ I6 q6) λb s7 ⟨H7,I7,q7⟩=>?_);cases b with
       | true =>
        rw[if_pos rfl] at q7 ⊢;exact tail I7 q7
       | false =>
        rw[if_neg OF] at q7 ⊢;exact again I7 q7
     | cons _ _=>cases tt <;> exact(ht 0 s2 H1 [] []).elim
  .rw[av (NP (M3 b hb))];exact(f2 b hb).1
 exact codeAny_compStart_list (loop _ rfl) (T.self _ 0 _ _ _ (T.keep _ _ _ LS λb _ o e=>old b o e) (loop _ rfl))
theorem Inv.other(I:Inv X J0 σ H s)(f:jZ X J0 H C)(hs:Qm C s.heap h'):Inv X J0 σ H { s with heap:=h' }:=by
 obtain⟨f0,f1,_,f3,f4,f5⟩:=f;refine I.yq (s':={ s with heap:=h' }) (ch:=[C]) rfl ⟨λb o e n hb hx=>?_,λb o e n hb hx=>?_,λb o e n hx=>n,λb o e hx=>?_,λ_ _ q=>q,λ_ _ _ q=>q,λb ps q=>⟨#[],by rw[q];simp⟩⟩ (λb u e=>?_) I.bare λb hb=>?_
 .exact(hs.2 b (λz=>hx (by rw[z];exact N6.mpr rfl))).trans e
 .exact⟨o.slots,(hs.2 b (λz=>hx (by rw[z];exact N6.mpr rfl))).trans e⟩
 .exact⟨o,(hs.2 b (λz=>hx (by rw[z];exact N6.mpr rfl))).trans e⟩
 .refine(I.bw b u e).jK (λc v hc q=>(hs.2 c ?_).trans q) (λ_ q=>q) λ_ _ q=>q;rcases hc with z | z
  .rw[z];exact bQ e f0
  .exact bQ z f0
 .rw[N6.mp hb];exact⟨f3,f1,f4,f5⟩
theorem AD{cl:List (Str×Addr)}{wi:TI}{g:TG}{fs:List Str}(J7:X.calm=true)
  (Kq:closureFor scope X.env=pure cl) (hk:scope.kind=.function) (nc:gk scope.names=true) (lo:iW scope.names=true) (fh:iZ cl scope.names=true) (ag:eP X cl) (fr:iq X scope cl fs js)
  (hi:PI X tg iter wi) (hg:∀ C s₀ H₀ ex J0,PG (sA X scope cl (ts++fs) C s₀ H₀ ex J0) tg g)
  (ht:∀ C s₀ H₀ ex J0,match ifs,tt with | [],none=>True | [c],some t=>PT (sA X scope cl (ts++fs) C s₀ H₀ ex J0) c t | _,_=>False)
  (he:∀ C s₀ H₀ ex J0,PE (sA X scope cl (ts++fs) C s₀ H₀ ex J0) elt te)
  (hs:autoParam (∀ x,foldedSetIterable iter X.env x=pure x) aI._auto_1) :
  PE X (.ListComp elt [⟨tg,iter,ifs,0⟩] scope pos) (w8 wi g tt te ts js):=by
 intro J0 s σ H Q I h;rw[eval_ListComp];refine rP J7 Kq hk nc lo fh ag fr hi hg ht he hs I h none _ λD H' s' C Io q hm f=>?_;obtain⟨m,hn⟩:=hm;exact⟨m,hn,λh' MN=>⟨.ref D,H',Io.other f MN,rfl,q⟩⟩
def mX(wi:TI)(g:TG)(te:TE)(ts:List Str)(js:List Nat):TE:=fun σ H Q=>wi σ H λJ H1=>∀ D,H1 D=none ->
 ∃ W:Nat->Nat->St->Hp->Prop,(∃ m,W 0 m (eX ts js σ) (upd H1 D (.lst [])))/\∀ i m σ' H',W i m σ' H' ->
  (J.stop i H'/\Q (.ref D) H')\/(J.go i H'/\∃ N:St->Hp->Prop,(∀ σ'' H'',N σ'' H''->∃ m',m'<m/\W (i+1) m' σ'' H'') ∧
   ∀ x H2,J.tU i H' x H2->g x σ' H2 fun σ2 H3=>te σ2 H3 λy H4=>∃ ys,H4 D=some (.lst ys)/\ys.length<sizeLine/\N σ2 (upd H4 D (.lst (ys++[y]))))
theorem xX{cl:List (Str×Addr)}{wi:TI}{g:TG}{fs:List Str}(J7:X.calm=true)
  (Kq:closureFor scope X.env=pure cl) (hk:scope.kind=.function) (nc:gk scope.names=true) (lo:iW scope.names=true) (fh:iZ cl scope.names=true) (ag:eP X cl) (fr:iq X scope cl fs js)
  (hi:PI X tg iter wi) (hg:∀ C s₀ H₀ ex J0,PG (sA X scope cl (ts++fs) C s₀ H₀ ex J0) tg g) (he:∀ C s₀ H₀ ex J0,PE (sA X scope cl (ts++fs) C s₀ H₀ ex J0) elt te)
  (hs:autoParam (∀ x,foldedSetIterable iter X.env x=pure x) aI._auto_1):PE X (.ListComp elt [⟨tg,iter,[],0⟩] scope pos) (mX wi g te ts js) :=
 AD (tt:=none) J7 Kq hk nc lo fh ag fr hi hg (λ_ _ _ _ _=>trivial) he hs
def eN(h:Heap)(b:Bool)(l:Addr)(xs:Array Value):Prop:=match b with
 | true=>h.IsList l xs
 | false=>h.IsTuple l xs
def dG(h:Heap)(b:Bool)(it l:Addr)(i:Nat):Prop:=match b with
 | true=>h.IsListIter it l i
 | false=>h.IsTupleIter it l i
variable{l:Addr}{b:Bool}{h:Heap}
theorem eN.at{xs:Array Value}(x:eN h b l xs)(k:∀ o,h.get? l=some o->h'.get? l=some o):eN h' b l xs:=by
 cases b with
 | true=>obtain⟨o,ho,r⟩:=(show h.IsList l xs from x);exact(show h'.IsList l xs from ⟨o,k o ho,r⟩)
 | false=>obtain⟨o,ho,r⟩:=(show h.IsTuple l xs from x);exact(show h'.IsTuple l xs from ⟨o,k o ho,r⟩)
variable{i:Nat}{it:Addr}
theorem dG.at(x:dG h b it l i)(k:∀ o,h.get? it=some o->h'.get? it=some o):dG h' b it l i:=by
 cases b with
 | true=>obtain⟨o,ho,r⟩:=(show h.IsListIter it l i from x);exact(show h'.IsListIter it l i from ⟨o,k o ho,r⟩)
 | false=>obtain⟨o,ho,r⟩:=(show h.IsTupleIter it l i from x);exact(show h'.IsTupleIter it l i from ⟨o,k o ho,r⟩)
theorem dG.obj(x:dG h b it l i):∃ o vs,h.get? it=some o/\o.data=.fields vs:=by
 cases b with
 | true=>obtain⟨o,ho,_,hd⟩:=(show h.IsListIter it l i from x);exact⟨o,_,ho,hd⟩
 | false=>obtain⟨o,ho,_,hd⟩:=(show h.IsTupleIter it l i from x);exact⟨o,_,ho,hd⟩
theorem eN.obj{xs:Array Value}(x:eN h b l xs):∃ o n,h.get? l=some o/\o.data=.seq xs n:=by
 cases b with
 | true=>obtain⟨o,ho,_,n,hd⟩:=(show h.IsList l xs from x);exact⟨o,n,ho,hd⟩
 | false=>obtain⟨o,ho,_,n,hd⟩:=(show h.IsTuple l xs from x);exact⟨o,n,ho,hd⟩
variable{Q:Value->Shared->Prop}{items:Array Value}
variable{ys:Array Value}{k1 k2:Nat}{l1 l2:Addr}
section
variable{E:Value->Shared->Prop}
theorem fI{t:Addr}{x:Value}(hit:s.heap.IsTupleIter it t i)
  (ht:s.heap.IsTuple t items) (hx:items[i]?=some x)
  (hQ:∀ h',h'.IsTupleIter it t (i+1)->Qm it s.heap h'->Q x { s with heap:=h' }) :
  wpAny (model prog w) A (NN (.ref it)) Q E s:=by
 obtain⟨o,ho,hc,hd⟩:=id hit;obtain⟨ol,hol,_,nl,hdl⟩:=ht;unfold NN;refine Np (Of (name:=NF "__next__") hit.typeIs F.slot_tuple_iterator_next
  (OS F.slot_tuple_iterator_next hit.typeIs F.entry_tuple_iterator_next ?_ (F.args_tuple_iterator_next_1 _)))
 show wpAny _ _ (field (.ref it) 0 >>= _) _ _ s;refine Np (NV ho hd (x:=.ref t) rfl ?_);show wpAny _ _ (if (NB t==Ob)=true then _ else _) _ _ s;rw[if_neg (show ¬ ((NB t==Ob)=true) from OF)];show wpAny _ _ (field (.ref it) 1 >>= _) _ _ s;refine Np (NV ho hd (x:=.int i 0) rfl ?_);show wpAny _ _ (seqItems? (.ref t) >>= _) _ _ s;refine Np (Oc hol hdl ?_);simp only[Ox,hx];refine Np (QX ho hd (by simp) (Nx ⟨x,rfl,Nx (hQ _ ?_ (RA ..))⟩));exact⟨_,OL _ ho (Qe (Pp hd _)),(Obj.cls_mapFields ..).trans hc,by
  rw[Pp hd];simp[rawInt]⟩
theorem ef{t:Addr}(hh:A.handled=none)
  (hit:s.heap.IsTupleIter it t i) (ht:s.heap.IsTuple t items) (hx:items[i]?=none)
  (hE:∀ h' e,Heap.ExtBut it s.heap h'->(∃ o,h'.get? e=some o/\o.cls=.type "StopIteration")->E (.ref e) { s with heap:=h' }) :
  wpAny (model prog w) A (NN (.ref it)) Q E s:=by
 obtain⟨o,ho,hc,hd⟩:=id hit;obtain⟨ol,hol,_,nl,hdl⟩:=ht;unfold NN;refine Np (Of (name:=NF "__next__") hit.typeIs F.slot_tuple_iterator_next
  (OS F.slot_tuple_iterator_next hit.typeIs F.entry_tuple_iterator_next ?_ (F.args_tuple_iterator_next_1 _)))
 show wpAny _ _ (field (.ref it) 0 >>= _) _ _ s;refine Np (NV ho hd (x:=.ref t) rfl ?_);show wpAny _ _ (if (NB t==Ob)=true then _ else _) _ _ s;rw[if_neg (show ¬ ((NB t==Ob)=true) from OF)];show wpAny _ _ (field (.ref it) 1 >>= _) _ _ s;refine Np (NV ho hd (x:=.int i 0) rfl ?_);show wpAny _ _ (seqItems? (.ref t) >>= _) _ _ s;refine Np (Oc hol hdl ?_);simp only[Ox,hx];refine Np (Qg (Np (QX ho hd (by simp) ?_)));show wpAny _ _ (newExc (.type "StopIteration") [] >>= _) _ _ _;refine Np ?_;simp only[newExc,newTuple];refine Np (OI ?_ (by size_fits));refine Np (m:=firstArgMember _ _) (wpAny_of_eq (a:=Ob) (by first | rfl | (simp only[firstArgMember];rfl)) ?_);refine OI ?_ (by size_fits);simp only[raiseNew];refine Np (wpAny_handled ?_)
 first | rw[show A.in1.handled=none from hh] | rw[hh]
 refine Np (Nx (wpAny_throw ?_));exact hE _ _ (((RA ..).extBut.push _).push _) ⟨_,Ny _ rfl,rfl⟩
theorem cB{x:Value}(hit:dG s.heap b it l i)(hl:eN s.heap b l items)(hx:items[i]?=some x)
  (hQ:∀ h',dG h' b it l (i+1)->Qm it s.heap h'->Q x { s with heap:=h' }):wpAny (model prog w) A (NN (.ref it)) Q E s:=by
 cases b with
 | true=>exact wpAny_nextOf_list_item hit hl hx hQ
 | false=>exact fI hit hl hx hQ
theorem fq(hh:A.handled=none)(hit:dG s.heap b it l i)(hl:eN s.heap b l items)(hx:items[i]?=none)
  (hE:∀ h' e,Heap.ExtBut it s.heap h'->(∃ o,h'.get? e=some o/\o.cls=.type "StopIteration")->E (.ref e) { s with heap:=h' }):wpAny (model prog w) A (NN (.ref it)) Q E s:=by
 cases b with
 | true=>exact wpAny_nextOf_list_end hh hit hl hx hE
 | false=>exact ef hh hit hl hx hE
theorem wk{b1 b2:Bool}{z TI TO i1 i2:Addr}{xs:Array Value}{x y a b:Value}(D:ZipApart z TI TO i1 i2 l1 l2)
  (hz:IsZip s.heap z TI TO .none) (Kl:IsPair s.heap TI (.ref i1) (.ref i2)) (Ko:IsPair s.heap TO a b)
  (h1:dG s.heap b1 i1 l1 k1) (h2:dG s.heap b2 i2 l2 k2) (K2:eN s.heap b1 l1 xs) (K3:eN s.heap b2 l2 ys) (hx:xs[k1]?=some x) (hy:ys[k2]?=some y)
  (hQ:∀ h',IsZip h' z TI TO (rawInt s.heap.objs.size)->IsPair h' TO x y->dG h' b1 i1 l1 (k1+1)->dG h' b2 i2 l2 (k2+1)->IsPair h' s.heap.objs.size x y->h'.objs.size=s.heap.objs.size+1 ->
   (∀ c o,c≠z->c≠TO->c≠i1->c≠i2->s.heap.get? c=some o->h'.get? c=some o)->Q (.ref s.heap.objs.size) { s with heap:=h' }) :
  wpAny (model prog w) A (Builtin.«zip.__next__» ⟨[.ref z],[]⟩) (λfin s'=>∃ v,fin=.done (.ret v)/\Q v s') E s:=by
 show wpAny _ _ (field (.ref z) 2 >>= _) _ _ _;refine Np (NV hz rfl (x:=.bool false) rfl ?_);show wpAny _ _ (field (.ref z) 3 >>= _) _ _ _;refine Np (NV hz rfl (x:=.ref TI) rfl ?_);refine Np (Oc Kl rfl ?_);show wpAny _ _ (NW (.ref z) >>= _) _ _ _;refine Np ?_;unfold NW;refine Np (NV hz rfl (x:=.none) rfl (Nx ?_));simp only[if_true];refine Np (Qg ?_);refine Np (NV hz rfl (x:=.ref TO) rfl ?_);refine Np (N7 hz (by simp) λh₁ hz1 hs1=>?_)
 replace hz1:IsZip h₁ z TI TO .ellipsis:=hz1
 refine Np ?_;simp only[Q7,Rq,Rr,RO];refine Np (Np (O7 ?_));show wpAny _ _ (NN (.ref i1) >>= _) _ _ _;refine Np (cB (h1.at λo e=>hs1.extBut _ _ D.i1z e) (K2.at λo e=>hs1.extBut _ _ D.l1z e) hx λh₂ h1₂ hs2=>Nx ?_);have hTO2:IsPair h₂ TO a b:=hs2.extBut _ _ D.TOi1 (hs1.extBut _ _ D.TOz Ko);refine Np (Oc hTO2 rfl ?_);refine Np (Ri hTO2 λh₃ hTO3 hs3=>?_)
 replace hTO3:IsPair h₃ TO x b:=hTO3
 refine Np (Qk (Nx ?_));refine Np (Np (O7 ?_));show wpAny _ _ (NN (.ref i2) >>= _) _ _ _;refine Np (cB (h2.at λo e=>hs3.extBut _ _ D.TOi2.symm (hs2.extBut _ _ D.i12.symm (hs1.extBut _ _ D.i2z e)))
  (K3.at λo e=>hs3.extBut _ _ D.l2TO (hs2.extBut _ _ D.l2i1 (hs1.extBut _ _ D.l2z e))) hy λh₄ h2₄ hs4=>Nx ?_)
 have hTO4:IsPair h₄ TO x b:=hs4.extBut _ _ D.TOi2 hTO3;refine Np (Oc hTO4 rfl ?_);refine Np (Ri hTO4 λh₅ hTO5 hs5=>?_)
 replace hTO5:IsPair h₅ TO x y:=hTO5
 refine Np (Qk (Nx (Nx ?_)));refine Np (Oc hTO5 rfl ?_);refine Np (wpAny_newTuple ?_);have K7:h₅.objs.size=s.heap.objs.size:=by rw[hs5.1,hs4.1,hs3.1,hs2.1,hs1.1]
 have hz5:IsZip h₅ z TI TO .ellipsis:=hs5.extBut _ _ D.TOz.symm (hs4.extBut _ _ D.i2z.symm (hs3.extBut _ _ D.TOz.symm (hs2.extBut _ _ D.i1z.symm hz1)));have hk5:∀ c o,c≠z->c≠TO->c≠i1->c≠i2->s.heap.get? c=some o->h₅.get? c=some o:=λc o c1 c2 c3 c4 e =>
  hs5.extBut _ _ c2 (hs4.extBut _ _ c4 (hs3.extBut _ _ c2 (hs2.extBut _ _ c3 (hs1.extBut _ _ c1 e))))
 have h1₅:dG h₅ b1 i1 l1 (k1+1):=h1₂.at λo e=>hs5.extBut _ _ D.TOi1.symm (hs4.extBut _ _ D.i12 (hs3.extBut _ _ D.TOi1.symm e));have h2₅:dG h₅ b2 i2 l2 (k2+1):=h2₄.at λo e=>hs5.extBut _ _ D.TOi2.symm e;have Mc:z<h₅.objs.size:=Nz hz5;show wpAny _ _ (OH (.ref z) (.ref h₅.objs.size) >>= _) _ _ _;refine Np ?_;unfold OH;have hz6:IsZip (h₅.push { cls:=.type "tuple", data:=.seq #[x,y] }) z TI TO .ellipsis:=Nq _ hz5;refine Np (N7 hz6 (by simp) λh₇ hz7 hs7=>?_)
 replace hz7:IsZip h₇ z TI TO (rawInt h₅.objs.size):=hz7
 refine N7 hz7 (by simp) λh₈ hz₈ hs8=>?_
 replace hz₈:IsZip h₈ z TI TO (rawInt h₅.objs.size):=hz₈
 have up:∀ c o,c≠z->h₅.get? c=some o->h₈.get? c=some o:=λc o c1 e=>hs8.extBut _ _ c1 (hs7.extBut _ _ c1 (Nq _ e));have hT8:IsPair h₈ h₅.objs.size x y:=hs8.extBut _ _ (Pd Mc) (hs7.extBut _ _ (Pd Mc) (Ny _ rfl));have hz8:h₈.objs.size=h₅.objs.size+1:=by rw[hs8.1,hs7.1,NY]
 rw[K7] at hz₈ hT8 hz8;refine Nx ⟨_,rfl,?_⟩;show Q (.ref h₅.objs.size) _;rw[K7];exact hQ h₈ hz₈ (up _ _ D.TOz hTO5) (h1₅.at λo e=>up _ o D.i1z e) (h2₅.at λo e=>up _ o D.i2z e) hT8 hz8 λc o c1 c2 c3 c4 e=>up c o c1 (hk5 c o c1 c2 c3 c4 e)
theorem wX{b1 b2:Bool}{z TI TO i1 i2:Addr}{xs:Array Value}{a b:Value}{Q:Fin->Shared->Prop}(hh:A.handled=none)(D:ZipApart z TI TO i1 i2 l1 l2)
  (hz:IsZip s.heap z TI TO .none) (Kl:IsPair s.heap TI (.ref i1) (.ref i2)) (Ko:IsPair s.heap TO a b)
  (h1:dG s.heap b1 i1 l1 k1) (h2:dG s.heap b2 i2 l2 k2) (K2:eN s.heap b1 l1 xs) (K3:eN s.heap b2 l2 ys) (K6:xs[k1]?=none\/ys[k2]?=none)
  (hE:∀ h' e,(∀ c o,c≠z->c≠TO->c≠i1->c≠i2->s.heap.get? c=some o->h'.get? c=some o)->(∃ o,h'.get? e=some o/\o.cls=.type "StopIteration")->E (.ref e) { s with heap:=h' }) :
  wpAny (model prog w) A (Builtin.«zip.__next__» ⟨[.ref z],[]⟩) Q E s:=by
 show wpAny _ _ (field (.ref z) 2 >>= _) _ _ _;refine Np (NV hz rfl (x:=.bool false) rfl ?_);show wpAny _ _ (field (.ref z) 3 >>= _) _ _ _;refine Np (NV hz rfl (x:=.ref TI) rfl ?_);refine Np (Oc Kl rfl ?_);show wpAny _ _ (NW (.ref z) >>= _) _ _ _;refine Np ?_;unfold NW;refine Np (NV hz rfl (x:=.none) rfl (Nx ?_));simp only[if_true];refine Np (Qg ?_);refine Np (NV hz rfl (x:=.ref TO) rfl ?_);refine Np (N7 hz (by simp) λh₁ hz1 hs1=>?_)
 replace hz1:IsZip h₁ z TI TO .ellipsis:=hz1
 refine Np ?_;simp only[Q7,Rq,Rr,RO];refine Np (Np (O7 ?_));show wpAny _ _ (NN (.ref i1) >>= _) _ _ _;cases hx:xs[k1]? with
 | none =>
  refine Np (fq hh (h1.at λo e=>hs1.extBut _ _ D.i1z e) (K2.at λo e=>hs1.extBut _ _ D.l1z e) hx λh₂ e hs2 he=>?_);obtain⟨oe,KU,LH⟩:=he;have hz2:IsZip h₂ z TI TO .ellipsis:=hs2 _ _ D.i1z.symm hz1;have Mq:e≠z:=λx=>by subst x;rw[hz2] at KU;cases KU;simp at LH
  refine N7 hz2 (by simp) λh₃ _ hs3=>hE h₃ e (λc o c1 _ c3 _ x=>hs3.extBut _ _ c1 (hs2 _ _ c3 (hs1.extBut _ _ c1 x))) ⟨oe,hs3.extBut _ _ Mq KU,LH⟩
 | some x =>
  have hy:ys[k2]?=none:=by rcases K6 with h | h;rw[hx] at h;cases h;exact h
  refine Np (cB (h1.at λo e=>hs1.extBut _ _ D.i1z e) (K2.at λo e=>hs1.extBut _ _ D.l1z e) hx λh₂ h1₂ hs2=>Nx ?_);have hTO2:IsPair h₂ TO a b:=hs2.extBut _ _ D.TOi1 (hs1.extBut _ _ D.TOz Ko);refine Np (Oc hTO2 rfl ?_);refine Np (Ri hTO2 λh₃ hTO3 hs3=>?_);refine Np (Qk (Nx ?_));refine Np (Np (O7 ?_));show wpAny _ _ (NN (.ref i2) >>= _) _ _ _;refine Np (fq hh (h2.at λo e=>hs3.extBut _ _ D.TOi2.symm (hs2.extBut _ _ D.i12.symm (hs1.extBut _ _ D.i2z e)))
   (K3.at λo e=>hs3.extBut _ _ D.l2TO (hs2.extBut _ _ D.l2i1 (hs1.extBut _ _ D.l2z e))) hy λh₄ e hs4 he=>?_)
  obtain⟨oe,KU,LH⟩:=he;have hz4:IsZip h₄ z TI TO .ellipsis:=hs4 _ _ D.i2z.symm (hs3.extBut _ _ D.TOz.symm (hs2.extBut _ _ D.i1z.symm hz1));have Mq:e≠z:=λx=>by subst x;rw[hz4] at KU;cases KU;simp at LH
  refine N7 hz4 (by simp) λh₅ _ hs5=>hE h₅ e (λc o c1 c2 c3 c4 x=>hs5.extBut _ _ c1 (hs4 _ _ c4 (hs3.extBut _ _ c2 (hs2.extBut _ _ c3 (hs1.extBut _ _ c1 x))))) ⟨oe,hs5.extBut _ _ Mq KU,LH⟩
theorem qS(hl:eN s.heap b l items)
  (h:∀ o,o=({ cls:=.type (if b then "list_iterator" else "tuple_iterator"),data:=.fields #[.ref l,.int 0 0] }:Obj)->Q (.ref s.heap.objs.size) { s with heap:=s.heap.push o }):wpAny (model prog w) A (pyIter (.ref l)) Q E s:=by
 cases b with
 | true=>exact R1 hl (h _ rfl)
 | false=>exact P4 hl (h _ rfl)
theorem kq{b1 b2:Bool}{z TI TO i1 i2:Addr}{xs:Array Value}{x y a b:Value}{Q:Option Value->Shared->Prop}(D:ZipApart z TI TO i1 i2 l1 l2)
  (hz:IsZip s.heap z TI TO .none) (Kl:IsPair s.heap TI (.ref i1) (.ref i2)) (Ko:IsPair s.heap TO a b)
  (h1:dG s.heap b1 i1 l1 k1) (h2:dG s.heap b2 i2 l2 k2) (K2:eN s.heap b1 l1 xs) (K3:eN s.heap b2 l2 ys) (hx:xs[k1]?=some x) (hy:ys[k2]?=some y)
  (hQ:∀ h',IsZip h' z TI TO (rawInt s.heap.objs.size)->IsPair h' TO x y->dG h' b1 i1 l1 (k1+1)->dG h' b2 i2 l2 (k2+1)->IsPair h' s.heap.objs.size x y->h'.objs.size=s.heap.objs.size+1 ->
   (∀ c o,c≠z->c≠TO->c≠i1->c≠i2->s.heap.get? c=some o->h'.get? c=some o)->Q (some (.ref s.heap.objs.size)) { s with heap:=h' }) :
  wpAny (model prog w) A (pyNext (.ref z)) Q E s:=by
 have hT:s.TypeIs (.ref z) "zip" := ⟨_,hz,rfl⟩
 unfold pyNext;exact Np (Qc (Of (name:=NF "__next__") hT F.slot_zip_next
  (OS F.slot_zip_next hT F.entry_zip_next
   (wk D hz Kl Ko h1 h2 K2 K3 hx hy λh' a1 a2 a3 a4 a5 a6 a7=>Nx (hQ h' a1 a2 a3 a4 a5 a6 a7)) (F.args_zip_next_1 _))))
theorem k4{b1 b2:Bool}{z TI TO i1 i2:Addr}{xs:Array Value}{a b:Value}{Q:Option Value->Shared->Prop}(hh:A.handled=none)(D:ZipApart z TI TO i1 i2 l1 l2)
  (hz:IsZip s.heap z TI TO .none) (Kl:IsPair s.heap TI (.ref i1) (.ref i2)) (Ko:IsPair s.heap TO a b)
  (h1:dG s.heap b1 i1 l1 k1) (h2:dG s.heap b2 i2 l2 k2) (K2:eN s.heap b1 l1 xs) (K3:eN s.heap b2 l2 ys) (K6:xs[k1]?=none\/ys[k2]?=none)
  (hQ:∀ h',(∀ c o,c≠z->c≠TO->c≠i1->c≠i2->s.heap.get? c=some o->h'.get? c=some o)->Q none { s with heap:=h' }):wpAny (model prog w) A (pyNext (.ref z)) Q E s:=by
 have hT:s.TypeIs (.ref z) "zip" := ⟨_,hz,rfl⟩
 unfold pyNext;refine Np (Qc (Of (name:=NF "__next__") hT F.slot_zip_next
  (OS F.slot_zip_next hT F.entry_zip_next (wX hh D hz Kl Ko h1 h2 K2 K3 K6 λh' e hk he=>?_) (F.args_zip_next_1 _))))
 obtain⟨o,ho,hc⟩:=he;refine Np (Sd (T := "StopIteration") (b:=true) ⟨o,ho,hc⟩ SO ?_);exact Nx (hQ _ hk)
abbrev Bz(b:Bool)(l:Addr):Obj:={ cls:=.type (if b then "list_iterator" else "tuple_iterator"),data:=.fields #[.ref l,.int 0 0] }
abbrev Ek(h:Heap)(b1:Bool)(l1:Addr):Heap:=h.push (Bz b1 l1)
abbrev Cp(h:Heap)(b1 b2:Bool)(l1 l2:Addr):Heap:=(Ek h b1 l1).push (Bz b2 l2)
abbrev GW(h:Heap)(b1 b2:Bool)(l1 l2:Addr):Heap:=(Cp h b1 b2 l1 l2).push { cls:=.type "tuple", data:=.seq #[.ref h.objs.size,.ref (Ek h b1 l1).objs.size] }
abbrev G9(h:Heap)(b1 b2:Bool)(l1 l2:Addr):Heap:=(GW h b1 b2 l1 l2).push { cls:=.type "tuple", data:=.seq #[.none,.none] }
abbrev Dn(h:Heap)(b1 b2:Bool)(l1 l2:Addr):Heap:=(G9 h b1 b2 l1 l2).push { cls:=.type "zip", data:=.fields #[.none,.bool false,.bool false,.ref (Cp h b1 b2 l1 l2).objs.size,.ref (GW h b1 b2 l1 l2).objs.size] }
end
theorem eI{E:Value->Shared->Prop}(hl:eN s.heap b l items)
  (h:Q (.ref s.heap.objs.size) { s with heap:=s.heap.push (Bz b l) }):wpAny (model prog w) A (pyIter (.ref l)) Q E s:=qS hl λo e=>by subst e;exact h
theorem eN.push{h:Heap}{b:Bool}{l:Addr}{xs:Array Value}(x:eN h b l xs)(o:Obj):eN (h.push o) b l xs:=x.at λ_ e=>Nq _ e
theorem mT(b1 b2:Bool)(l1 l2:Addr)(xs ys:Array Value) :
  Meets (Builtin.«zip.__new__» ⟨[.type "zip", .ref l1,.ref l2],[]⟩) (λ_ R s=>eN s.heap b1 l1 xs/\eN s.heap b2 l2 ys ∧
   R (.ok (.ret (.ref (G9 s.heap b1 b2 l1 l2).objs.size))) { s with heap:=Dn s.heap b1 b2 l1 l2 }) :=
 .of_wp λprog w A R s h=>by
  obtain⟨hp,g,d,tk,os⟩:=s;obtain⟨K2,K3,h⟩:=h;have Nd:=sub_zip;have hL1:eN (Rj ⟨hp,g,d,tk,os⟩) b1 l1 xs:=K2;have hL2:eN (Rj ⟨hp.push (Bz b1 l1),g,d,tk,os⟩) b2 l2 ys:=eN.push K3 _
  wp_walk using eI hL1,eI hL2
  exact⟨_,rfl,h⟩
section
variable{E:Value->Shared->Prop}
theorem dG.new(h:Heap)(b:Bool)(it l:Addr)(e:h.get? it=some (Bz b l)):dG h b it l 0:=by
 cases b with
 | true=>exact⟨_,e,rfl,rfl⟩
 | false=>exact⟨_,e,rfl,rfl⟩
theorem wo{b1 b2:Bool}{xs:Array Value}(K2:eN s.heap b1 l1 xs)(K3:eN s.heap b2 l2 ys)
  (h:∀ h',IsZip h' (s.heap.objs.size+4) (s.heap.objs.size+2) (s.heap.objs.size+3) .none->IsPair h' (s.heap.objs.size+2) (.ref s.heap.objs.size) (.ref (s.heap.objs.size+1)) ->
   IsPair h' (s.heap.objs.size+3) .none .none->dG h' b1 s.heap.objs.size l1 0->dG h' b2 (s.heap.objs.size+1) l2 0->h'.objs.size=s.heap.objs.size+5 ->
   (∀ c o,s.heap.get? c=some o->h'.get? c=some o)->Q (.ref (s.heap.objs.size+4)) { s with heap:=h' }) :
  wpAny (model prog w) A (call (.type "zip") [.ref l1,.ref l2]) Q E s:=by
 refine T8 F.called_zip (by decide) (F.typeCall_zip_2 _ _) (F.newCall_zip_2 _ _) (λobj=>F.args_object_init_3 obj _ _) F.entry_zip_new
  (mT b1 b2 l1 l2 xs ys) ⟨K2,K3,?_⟩
 have z1:(Ek s.heap b1 l1).objs.size=s.heap.objs.size+1:=NY ..;have z2:(Cp s.heap b1 b2 l1 l2).objs.size=s.heap.objs.size+2:=by rw[NY,z1]
 have z3:(GW s.heap b1 b2 l1 l2).objs.size=s.heap.objs.size+3:=by rw[NY,z2]
 have z4:(G9 s.heap b1 b2 l1 l2).objs.size=s.heap.objs.size+4:=by rw[NY,z3]
 have z5:(Dn s.heap b1 b2 l1 l2).objs.size=s.heap.objs.size+5:=by rw[NY,z4]
 have g5:(Dn s.heap b1 b2 l1 l2).get? (G9 s.heap b1 b2 l1 l2).objs.size=some _:=Ny _ rfl;have g4:(Dn s.heap b1 b2 l1 l2).get? (GW s.heap b1 b2 l1 l2).objs.size=some _:=Nq _ (Ny _ rfl);have g3:(Dn s.heap b1 b2 l1 l2).get? (Cp s.heap b1 b2 l1 l2).objs.size=some _:=Nq _ (Nq _ (Ny _ rfl));have g2:(Dn s.heap b1 b2 l1 l2).get? (Ek s.heap b1 l1).objs.size=some _:=Nq _ (Nq _ (Nq _ (Ny _ rfl)));have g1:(Dn s.heap b1 b2 l1 l2).get? s.heap.objs.size=some _:=Nq _ (Nq _ (Nq _ (Nq _ (Ny _ rfl))));show _/\_;rw[z2,z3,z4] at g5;rw[z1,z2] at g3;rw[z3] at g4;rw[z1] at g2;rw[z4];exact⟨⟨_,g5,rfl⟩,h _ g5 g3 g4 (dG.new _ b1 _ _ g1) (dG.new _ b2 _ _ g2) z5 λc o x =>
  Nq _ (Nq _ (Nq _ (Nq _ (Nq _ x))))⟩
end
def i6(K:Nr)(H:Hp)(b:Bool)(a:Addr)(xs:List V):Prop:=match b with
 | true=>gc K H a xs
 | false=>ff K H a xs
variable{tl:TA}
theorem Inv.row{xs:List V}(I:Inv X J0 σ H s)(h:i6 X.K H b a xs):∃ J4:List Value,Vals xs J4/\eN s.heap b a J4.toArray/\xs.length<=sizeLine:=by
 cases b with
 | true =>
  obtain⟨J4,r,p,z⟩:=I.list h;exact⟨J4,r,p.isList,z⟩
 | false =>
  obtain⟨J4,r,p,z⟩:=I.tuple h;exact⟨J4,r,p,z⟩
theorem Inv.jV{xs ys:List V}(I:Inv X J0 σ H s)(h:i6 X.K H b a xs)(h':i6 X.K H b a ys):xs=ys:=by
 cases b with
 | true=>exact I.lV h h'
 | false=>exact I.kH h h'
theorem Inv.uP(I:Inv X J0 σ H s)(k:∀ b u,b ∉ ch->s.heap.get? b=some u->h'.get? b=some u)
  (Lk:∀ b∈ch,jZ X J0 H b):Inv X J0 σ H { s with heap:=h',toks:=t' }:=by
 have Mh:∀ b u,H b=some u->b ∉ ch:=λb u e z=>by rw[(Lk b z).1] at e;cases e
 refine I.step (g':=s.gens) (d':=s.drawn) (ch:=ch) (λb hb=>?_) (λb u _ _ hc e _=>k b u hc e) (λb u _ _ hc e _=>⟨u.slots,k b u hc e⟩)
  (λb u _ e n=>n) (λb u hc e=>⟨u,k b u hc e⟩) (λb xs e=>e) (λb ob u e=>e) (λb ps e=>⟨#[],by rw[e];simp⟩) (λm hm=>?_) (λb u e=>?_) I.bare
 .obtain⟨_,f1,_,f3,f4,f5⟩:=Lk b hb;exact⟨f3,f1,f4,f5⟩
 .obtain⟨ob,es,ep,ho,r⟩:=hm;exact⟨ob,es,ep,k _ ob (λz=>(Lk _ z).2.1 rfl) ho,r⟩
 .refine(I.bw b u e).jK (λc v hc q=>k c v ?_ q) (λc q=>q) λc ys q=>q;rcases hc with z' | z'
  .rw[z'];exact Mh b u e
  .exact Mh c _ z'
theorem cm{c:Addr}{xs:List V}(I:Inv X J0 σ H s)(h:i6 X.K H b a xs)(f:jZ X J0 H c):a≠c:=by
 have rd:∀ {u:HO},Rd H a u->a≠c:=λ{u} r=>by
  rcases r with r | ⟨o,r⟩
  .exact bQ r f.1
  .exact bQ r f.1
 have mk:∀ {o:Obj},X.K.lookup a=some o->a≠c:=λ{o} e z=>by
  subst z;have e':=I.ok.mod.CM _ _ e;rcases f.2.2.2.1 with q | q
  .exact I.ok.pL _ _ e' q
  .exact absurd (NG (Nz (I.ok.bs _ _ e').1) q) (PJ _)
 cases b with
 | true =>
  rcases(show gc X.K H a xs from h) with r | ⟨o,J4,n,e,_⟩
  .exact rd r
  .exact mk e
 | false =>
  rcases(show ff X.K H a xs from h) with r | ⟨o,J4,n,e,_⟩
  .exact rd r
  .exact mk e
def HN (K : Nr) (b1 b2 : Bool) (a1 a2 : Addr) : It :=
  ⟨λi H => ∃ xs ys x y, i6 K H b1 a1 xs /\ i6 K H b2 a2 ys /\ xs[i]? = some x /\ ys[i]? = some y,
   λi H v H' => ∃ p x y, H p = none /\ v = .ref p /\ H' = upd H p (.tup [x, y]) /\ (∀ xs, i6 K H b1 a1 xs -> xs[i]? = some x) /\ (∀ ys, i6 K H b2 a2 ys -> ys[i]? = some y),
   λi H => ∃ xs ys, i6 K H b1 a1 xs /\ i6 K H b2 a2 ys /\ (xs.length <= i \/ ys.length <= i)⟩
theorem wW{K:Nr}{tp:Pos}(b1 b2:Bool)(a1 a2 z TI TO i1 i2:Addr)(D:TI≠z/\TO≠z/\i1≠z/\i2≠z/\TI≠TO/\TI≠i1/\TI≠i2/\TO≠i1/\TO≠i2/\i1≠i2) :
  Turn P w K (.Tuple elts x1 tp) (HN K b1 b2 a1 a2) [z,TO,i1,i2,TI] z (λi h=>IsZip h z TI TO .none/\IsPair h TI (.ref i1) (.ref i2)/\(∃ a b,IsPair h TO a b)/\dG h b1 i1 a1 i/\dG h b2 i2 a2 i) where
 mem:=by simp
 obj:=λi h st b hb=>by
  obtain⟨hz,Kl,⟨a,c,Ko⟩,h1,h2⟩:=st;simp only[NJ,Ov,or_false] at hb;rcases hb with q | q | q | q | q <;> subst q
  .exact⟨_,hz,λv z=>by cases z⟩
  .exact⟨_,Ko,λv z=>by cases z⟩
  .obtain⟨o,vs,e,d⟩:=h1.obj;exact⟨o,e,λv z=>by rw[d] at z;cases z⟩
  .obtain⟨o,vs,e,d⟩:=h2.obj;exact⟨o,e,λv z=>by rw[d] at z;cases z⟩
  .exact⟨_,Kl,λv z=>by cases z⟩
 keep:=λi h h' st k=>by
  obtain⟨hz,Kl,⟨a,c,Ko⟩,h1,h2⟩:=st;exact⟨k z (by simp) _ hz,k TI (by simp) _ Kl,⟨a,c,k TO (by simp) _ Ko⟩,h1.at λo e=>k i1 (by simp) o e,h2.at λo e=>k i2 (by simp) o e⟩
 item:=by
  intro X hP hw hK hc i J0 s σ H E I hf st hg;subst hP hw hK;obtain⟨xs,ys,x,y,Km,Kn,hx,hy⟩:=hg;obtain⟨Md,Mt,p1,Nh⟩:=I.row Km;obtain⟨Le,Mu,p2,Ni⟩:=I.row Kn;obtain⟨u1,hu1,ru1⟩:=Mt.get hx;obtain⟨u2,hu2,ru2⟩:=Mu.get hy;obtain⟨hz,Kl,⟨a,c,Ko⟩,h1,h2⟩:=st;obtain⟨d1,d2,d3,d4,d5,d6,d7,d8,d9,d10⟩:=D;obtain⟨o1,n1,e1,dd1⟩:=p1.obj;obtain⟨o2,n2,e2,MS⟩:=p2.obj;obtain⟨oi1,vs1,MU,di1⟩:=h1.obj;obtain⟨oi2,vs2,MV,di2⟩:=h2.obj;have D:ZipApart z TI TO i1 i2 a1 a2:=⟨d1,d2,d3,d4,d5,d6,d7,d8,d9,d10,cm I Km (hf z (by simp)),cm I Km (hf TO (by simp)),cm I Km (hf i1 (by simp)),cm I Km (hf i2 (by simp)),
   cm I Kn (hf z (by simp)),cm I Kn (hf TO (by simp)),cm I Kn (hf i1 (by simp)),cm I Kn (hf i2 (by simp))⟩
  refine kq D hz Kl Ko h1 h2 p1 p2 (x:=u1) (y:=u2) (by simpa using hu1) (by simpa using hu2) λh' g1 g2 g3 g4 g5 g6 g7=>⟨_,rfl,?_⟩
  refine RW (s:={ s with heap:=h' }) g1 λh3 hz3 LK=>?_;have K4:H s.heap.objs.size=none:=I.bw.fresh (NC _);have lt:∀ {c:Addr} {o:Obj},s.heap.get? c=some o->c≠s.heap.objs.size:=λe=>NP (Nz e);have Mf:∀ b o,b ∉ [z,TO,i1,i2,TI]->s.heap.get? b=some o->h3.get? b=some o:=λb o hb q=>by
   simp only[NJ,Ov,or_false,not_or] at hb;exact(LK.2 b hb.1).trans (g7 b o hb.1 hb.2.1 hb.2.2.1 hb.2.2.2.1 q)
  have hT3:h3.get? s.heap.objs.size=some { cls:=.type "tuple", data:=.seq #[u1,u2] }:=(LK.2 _ (lt hz).symm).trans g5;have I3:Inv X J0 σ (upd H s.heap.objs.size (.tup [x,y])) { s with heap:=h3,toks:=s.toks } :=
   I.iX (ch:=[z,TO,i1,i2,TI]) Mf hf (NC _) (λb hb=>by
    simp only[NJ,Ov,or_false] at hb;rcases hb with q | q | q | q | q <;> subst q
    .exact⟨_,hz⟩
    .exact⟨_,Ko⟩
    .exact⟨_,MU⟩
    .exact⟨_,MV⟩
    .exact⟨_,Kl⟩)
    ⟨by show 2<=sizeLine;decide,[u1,u2],.cons ru1 (.cons ru2 .nil),⟨_,hT3,rfl,_,rfl⟩⟩
  refine⟨.ref s.heap.objs.size,_,I3,rfl,⟨_,x,y,K4,rfl,rfl,λzs Ms=>by rw[I.jV Ms Km];exact hx,λzs Ms=>by rw[I.jV Ms Kn];exact hy⟩,
   ⟨hz3,(LK.2 TI d1).trans (g7 TI _ d1 d5 d6 d7 Kl),⟨_,_,(LK.2 TO d2).trans g2⟩,g3.at λo e=>(LK.2 i1 d3).trans e,g4.at λo e=>(LK.2 i2 d4).trans e⟩,λb hb=>?_⟩
  have nb:b≠s.heap.objs.size:=by
   simp only[NJ,Ov,or_false] at hb;rcases hb with q | q | q | q | q <;> subst q
   .exact lt hz
   .exact lt Ko
   .exact lt MU
   .exact lt MV
   .exact lt Kl
  rw[av nb];exact(hf b hb).1
 done:=by
  intro X hP hw hK hc i J0 s σ H E I hf st hg;subst hP hw hK;obtain⟨xs,ys,Km,Kn,K6⟩:=hg;obtain⟨Md,Mt,p1,Nh⟩:=I.row Km;obtain⟨Le,Mu,p2,Ni⟩:=I.row Kn;obtain⟨hz,Kl,⟨a,c,Ko⟩,h1,h2⟩:=st;obtain⟨d1,d2,d3,d4,d5,d6,d7,d8,d9,d10⟩:=D;have D:ZipApart z TI TO i1 i2 a1 a2:=⟨d1,d2,d3,d4,d5,d6,d7,d8,d9,d10,cm I Km (hf z (by simp)),cm I Km (hf TO (by simp)),cm I Km (hf i1 (by simp)),cm I Km (hf i2 (by simp)),
   cm I Kn (hf z (by simp)),cm I Kn (hf TO (by simp)),cm I Kn (hf i1 (by simp)),cm I Kn (hf i2 (by simp))⟩
  have l1:=Mt.length;have l2:=Mu.length;refine k4 (I.ok.hd hc) D hz Kl Ko h1 h2 p1 p2 ?_ λh' k=>⟨rfl,?_⟩
  .rcases K6 with q | q
   .exact .inl (by simp;lia)
   .exact .inr (by simp;lia)
  .exact I.uP (t':=s.toks) (ch:=[z,TO,i1,i2,TI]) (λb u hb e=>by
    simp only[NJ,Ov,or_false,not_or] at hb;exact k b u hb.1 hb.2.1 hb.2.2.1 hb.2.2.2.1 e) hf
 self:=λ_ _ _ _ _ st h=>by
  obtain⟨hz,_⟩:=st;exact Q8 hz h
theorem EI(n:Nat):n+2≠n+4/\n+3≠n+4/\n≠n+4/\n+1≠n+4/\n+2≠n+3/\n+2≠n/\n+2≠n+1/\n+3≠n/\n+3≠n+1/\n≠n+1:=by
 refine⟨?_,?_,?_,?_,?_,?_,?_,?_,?_,?_⟩ <;> lia
def GC(K:Nr)(tl:TA):TI:=fun σ H R=>tl σ H λvs H1=>∃ b1 b2 a1 a2,vs=[.ref a1,.ref a2]/\(∃ xs,i6 K H1 b1 a1 xs)/\(∃ ys,i6 K H1 b2 a2 ys)/\R (HN K b1 b2 a1 a2) H1
theorem mU{tp:Pos}{l1 l2:Expr}{p:Pos}(hg:Gl X "zip")(hm:X.mg "zip" = none)(hl:PA X [l1,l2] tl)(hs:autoParam (starEach [l1,l2] X.env=[(false,eval l1 X.env),(false,eval l2 X.env)]) aR._auto_1)(Li:autoParam (starEach [l2] X.env=[(false,eval l2 X.env)]) aR._auto_1) :
  PI X (.Tuple elts x1 tp) (.Call (.Name "zip" p) [l1,l2] [] pos) (GC X.K tl):=by
 intro J0 s σ H R I h;refine Call_ (jf I hg hm SG (OV (cA (hl pos J0 s σ H _ I h) λus s1 ⟨vs,H1,I1,r1,q1⟩=>?_) (by rw[hs,Li]) (by rw[Li];rfl)));obtain⟨b1,b2,a1,a2,e,⟨xs,Km⟩,⟨ys,Kn⟩,q⟩:=q1;subst e;cases r1 with
 | cons r rr =>
  cases rr with
  | cons r' rr =>
   cases rr;cases (show _=NB a1 from r);cases (show _=NB a2 from r');obtain⟨Md,Mt,p1,Nh⟩:=I1.row Km;obtain⟨Le,Mu,p2,Ni⟩:=I1.row Kn;refine wo p1 p2 λh' g1 g2 g3 g4 g5 g6 g7=>?_;have I2:Inv X J0 σ H1 { s1 with heap:=h' }:=I1.kept (t':=s1.toks) g7;refine Q8 (s:={ s1 with heap:=h' }) g1 ?_;refine⟨s1.heap.objs.size+4,[s1.heap.objs.size+4,s1.heap.objs.size+3,s1.heap.objs.size,s1.heap.objs.size+1,s1.heap.objs.size+2],_,_,H1,rfl,I2,
    wW b1 b2 a1 a2 _ _ _ _ _ (EI s1.heap.objs.size),⟨g1,g2,⟨_,_,g3⟩,g4,g5⟩,λb hb=>?_,q⟩
   have hle:s1.heap.objs.size<=b:=by
    simp only[NJ,Ov,or_false] at hb;rcases hb with q | q | q | q | q
    .rw[q];exact OT _ 4
    .rw[q];exact OT _ 3
    .rw[q];exact NC _
    .rw[q];exact OT _ 1
    .rw[q];exact OT _ 2
   exact I1.rf hle (I1.bw.fresh hle)
def HL(K:Nr)(b:Bool)(a:Addr):It:=match b with
 | true=>Ju K a
 | false=>Jt K a
def GI(K:Nr)(tl:TE):TI:=fun σ H R=>tl σ H λx H1=>∃ b a,x=.ref a/\(∃ xs,i6 K H1 b a xs)/\R (HL K b a) H1
theorem gp{l:Expr}{tl:TE}(hl:PE X l tl):PI X tg l (GI X.K tl):=by
 intro J0 s σ H R I h;refine cA (hl J0 s σ H _ I h) λv s1 ⟨x,H1,I1,r1,q1⟩=>?_;obtain⟨b,a,e,⟨xs,hq⟩,q⟩:=q1;subst e;cases r1;cases b with
 | true =>
  obtain⟨J4,rv,p,hz⟩:=I1.list hq;refine R1 p.isList ?_;refine⟨s1.heap.objs.size,[s1.heap.objs.size],_,_,H1,rfl,I1.kept (t':=s1.toks) λb o e=>Nq _ e,wt a _,⟨_,Ny _ rfl,rfl,rfl⟩,λb hb=>?_,q⟩;have e:b=s1.heap.objs.size:=by simpa using hb
  subst e;exact I1.rf (NC _) (I1.bw.fresh (NC _))
 | false =>
  obtain⟨J4,rv,p,hz⟩:=I1.tuple hq;refine P4 (show s1.heap.IsTuple a J4.toArray from p) ?_;refine⟨s1.heap.objs.size,[s1.heap.objs.size],_,_,H1,rfl,I1.kept (t':=s1.toks) λb o e=>Nq _ e,uj a _,⟨_,Ny _ rfl,rfl,rfl⟩,λb hb=>?_,q⟩;have e:b=s1.heap.objs.size:=by simpa using hb
  subst e;exact I1.rf (NC _) (I1.bw.fresh (NC _))
theorem vt(hc:X.calm=true):cL X (.builtin "sum") (λxs H Q=>∃ (a:Addr) (ns:List Int),xs=[.ref a]/\gc X.K H a (ns.map V.int)/\Q (.int ns.sum) H):=by
 intro J0 s σ H xs us Q I r h;obtain⟨a,ns,rfl,hq,q⟩:=h;cases r with
 | cons r1 r2 =>
  cases r2;cases (show _=NB a from r1);obtain⟨J4,rv,p,hz⟩:=I.list hq;have hi:=intsAre_of rv;obtain⟨xs',e⟩:=hi.allInts.items;have e3:numsOf (intItems xs').toList=ns:=by rw[<- e];exact hi.numsOf
  rw[nums_intItems] at e3;refine sum_intListG (I.ok.hd hc) (by rw[<- e];exact p.isList) λh' tk t' hk=>⟨.int ns.sum,H,I.kept (t':=tk) hk,⟨t',?_⟩,q⟩
  rw[preSum_eq,P5 (by simp),e3]
structure dk (K:Nr) (C:Addr):Prop where
 ga:N1 K (.ref C) "__getattribute__" = some (some (.builtin "BaseException.__getattribute__"))
 gn:N1 K (.ref C) "__getattr__" = some none
 hd:QM K C=true
 sa:N1 K (.ref C) "__setattr__" = some (some (.builtin "object.__setattr__"))
 mb:R5 K C (.type "BaseException")=some true
 mo:R5 K C (.type "object")=some true
 ca:N1 K (.ref C) "__class__" = some (some (.builtin "object.__class__"))
 cg:QN K (.builtin "object.__class__") "__get__" = some (some (.builtin "getset_descriptor.__get__"))
 ct:Ro K (.builtin "object.__class__")=some true
variable{name:Str}{ox:Obj}
variable{tk:Tok}
variable{pl:Sem Bool}{f:Addr}
section
variable{E:Value->Shared->Prop}{K:Nr}{x:Addr}{od:Option Obj}
theorem yB:builtinKind "BaseException.__getattribute__" = some .slot:=by decide +kernel
theorem vP:splitId "BaseException.__getattribute__" = some ("BaseException", "__getattribute__"):=by decide +kernel
theorem xK{fill expr:Bool}(c:dk K C)(X:K.In s.heap)(I:O8 s.heap x ox C od)
  (h:wpAny (model prog w) A.in1 (Builtin.«object.__getattribute__» ⟨[.ref x,.str name tk],[]⟩)
   (λfin s'=>match fin with | .done (.ret v)=>wpAny (model prog w) A (handedOut v) Q E s' | _=>False) (λ_ _=>False) s) :
  wpAny (model prog w) A (getAttrBy (.ref x) (.str name tk) fill expr) Q E s:=by
 have K8:(Ra "BaseException.__getattribute__" == Ra "object.__getattribute__")=false:=by decide +kernel
 have MO:(onTheHeap (NB C)&&Ra "BaseException.__getattribute__" == Ra "object.__getattribute__")=false:=by rw[K8];rfl
 have hx0:(expr&&onTheHeap (Ra "BaseException.__getattribute__"))=false:=by cases expr <;> rfl
 have sub:QA (model prog w) s.heap (isInstance (.ref x) (.type "BaseException")) true:=I.type.andThen (RB X c.mb);unfold getAttrBy;refine O6 (Np (I.type.here (Np ((OR X c.ga).here ?_))));dsimp only;rw[MO,if_neg OF];unfold getAttrByItsOwn hookBefore;refine Np ?_;show wpAny _ _ (typeLookup (.ref C) "__getattr__") _ _ _;refine(OR X c.gn).here ?_;refine Np (Qc (O6 ?_));unfold callGetattribute;rw[hx0,if_neg OF];unfold boundAndCalled;refine Np (wpAny_of_eq (Se.ga.bind _) ?_);refine Q9 (SQ Se.ga.plain PySem.F.entry_bexc_ga (@To (model prog w) _ _ s "BaseException.__getattribute__" "BaseException" "__getattribute__" (.ref x) [.str name tk] [] _ yB vP sub (PySem.F.args_bexc_ga _ _) ?_));refine OP h (λfin s' z=>?_) (λ_ _ z=>z.elim);rcases fin with (v | _ | _ | _) | _ <;> first | exact z | exact z.elim
theorem vk{v:Value}(c:dk K C)(X:K.In s.heap)(I:O8 s.heap x ox C od)(hf:Rt K C od name=some (.value v))(hh:handedOut v=pure v)
  (h:Q v { s with toks:=s.toks+1 }):wpAny (model prog w) A (getAttr (.ref x) name b) Q E s:=by
 unfold getAttr;refine Np (wpAny_mkText (xK (s:={ s with toks:=s.toks+1 }) c X I ?_));unfold Builtin.«object.__getattribute__»;refine Np (Nx ?_);dsimp only;refine Np (Nx ?_);refine Np (I.type.here (s:={ s with toks:=s.toks+1 }) (Np ((Tp X I hf).here (s:={ s with toks:=s.toks+1 }) ?_)));refine Nx ?_;show wpAny _ _ (handedOut v) _ _ _;rw[hh];exact Nx h
theorem x9:Manifest.canonical "BaseException.__getattribute__" = "object.__getattribute__" := by decide +kernel
theorem yN{Q:Value×List Value->Shared->Prop}(c:dk K C)(X:K.In s.heap)(I:O8 s.heap x ox C od)
  (hf:N1 K (.ref C) name=some (some (.ref f))) (ht:P1 K (.ref f)=true) (hs:Ul od name=some false) (h:Q (.ref f,[.ref x]) s) :
  wpAny (model prog w) A (getMethod (.ref x) name pl) Q E s:=by
 have ht:=beq_iff_eq.mp ht;unfold getMethod specialOf;refine Np (Np (I.type.here ((OR X c.ga).here ?_)));dsimp only;rw[x9,if_neg (by decide)];refine Np (Np (I.type.here ((OR X c.gn).here ?_)));refine Np (Np (I.type.here ((OR X hf).here (Np ((SS X ht).here ?_)))));rw[if_neg (by decide +kernel)];refine Np (PX I.at_ ?_);have hd:=I.dict;cases e:ox.dict with
 | none=>exact Np (Qg (Nx h))
 | some dx =>
  cases od with
  | none=>rw[e] at hd;exact hd.elim
  | some o =>
   rw[e] at hd;obtain⟨r,a,b⟩:=NS.mp hs;refine Np (Np (PX hd ?_));rw[PySem.W.nsLook_of a];refine Nx ?_;rw[b];exact Np (Qg (Nx h))
end
variable{newId:String}{dd:Option Addr}
section
open PySem.Builtin.ObjectAttr (storeInOwnDict storeTaker? setByDescriptor)
abbrev eg:List Value:=[.type "ValueError", .type "Exception", .type "BaseException", .type "object"]
def ez:List Value->Bool
 | .ref _::r=>ez r
 | l=>l==eg
theorem mM(self:Value):refuseLoop self "__setattr__" eg=pure ():=by kernel_rfl
theorem kX(self:Value):∀ {l:List Value},ez l=true->refuseLoop self "__setattr__" l=pure ()
 | .ref c::r,e=>by rw[PySem.refuseLoop_ref];exact kX self e
 | [],e=>by cases (show false=true from e)
 | .type n::r,e=>by rw[show OW n::r=eg from beq_iff_eq.mp e];exact mM self
 | .none::r,e=>by rw[show Ob::r=eg from beq_iff_eq.mp e];exact mM self
section
variable{E:Value->Shared->Prop}{K:Nr}{x:Addr}{od:Option Obj}
theorem n_{a g:Value}(hc:(PM K C).isSome=true)(ha:N1 K (.ref C) name=some (some a))(hg:QN K a "__get__" = some (some g))(ht:Ro K a=some true):Rt K C od name=some (.bind g a):=by
 obtain⟨cd,hc⟩:=Qx.mp hc;unfold Rt;rw[hc,Um,ha,Um];simp[hg,ht]
theorem we{Q:Option Value->Shared->Prop}(c:dk K C)(X:K.In s.heap)(I:O8 s.heap x ox C od)(h:Q (some (.ref C)) { s with toks:=s.toks+1 }):wpAny (model prog w) A (getAttr? (.ref x) "__class__") Q E s:=by
 have hc:(PM K C).isSome=true:=by obtain⟨cd,hc,_⟩:=PU c.hd;rw[hc];rfl
 have hf:Rt K C od "__class__" = some (.bind (.builtin "getset_descriptor.__get__") (.builtin "object.__class__")):=n_ hc c.ca c.cg c.ct;unfold getAttr? getAttrBy?;refine Np (wpAny_mkText (Np (Qc ?_)));refine xK (s:={ s with toks:=s.toks+1 }) c X I ?_;unfold Builtin.«object.__getattribute__»;refine Np (Nx ?_);dsimp only;refine Np (Nx ?_);refine Np (I.type.here (s:={ s with toks:=s.toks+1 }) (Np ((Tp X I hf).here (s:={ s with toks:=s.toks+1 }) ?_)));show wpAny _ _ (holding [.builtin "object.__class__"] (call (.builtin "getset_descriptor.__get__") [.builtin "object.__class__", .ref x,.ref C]) >>= ret) _ _ _;refine Np (O6 (Q9 (PySem.W.class_get (s:={ s with toks:=s.toks+1 }) (ox:=ox) (od:=od) X I c.mo ?_)));refine Nx ?_;exact PySem.W.handed_on rfl (Nx h)
theorem qW(c:dk K C):U1 K (.ref x) (.ref C) (λh=>O8 h x ox C od) where
 ty:=λ_ _ _ I=>I.type
 it:=λ_ _ X _=>by
  obtain⟨cdD,L5,_⟩:=PU c.hd;unfold PM at L5
  split at L5
  .rename_i c' d' cd' sl' ho;intro A' Q' E' s' k q;unfold isType loadHead;exact Np (PX (k _ _ (X _ _ ho)) (Nx q))
  .cases L5
 ne:=λh tp dd J4 n sl X htp=>by
  obtain⟨cdD,L5,_⟩:=PU c.hd;refine Bool.eq_false_iff.mpr λq=>?_;have e:C=tp:=Value.ref.inj (beq_iff_eq.mp q);subst e;unfold PM at L5
  split at L5
  .rename_i c' d' cd' sl' ho;have z:=(X _ _ ho).symm.trans htp;cases z
  .cases L5
 ca:=λX I k=>we c X I k
theorem An{v:Value}{R:Result->Shared->Prop}(po:((PM K C).any λcd=>ez cd.mro)=true)(c:dk K C)(X:K.In s.heap)(I:O8 s.heap x ox C od)(ht:QE K C name=some none)
  (h:∀ b,wpAny (model prog w) A.in1 (storeInOwnDict (.ref x) (.ref C) (.str name tk) name v b)
   (λfin s'=>match fin with | .done f=>R (.ok f) s' | .again c'=>c'.quiet=true/\codeAny (model prog w) A c' R s') (λe s'=>R (.error e) s') s) :
  codeAny (model prog w) A (.call (.builtin "object.__setattr__") ⟨[.ref x,.str name tk,v],[]⟩) R s:=by
 have SF:=PySem.F.store_object;obtain⟨cd,hc,ho⟩:=PU po;have sub:QA (model prog w) s.heap (isInstance (.ref x) (.type "object")) true:=I.type.andThen (RB X c.mo);refine SQ SF.slot.plain SF.entry (@To (model prog w) _ _ s "object.__setattr__" "object" "__setattr__" (.ref x) [.str name tk,v] [] _ SF.kind SF.split sub (SF.args (.ref x) (.str name tk) v) ?_);obtain⟨attr,ha,hr⟩:=QK.mp ht;have hm:QA (model prog w) s.heap (mroOf (.ref C)) cd.mro:=(Rz X hc).andThen .now;have L3:QA (model prog w) s.heap (storeTaker? attr) none:=by
  cases attr with
  | none=>cases hr;exact .now
  | some a =>
   obtain⟨b,hb,e⟩:=NS.mp hr;refine(PySem.W.looks_takesIn X hb).andThen ?_;cases b with
   | true=>cases e
   | false=>exact .now
 rw[PySem.W.osa_eq,PySem.refuse_eq];refine Np (Np (I.type.here (Np (hm.here ?_))));rw[kX _ ho];refine Nx (Np (I.type.here (Np ((OR X ha).here (Np (L3.here ?_))))));exact h _
theorem zX{vs:Array Value}{v:Value}{Q:Unit->Shared->Prop}(po:((PM K C).any λcd=>ez cd.mro)=true)(c:dk K C)(X:K.In s.heap)(hx:s.heap.get? x=some ⟨.ref C,none,.fields vs,#[]⟩)(ht:QE K C name=some none)
  (h:∀ h' tk d,h'.get? x=some ⟨.ref C,some d,.fields vs,#[]⟩->s.heap.get? d=none->h'.Ns1 d (λy=>if y=name then some v else none)->(∀ b o,b≠x->s.heap.get? b=some o->h'.get? b=some o)->Q () { s with heap:=h',toks:=tk }) :
  wpAny (model prog w) A (setAttr (.ref x) name v) Q E s:=by
 have I:O8 s.heap x ⟨.ref C,none,.fields vs,#[]⟩ C none:=⟨hx,rfl,rfl,trivial⟩
 refine TM X I c.sa (An (s:={ s with toks:=s.toks+1 }) po c X I ht λb=>?_);obtain⟨cd,hc,M0⟩:=PU c.hd;have KW:=Nz hx;refine Np (Nx (Np (Np (PX hx (Np (Tf (s:={ s with toks:=s.toks+1 }) (Rz X hc) ?_))))));rw[M0];refine Np (wpAny_alloc ?_);have MO:(s.heap.push { cls:=.type "dict", data:=.dict #[] }).get? x=some ⟨.ref C,none,.fields vs,#[]⟩:=Nq _ hx;refine Np (wpAny_update MO ?_);refine Nx (a:=some s.heap.objs.size) (Np (Nx (Np ?_)));have K8:((s.heap.push { cls:=.type "dict", data:=.dict #[] }).update x λo=>{ o with dict:=some s.heap.objs.size }).get? x=some ⟨.ref C,some s.heap.objs.size,.fields vs,#[]⟩:=OL _ MO rfl;have e1:(s.heap.push { cls:=.type "dict", data:=.dict #[] }).get? s.heap.objs.size=some { cls:=.type "dict", data:=.dict #[] }:=Ny s.heap rfl;have nxd:s.heap.objs.size≠x:=Pd KW;have e2:((s.heap.push { cls:=.type "dict", data:=.dict #[] }).update x λo=>{ o with dict:=some s.heap.objs.size }).get? s.heap.objs.size=some { cls:=.type "dict", data:=.dict #[] }:=by
  rw[OB _ _ (O5 nxd)];exact e1
 have e3:((s.heap.push { cls:=.type "dict", data:=.dict #[] }).update x λo=>{ o with dict:=some s.heap.objs.size }).Ns s.heap.objs.size (λ_=>none):=⟨_,#[],_,e2,rfl,(λe he=>absurd he (by simp)),λ_=>rfl⟩
 refine wpAny_nsSet1 (s:={ s with heap:=(s.heap.push { cls:=.type "dict", data:=.dict #[] }).update x λo=>{ o with dict:=some s.heap.objs.size },toks:=s.toks+1 }) (TR e3) λh' Mr Li=>?_;obtain⟨oD,esD,epD,hoD,hdD,L5⟩:=Mr.count (TN (ns:=[]) name v (λy hy=>absurd rfl hy));refine Np (wpAny_lookBehind hoD (by rw[hdD];exact pastItsLine_dict (NZ L5 (by show 1<=sizeLine+1;exact Nat.le_add_left _ _))) ?_);refine Nx (h h' _ s.heap.objs.size ((Li.2 x (O5 nxd)).trans K8) (Qf (NC _)) Mr λb o hb e=>?_);refine(Li.2 b (NP (Nz e))).trans ?_;rw[OB _ _ (O5 hb)];exact Nq _ e
end
def mB(K:Nr)(C:Addr)(newId:String)(f:Addr):Bool:=match K.lookup C with
 | some ⟨.type "type", _,.cls cd,sl⟩=>(match cd.mro,sl.toList with
  | .ref C'::bm,[_,_,_,_,some (.builtin n),_]=>C'==C&&n==newId&&!cd.hasDel&&PySem.W.tailIn K eg bm&&PySem.W.nsOkIn K cd.ns&&Sq K cd.ns "__init__" == some (some (.ref f))
  | _,_=>false)
 | _=>false
section
variable{E:Value->Shared->Prop}{g:Array GenState}{d:Drawn}{t:Nat}{os:OsState}
variable{nm q:Str}{N:Addr}{bs bm:List Value}{Lw:Bool}{sn:List Str}{sub:List Value}{ab:Bool}{col:Option Bool}{k0 k1 k2 k3 k5:Option Value}{MH:String}
theorem nu(F:ExcBaseFacts "ValueError" newId MH eg)(T:OwnTail h eg bm){mN:Str->Option Value}{rest:List Value}{Q:Fin->Shared->Prop}
  (hC:h.get? C=some (excClassObj nm q C N bs bm Lw sn sub ab col dd k0 k1 k2 k3 k5 newId)) (hn:h.Ns N mN) (LP:mN "__init__" = some (.ref f))
  (hb:∀ h':Heap,(∀ b o,h.get? b=some o->h'.get? b=some o)->∀ self,QA (model prog w) h' (bindSpecial (.ref f) self) (.ref f,[self]))
  (hq:∀ h':Heap,(∀ b o,h.get? b=some o->h'.get? b=some o)->h'.get? h.objs.size=some { cls:=.type "tuple", data:=.seq rest.toArray } ->
   h'.get? (h.objs.size+1)=some { cls:=.ref C,data:=.fields #[.ref h.objs.size,.none,.none,.none,.bool false,.none] }->h'.objs.size=h.objs.size+2 ->
   wpAny (model prog w) A (call (.ref f) (.ref (h.objs.size+1)::rest)) (λv s'=>v=.none/\Q (.done (.ret (.ref (h.objs.size+1)))) s') E ⟨h',g,d,t,os⟩) (zk:rest.length<=sizeLine:=by size_fits) :
  wpAny (model prog w) A (Builtin.«type.__call__» ⟨.ref C::rest,[]⟩) Q E ⟨h,g,d,t,os⟩:=by
 repeat (first | with_reducible refine R3 hC ?_ | with_reducible refine wpAny_madeBy_exc hC ?_ | wp_step)
 refine codeAny_call_builtin_code (Tq _ F.quiet) (wpAny_check_new_subT F T hC ?_);refine codeAny_exc_new_subT F T hC ?_ zk;show wpAny _ _ _ _ _ _;have kp:∀ b o,h.get? b=some o->((h.push { cls:=.type "tuple", data:=.seq rest.toArray }).push { cls:=.ref C,data:=.fields #[.ref h.objs.size,.none,.none,.none,.bool false,.none] }).get? b=some o:=λb o e=>Nq _ (Nq _ e);have hC1:=kp _ _ hC;have hn₁:((h.push { cls:=.type "tuple", data:=.seq rest.toArray }).push { cls:=.ref C,data:=.fields #[.ref h.objs.size,.none,.none,.none,.bool false,.none] }).Ns N mN:=hn.keeps kp;have M4:((h.push { cls:=.type "tuple", data:=.seq rest.toArray }).push
   { cls:=.ref C,data:=.fields #[.ref h.objs.size,.none,.none,.none,.bool false,.none] }).get? (h.objs.size+1)=some
   { cls:=.ref C,data:=.fields #[.ref h.objs.size,.none,.none,.none,.bool false,.none] }:=by heap_get
 have htup:((h.push { cls:=.type "tuple", data:=.seq rest.toArray }).push
   { cls:=.ref C,data:=.fields #[.ref h.objs.size,.none,.none,.none,.bool false,.none] }).get? h.objs.size=some { cls:=.type "tuple", data:=.seq rest.toArray }:=Nq _ (Ny _ rfl)
 have K7:((h.push { cls:=.type "tuple", data:=.seq rest.toArray }).push { cls:=.ref C,data:=.fields #[.ref h.objs.size,.none,.none,.none,.bool false,.none] }).objs.size=h.objs.size+2:=by rw[NY,NY]
 have hcC:(NB C::bm).contains (.ref C)=true:=by simp
 have T1:=T.keeps kp;have hb₁:=hb _ kp (.ref (h.objs.size+1));have fin:=hq _ kp htup M4 K7;generalize ((h.push { cls:=.type "tuple", data:=.seq rest.toArray }).push { cls:=.ref C,data:=.fields #[.ref h.objs.size,.none,.none,.none,.bool false,.none] })=h1 at *;unfold isInstance
 repeat (first | with_reducible refine R3 M4 ?_ | (with_reducible refine wpAny_isSubtype_exc hC1 ?_;rw[hcC]) | wp_step)
 show wpAny _ _ (typeLookup (.ref C) _) _ _ _;refine wpAny_typeLookup_tail hC1 hn₁ T1 F.mroIs F.init.lookup ?_;rw[LP];refine O6 (Np (hb₁.here ?_));refine Np (OP fin (λv s' z=>?_) λ_ _ z=>z);obtain⟨rfl,z⟩:=z
 wp_walk
 exact z
end
end
def fG(C:Addr)(dd:Option Addr)(e:Addr):HO:=.ext λh=>∃ vs,h.get? e=some ⟨.ref C,dd,.fields vs,#[]⟩
theorem AG{e:Addr}{vs:Array Value}(he:h.get? e=some ⟨.ref C,dd,.fields vs,#[]⟩):bS P w H h e (fG C dd e) :=
 ⟨⟨vs,he⟩,⟨_,he⟩,λ_ _ ⟨vs,q⟩ k=>⟨vs,k _ q⟩⟩
def ExcAt(H:Hp)(e C:Addr)(fo:Option (List (Str×V))):Prop:=match fo with
 | none=>H e=some (fG C none e)
 | some fs=>∃ d,H e=some (fG C (some d) e)/\H d=some (.xd fs)
theorem Inv.lL(I:Inv X J0 σ H s){e:Addr}(he:H e=some (fG C dd e)):∃ vs,s.heap.get? e=some ⟨.ref C,dd,.fields vs,#[]⟩:=(I.bw e _ he).1
theorem Inv.pE(I:Inv X J0 σ H s){e:Addr}{fo:Option (List (Str×V))}(h:ExcAt H e C fo):∃ ox od,O8 s.heap e ox C od/\(fo=none->od=none) ∧
  ∀ fs,fo=some fs->∃ (o:Obj) (mA:Str->Option Value),od=some o/\(∀ n,Qh n o=some (mA n))/\∀ f,jm (fs.lookup f) (mA f):=by
 cases fo with
 | none =>
  obtain⟨vs,q⟩:=I.lL h;exact⟨_,none,⟨q,rfl,rfl,trivial⟩,λ_=>rfl,λfs z=>(by cases z)⟩
 | some fs =>
  obtain⟨d,h1,h2⟩:=h;obtain⟨vs,q⟩:=I.lL h1;obtain⟨mA,n,r⟩:=(show ∃ mA,s.heap.Ns1 d mA/\∀ f,jm (fs.lookup f) (mA f) from I.bw d _ h2)
  obtain⟨o,ho,hl⟩:=kE n;refine⟨_,some o,⟨q,rfl,rfl,ho⟩,λz=>(by cases z),λfs' z=>?_⟩;cases z;exact⟨o,mA,rfl,hl,r⟩
theorem Inv.pA(I:Inv X J0 σ H s)(hn:s.heap.get? a=none):H a=none:=by
 cases q:H a with
 | none=>rfl
 | some u =>
  exfalso;have:∀ (u:HO),bS X.prog X.w H s.heap a u->∃ ob,s.heap.get? a=some ob:=by
   intro u
   induction u with
   | lst xs=>intro ⟨_,_,_,_,e⟩;exact⟨_,e⟩
   | tup xs=>intro ⟨_,_,_,p⟩;obtain⟨ob,e,_⟩:=p;exact⟨ob,e⟩
   | dK Kf=>intro ⟨_,_,_,_,p⟩;obtain⟨ob,_,_,e,_⟩:=p;exact⟨ob,e⟩
   | dT Kf=>intro ⟨_,_,_,_,ob,_,_,e,_⟩;exact⟨ob,e⟩
   | set S n=>intro p;obtain⟨es,ob,xs,ep,e,_⟩:=p;exact⟨_,e⟩
   | ins C dx fs=>intro ⟨_,_,_,e,_⟩;exact⟨_,e⟩
   | own x=>intro ⟨ob,e⟩;exact⟨ob,e⟩
   | xd fs=>intro ⟨mA,n,_⟩;obtain⟨ob,e,_⟩:=kE n;exact⟨ob,e⟩
   | met f x=>intro e;exact⟨_,e⟩
   | w_ lo hi=>intro ⟨_,_,_,e⟩;exact⟨_,e⟩
   | ny o u _=>intro ⟨e,_⟩;exact⟨_,e⟩
   | B4 ps=>intro e;exact⟨_,e⟩
   | ext φ=>intro ⟨_,⟨ob,e⟩,_⟩;exact⟨ob,e⟩
  obtain⟨ob,e⟩:=this u (I.bw a u q);rw[hn] at e;cases e
theorem Inv.Ct(I:Inv X J0 σ H s)(k:∀ b u,s.heap.get? b=some u->h'.get? b=some u)(hn:s.heap.get? a=none)(new:bS X.prog X.w (upd H a o) h' a o) :
  Inv X J0 σ (upd H a o) { s with heap:=h',toks:=t' }:=by
 have ne:∀ b u,s.heap.get? b=some u->b≠a:=λb u e z=>by rw[z,hn] at e;cases e
 have L8:H a=none:=I.pA hn;have Mg:∀ b u,H b=some u->b≠a:=λb u e z=>by rw[z,L8] at e;cases e
 refine I.un ⟨λb u e _ _ _=>k b u e,λb u e _ _ _=>⟨u.slots,k b u e⟩,λb u e n _=>by rw[av (ne b u e)];exact n,λb u e _=>⟨u,k b u e⟩,
  λb xs e=>by rw[av (Mg b _ e)];exact e,λb ob u e=>by rw[av (Mg b _ e)];exact e,λb ps e=>⟨#[],by rw[av (Mg b _ e),e];simp⟩⟩ λb u e=>?_
 by_cases z:b=a
 .subst z;rw[az] at e;cases e;exact new
 .rw[av z] at e;refine(I.bw b u e).jK (λc v _ q=>k c v q) (λc q=>?_) λc ys q=>?_
  .rw[av (Mg c _ q)];exact q
  .rw[av (Mg c _ q)];exact q
variable{apos:Pos}{m:Str}{ta:TE}
section
variable{o:Expr}{f:Str}
def Iy(K:Nr):List V->Hp->VK->Prop:=λxs H Q=>∃ e C fo b,dk K C/\ExcAt H e C fo ∧
 ((∃ T,xs=[.ref e,.ty T]/\NI K (.ref C) (.type T)=some b)\/(∃ D,xs=[.ref e,.ref D]/\NI K (.ref C) (.ref D)=some b))/\Q (.bl b) H
theorem mD:cL X (.builtin "isinstance") (Iy X.K):=by
 intro J0 s σ H xs us Q I r h;obtain⟨e,C,fo,b,c,ha,hc,q⟩:=h;obtain⟨ox,od,J,_⟩:=I.pE ha;rcases hc with ⟨T,rfl,hk⟩ | ⟨D,rfl,hk⟩
 .cases r with
  | cons r1 r2 =>
   cases r2 with
   | cons r3 r4 =>
    cases r4;cases (show _=NB e from r1);cases (show _=OW T from r3);exact Oq (qW c) I.gC J hk (λz=>nomatch z) λtk=>⟨.bl b,H,I.tok tk,rfl,q⟩
 .cases r with
  | cons r1 r2 =>
   cases r2 with
   | cons r3 r4 =>
    cases r4;cases (show _=NB e from r1);cases (show _=NB D from r3);exact Oq (qW c) I.gC J hk (λz=>nomatch z) λtk=>⟨.bl b,H,I.tok tk,rfl,q⟩
def GB(K:Nr)(ta:TE)(f:Str):TE:=fun σ H Q=>ta σ H λx H1=>∃ e C fs v,x=.ref e/\ExcAt H1 e C (some fs)/\dk K C/\bI K C f/\fs.lookup f=some v/\Q v H1
theorem Ai(he:PE X o ta)(hb:attributeBase o f X.env (eval o X.env)=eval o X.env):PE X (.Attribute o f pos) (GB X.K ta f):=by
 intro J0 s σ H Q I h;refine u5 hb (cA (he J0 s σ H _ I h) λu s1 ⟨x,H1,I1,rx,e,C,fs,v,ex,ha,c,n,l,q⟩=>?_);subst ex;obtain rfl:u=NB e:=rx;obtain⟨ox,od,J,_,hfo⟩:=I1.pE ha;obtain⟨o',mA,rfl,hl,hr⟩:=hfo fs rfl;obtain⟨u',hu,ru⟩:=jm.some_of (v:=v) (o:=mA f) (by rw[<- l];exact hr f);exact vk c I1.gC J (S3 c.hd n rfl (by rw[hl,hu])) (PySem.W.handedOut_of (oz ru)) ⟨v,H1,I1.tok _,ru,q⟩
end
variable{mg:Str->Option Value}
theorem tX{K:Nr}{N:Addr}{n:Str}{v:Value}(X:K.In h)(G:h.Ns N mg)(e:Sq K N n=some (some v)):mg n=some v:=by
 obtain⟨o,es,ep,ho,hd,_,hf⟩:=G;unfold Sq at e
 split at e
 .rename_i c d es' n' sl q;have:=X _ _ q;rw[ho] at this;cases this;cases hd
  split at e
  .rename_i en he;cases e;rw[<- hf];unfold nsFind findBy;rw[<- Te,he];rfl
  .split at e <;> cases e
 .cases e
theorem BP{K:Nr}(X:K.In h)(q:Rb K C eg newId=true) :
  ∃ bm N nm qn bs Lw sn sub ab col dd k0 k1 k2 k3 k5 mN,h.get? C=some (excClassObj nm qn C N bs bm Lw sn sub ab col dd k0 k1 k2 k3 k5 newId)/\h.Ns N mN/\mN "__init__" = none/\OwnTail h eg bm:=by
 unfold Rb at q
 split at q
 .rename_i dd cd sl ho
  split at q
  .rename_i C' bm k0 k1 k2 k3 n k5 hm hs;simp only[Ou,beq_iff_eq,T9] at q;obtain⟨⟨⟨⟨⟨rfl,rfl⟩,L6⟩,ht⟩,bw⟩,LP⟩:=q;obtain⟨nm,bs,mro,ns,qn,hd,sn,sub,ab,col,del⟩:=cd;dsimp only at hm L6 bw LP;subst hm L6;have hsl:sl=#[k0,k1,k2,k3,some (.builtin n),k5]:=by
    obtain⟨l⟩:=sl;simp only at hs;rw[hs]
   subst hsl;exact⟨bm,ns,nm,qn,bs,hd,sn,sub,ab,col,dd,k0,k1,k2,k3,k5,_,X _ _ ho,.of_isNs (Tr X bw),PySem.W.nsMap_none_of_in X bw LP,Tt X ht⟩
  .cases q
 .cases q
theorem zI{K:Nr}(X:K.In h)(q:mB K C newId f=true) :
  ∃ bm N nm qn bs Lw sn sub ab col dd k0 k1 k2 k3 k5 mN,h.get? C=some (excClassObj nm qn C N bs bm Lw sn sub ab col dd k0 k1 k2 k3 k5 newId)/\h.Ns N mN/\mN "__init__" = some (.ref f)/\OwnTail h eg bm:=by
 unfold mB at q
 split at q
 .rename_i dd cd sl ho
  split at q
  .rename_i C' bm k0 k1 k2 k3 n k5 hm hs;simp only[Ou,beq_iff_eq,T9] at q;obtain⟨⟨⟨⟨⟨rfl,rfl⟩,L6⟩,ht⟩,bw⟩,LP⟩:=q;obtain⟨nm,bs,mro,ns,qn,hd,sn,sub,ab,col,del⟩:=cd;dsimp only at hm L6 bw LP;subst hm L6;have hsl:sl=#[k0,k1,k2,k3,some (.builtin n),k5]:=by
    obtain⟨l⟩:=sl;simp only at hs;rw[hs]
   subst hsl;have hN:=Heap.Ns.of_isNs (Tr X bw);exact⟨bm,ns,nm,qn,bs,hd,sn,sub,ab,col,dd,k0,k1,k2,k3,k5,_,X _ _ ho,hN,tX X hN LP,Tt X ht⟩
  .cases q
 .cases q
variable{k:Nat}{t:TA}{es:List Expr}{e:Expr}{sp:Sp}{ps:List Str}{fd:FuncData}
section
variable{x:Str}{p:Pos}
end
section
open PySem.SeqAt (shaped noMix noMixAll)
end
section
open PySem.SeqAt (shaped noMix noMixAll)
theorem Bf{x:V}{u t:Value}(I:Inv X J0 σ H s)(rx:RelV x u)(ty:hX X.K H x t):∃ HH:Heap->Prop,U1 X.K u t HH/\HH s.heap/\u≠.builtin "__main__.__loader__#opaque" := by
 cases ty with
 | bz=>cases (show u=Ob from rx);exact⟨_,TU,Pb,λz=>nomatch z⟩
 | bl y=>cases (show u=Pk y from rx);exact⟨_,TV,Pb,λz=>nomatch z⟩
 | int i=>obtain⟨t,q⟩:=(show ∃ t,u=R9 i t from rx);cases q;exact⟨_,Uh,Pb,λz=>nomatch z⟩
 | str y=>obtain⟨t,q⟩:=(show ∃ t,u=R_ y t from rx);cases q;exact⟨_,Ui,Pb,λz=>nomatch z⟩
 | CA y=>obtain⟨t,q⟩:=(show ∃ t,u=SK y t from rx);cases q;exact⟨_,Tg,Pb,λz=>nomatch z⟩
 | @lst a xs ea =>
  cases (show u=NB a from rx);obtain⟨_,_,n,_,h1⟩:=(show bS X.prog X.w H s.heap a (.lst xs) from I.bw a _ ea)
  exact⟨_,QO,⟨_,h1,rfl⟩,λz=>nomatch z⟩
 | @ny a ob xs ea =>
  cases (show u=NB a from rx);obtain⟨_,_,_,n,_,h1⟩:=(show bS X.prog X.w H s.heap a (.ny ob (.lst xs)) from I.bw a _ ea)
  exact⟨_,QO,⟨_,h1,rfl⟩,λz=>nomatch z⟩
 | @tup a xs ea =>
  cases (show u=NB a from rx);obtain⟨_,_,_,o,h1,h2,_⟩:=(show bS X.prog X.w H s.heap a (.tup xs) from I.bw a _ ea)
  exact⟨_,Th,⟨o,h1,h2⟩,λz=>nomatch z⟩
 | @dK a Kf ea =>
  cases (show u=NB a from rx);obtain⟨_,_,vs,_,o,es,ep,h1,h2,_⟩:=(show bS X.prog X.w H s.heap a (.dK Kf) from I.bw a _ ea)
  exact⟨_,QS,⟨o,h1,h2.1⟩,λz=>nomatch z⟩
 | @dT a Kf ea =>
  cases (show u=NB a from rx);obtain⟨_,_,xs,_,o,es,ep,h1,h2,_⟩:=(show bS X.prog X.w H s.heap a (.dT Kf) from I.bw a _ ea)
  exact⟨_,QS,⟨o,h1,h2.1⟩,λz=>nomatch z⟩
 | @ins a C dx fs ea cl ha hn Fj hm =>
  cases (show u=NB a from rx);obtain⟨mA,O,_⟩:=jG I.bw ea;obtain⟨od,J,_⟩:=O.look;exact⟨_,Uj (cl.get _) cl.hd ha hn Fj hm,J,λz=>nomatch z⟩
def GL(K:Nr):List V->Hp->VK->Prop:=λxs H Q=>∃ (x:V) (tp:Addr) (Ts:List String) (t:Value) (b:Bool),xs=[x,.ref tp]/\H tp=some (.tup (Ts.map V.ty))/\hX K H x t/\RP K t (Ts.map OW)=some b/\Q (.bl b) H
theorem uD:∀ {Ts:List String} {us:List Value},Vals (Ts.map V.ty) us->us=Ts.map OW
 | [],us,r=>by rw[Qp] at r;cases r;rfl
 | T::Ts,us,r=>by
  rw[NX] at r;cases r with
  | cons r1 r2 =>
   cases (show _=OW T from r1);rw[uD r2];rfl
theorem vq:cL X (.builtin "isinstance") (GL X.K):=by
 intro J0 s σ H xs us Q I r h;obtain⟨x,tp,Ts,t,b,rfl,htp,ty,e,q⟩:=h;cases r with
 | cons r1 r2 =>
  cases r2 with
  | cons r3 r4 =>
   cases r4;cases (show _=NB tp from r3);obtain⟨HH,Z,p,ne⟩:=Bf I r1 ty;obtain⟨_,J4,rv,o,h1,h2,n,h3⟩:=(show bS X.prog X.w H s.heap tp (.tup (Ts.map V.ty)) from I.bw tp _ htp)
   have ei:=uD rv;subst ei;obtain⟨cls,dd,data,sl⟩:=o;dsimp only at h2 h3;subst h2 h3;exact PySem.W.kia_tup Z I.gC p h1 e ne λtk=>⟨.bl b,H,I.tok tk,rfl,q⟩
theorem uB:∀ {bs:List Bool} {us:List Value},Vals (bs.map V.bl) us->us=bs.map Pk
 | [],us,r=>by rw[Qp] at r;cases r;rfl
 | b::bs,us,r=>by
  rw[NX] at r;cases r with
  | cons r1 r2 =>
   cases (show _=Pk b from r1);rw[uB r2];rfl
theorem C7:bootBuiltins "all" = some (.builtin "all"):=by decide +kernel
theorem vR(hc:X.calm=true):cL X (.builtin "all") (λxs H Q=>∃ (a:Addr) (bs:List Bool),xs=[.ref a]/\gc X.K H a (bs.map V.bl)/\Q (.bl (bs.all id)) H):=by
 intro J0 s σ H xs us Q I r h;obtain⟨a,bs,rfl,hq,q⟩:=h;cases r with
 | cons r1 r2 =>
  cases r2;cases (show _=NB a from r1);obtain⟨J4,rv,p,hz⟩:=I.list hq;have ei:=uB rv;subst ei;have hl:=p.isList;have KW:a<s.heap.objs.size:=by obtain⟨_,e,_⟩:=hl;exact Nz e
  refine call_all_walk (R1 hl ?_);refine⟨s.heap.objs.size,[s.heap.objs.size,a],[s.heap.objs.size],(bs.map Pk).toArray.size,_,_,λi=>(bs[i]?).getD true,rfl,Walks.list (A:=X.A.in1) (I.ok.hd hc) _ a (NP KW) (bs.map Pk).toArray,
   ⟨⟨_,Ny _ rfl,rfl,rfl⟩,hl.push _⟩,λi v s' Q' E' hP hQ=>?_,λh' tk hk=>?_⟩
  .have hP':(bs.map Pk)[i]?=some v:=by simpa using hP
   rw[NT] at hP';obtain⟨b,e1,e2⟩:=NS.mp hP';subst e2;simp only[e1,Qs] at hQ;exact PC hQ
  .have e:((Oz (bs.map Pk).toArray.size).all λi=>(bs[i]?).getD true)=bs.all id:=by
    rw[ND,Nu];rw[SA,Oh,Oh];constructor
    .intro h b hb;obtain⟨i,hi,e⟩:=List.getElem_of_mem hb;have:=h i (Pn.mpr hi);simp only[Nt hi,Qs,e] at this;exact this
    .intro h i hi;have hi':=Pn.mp hi;simp only[Nt hi',Qs];exact h _ (N4 hi')
   rw[e];refine⟨.bl _,H,I.kept (t':=tk) (λb x e=>?_),rfl,q⟩;exact hk b x (λhm=>by rw[N6.mp hm] at e;exact PJ _ (Nz e)) (Nq _ e)
end
section
open PySem.MeetsSeq PySem.MeetsSeq2 PySem.MeetsSeq3
theorem j_:fillsNumberSlot (.type "tuple") "mul" = pure false :=
 PySem.fillsNumberSlot_seq (id := "tuple.__mul__") (r:=some (.builtin "tuple.__rmul__")) F.slot_tuple_mul.lookup (by decide +kernel) F.slot_tuple_rmul.lookup (by decide +kernel)
theorem pR:seqRepeat? (.type "tuple")=pure (some (.builtin "tuple.__mul__")):=by
 unfold seqRepeat?;rw[Uo (T := "tuple") (name := "__mul__") (id := "tuple.__mul__") F.slot_tuple_mul.lookup (by decide +kernel),Uo (T := "tuple") (name := "__rmul__") (id := "tuple.__rmul__") F.slot_tuple_rmul.lookup (by decide +kernel)];rfl
theorem pY(a:Int)(t:Tok)(l:Addr)(items:Array Value)(n:Nat)(dd:Option Addr)(sl:Array (Option Value)) :
  Meets (Builtin.«int.__rmul__» ⟨[.int a t,.ref l],[]⟩) (λ_ R s=>s.heap.get? l=some ⟨.type "tuple", dd,.seq items n,sl⟩/\R (.ok (.ret Value.notImplemented)) s) :=
 .of_wp λprog w A R s h=>by obtain⟨hp,g,d,tk,os⟩:=s;obtain⟨hl,h⟩:=h;wp_walk;exact⟨_,rfl,h⟩
theorem vM(l:Addr)(items:Array Value)(n:Nat)(dd:Option Addr)(sl:Array (Option Value))(u:Tok) :
  Meets (Builtin.«tuple.__mul__» ⟨[.ref l,.int 1 u],[]⟩) (λ_ R s=>s.heap.get? l=some ⟨.type "tuple", dd,.seq items n,sl⟩/\R (.ok (.ret (.ref l))) s) :=
 .of_wp λprog w A R s h=>by
  obtain⟨hp,g,d,tk,os⟩:=s;obtain⟨hl,h⟩:=h;have f1:=Sg;have f2:=QB
  wp_walk using OM hl
  exact⟨_,rfl,h⟩
theorem wB(l:Addr)(items:Array Value)(n:Nat)(dd:Option Addr)(sl:Array (Option Value))(x:Int)(u:Tok)(c0:¬ (decide (x < -2^63)||decide (x>=2^63))=true)(c1:¬ (items.isEmpty||x==1)=true)(c2:¬ (decide (x<=0)||items.isEmpty)=true)
  (c3:¬ (items.size:Int)*x>(2^63-1)/8) (c4:¬ RQ ((items.size:Int)*x)=true) (K7:(RM (λx1 x2=>x1++x2) #[] (Nv x.toNat items)).size<=sizeLine) :
  Meets (Builtin.«tuple.__mul__» ⟨[.ref l,.int x u],[]⟩) (λ_ R s=>s.heap.get? l=some ⟨.type "tuple", dd,.seq items n,sl⟩/\R (.ok (.ret (.ref s.heap.objs.size))) { s with heap:=s.heap.push { cls:=.type "tuple", data:=.seq (RM (λx1 x2=>x1++x2) #[] (Nv x.toNat items)) },toks:=s.toks }) :=
 .of_wp λprog w A R s h=>by
  obtain⟨hp,g,d,tk,os⟩:=s;obtain⟨hl,h⟩:=h;have f1:=Sg;have f2:=QB
  wp_walk using OM hl
  refine SD (decide_eq_false c0) ?_;wp_walk using OM hl;refine SD (decide_eq_false c3) ?_;wp_walk using OM hl;exact⟨_,rfl,h⟩
theorem v7(l:Addr)(items:Array Value)(n:Nat)(dd:Option Addr)(sl:Array (Option Value))(x:Int)(u:Tok)(c0:¬ (decide (x < -2^63)||decide (x>=2^63))=true)(c1:¬ (items.isEmpty||x==1)=true)(c2:(decide (x<=0)||items.isEmpty)=true) :
  Meets (Builtin.«tuple.__mul__» ⟨[.ref l,.int x u],[]⟩) (λ_ R s=>s.heap.get? l=some ⟨.type "tuple", dd,.seq items n,sl⟩/\R (.ok (.ret (.ref s.heap.objs.size))) { s with heap:=s.heap.push { cls:=.type "tuple", data:=.seq #[] },toks:=s.toks }) :=
 .of_wp λprog w A R s h=>by
  obtain⟨hp,g,d,tk,os⟩:=s;obtain⟨hl,h⟩:=h;have f1:=Sg;have f2:=QB
  wp_walk using OM hl
  refine SD (decide_eq_false c0) ?_;wp_walk using OM hl;exact⟨_,rfl,h⟩
def CC(K:Nr):R2:=λx y H Q=>∃ a k xs,x=.ref a/\y=.int k/\ff K H a xs/\xs≠[]/\-(2^63)<=k/\k<2^63/\xs.length*k.toNat<=sizeLine/\(k=1->Q (.ref a) H)/\(k≠1->∀ p,H p=none->Q (.ref p) (upd H p (.tup (Nv k.toNat xs).flatten)))
theorem A7:fD X (binaryOp .Mult) (CC X.K):=by
 intro J0 s σ H x y v u Q I rx ry h;obtain⟨a,k,xs,rfl,rfl,hq,LV,h1,h2,hz,q1,q2⟩:=h;cases rx;obtain⟨t,rfl⟩:=ry;obtain⟨J4,r,⟨o,e,hc,n,hd⟩,_⟩:=I.tuple hq;obtain⟨cls,dd,data,sl⟩:=o;dsimp only at hc hd;subst hc hd;have hl:=r.length;refine RV (T := "tuple") (U := "int") (by decide) ⟨_,e,rfl⟩ (λs'=>Sn s' k t) j_ F.fills_int_mul F.slot_int_rmul pR F.slot_int_index.lookup
  (QG F.slot_int_rmul (Sn s k t) F.entry_int_rmul (F.args_int_rmul_2 _ _) (pY k t a J4.toArray n dd sl) ⟨e,rfl,⟨_,e,rfl⟩,?_⟩)
 by_cases hk1:k=1
 .subst hk1;exact QG F.slot_tuple_mul ⟨_,e,rfl⟩ F.entry_tuple_mul (F.args_tuple_mul_2 _ _) (vM a J4.toArray n dd sl t) ⟨e,⟨.ref a,H,I,rfl,q1 rfl⟩⟩
 .have hb1:(k==1)=false:=by simpa using hk1
  have LP:J4≠[]:=λz=>LV (r.jL.mp z);have hie:J4.toArray.isEmpty=false:=by cases J4 with | nil=>exact absurd rfl LP | cons _ _=>rfl
  have c0:¬ (decide (k < -2^63)||decide (k>=2^63))=true:=by simp;lia
  have c1:¬ (J4.toArray.isEmpty||k==1)=true:=by rw[hie,hb1];simp
  have fin:∀ ys,ys=(Nv k.toNat J4).flatten.toArray->EP X J0 σ Q (.ref s.heap.objs.size) { s with heap:=s.heap.push { cls:=.type "tuple", data:=.seq ys },toks:=s.toks }:=λys ey=>by
   subst ey;refine⟨.ref s.heap.objs.size,_,I.laid (t':=s.toks) (o:=.tup (Nv k.toNat xs).flatten) (λb ob q=>Nq _ q) (NC _) ?_,rfl,q2 hk1 _ (I.bw.fresh (NC _))⟩;exact⟨by rw[len_rep,Qq];exact hz,_,r.rep k.toNat,S2 _ _⟩
  have K4:RM (λx1 x2=>x1++x2) #[] (Nv k.toNat J4.toArray)=(Nv k.toNat J4).flatten.toArray:=by
   have:=foldl_rep J4 k.toNat [];rw[P_] at this;exact this
  by_cases hk0:k<=0
  .have c2:(decide (k<=0)||J4.toArray.isEmpty)=true:=by rw[decide_eq_true hk0];rfl
   refine QG F.slot_tuple_mul ⟨_,e,rfl⟩ F.entry_tuple_mul (F.args_tuple_mul_2 _ _) (v7 a J4.toArray n dd sl k t c0 c1 c2) ⟨e,fin _ ?_⟩;rw[show k.toNat=0 by lia];rfl
  .have c2:¬ (decide (k<=0)||J4.toArray.isEmpty)=true:=by rw[decide_eq_false hk0,hie];simp
   have em:((J4.toArray.size:Nat):Int)*k=((xs.length*k.toNat:Nat):Int):=by
    rw[ND,<- hl,Int.natCast_mul,Int.toNat_of_nonneg (by lia)]
   have hs:(sizeLine:Int)<=(2^63-1)/8:=by decide
   refine QG F.slot_tuple_mul ⟨_,e,rfl⟩ F.entry_tuple_mul (F.args_tuple_mul_2 _ _) (wB a J4.toArray n dd sl k t c0 c1 c2 ?_ ?_ ?_) ⟨e,fin _ K4⟩
   .rw[em];lia
   .rw[em];unfold RQ;simp only[decide_eq_true_eq];lia
   .rw[K4,ND,len_rep,Qq,<- hl];exact hz
end
structure bK (K:Nr) (x qual:Str) (st:Stmt) (dv:Value) (f:Addr) (fd:FuncData):Prop where
 ex:∃ (oc:Value) (od:Option Addr) (kV doc pm:Value) (an:Option Addr) (J8 ct:Value) (LW:Array (Option Value)),
  fd=OE x qual (fW st) (de st) (aC st) dv kV doc pm an J8 ct/\K.lookup f=some ⟨oc,od,.func fd,LW⟩/\O9 K J8 qual=true
 kp:Oi K (.ref f)=true
variable{base:Heap}
variable{ds:List Value}{T:Addr}{qual:Str}
section
variable{K:Nr}
theorem bK.binds{x:Str}{st:Stmt}{o:Obj}(F:bK K x qual st (.ref T) f fd)(ho:K.lookup T=some o)(hs:o.data=.seq items n)
  (h:∀ (kV doc pm:Value) (an:Option Addr) (J8 ct:Value) (us:List Value),(us++ds).length=ps.length->∃ k,bindArgs (OE x qual (fW st) (de st) (aC st) (.ref T) kV doc pm an J8 ct) ⟨us,[]⟩=seqItems? (.ref T) >>= k/\k (some items)=pure (ps.zip (us++ds))):Binds K fd ps ds:=by
 obtain⟨oc,od,kV,doc,pm,an,J8,ct,LW,rfl,lk,KC⟩:=F.ex;intro s us X hl;obtain⟨k,h1,h2⟩:=h kV doc pm an J8 ct us hl;exact BindsTo.of_defaults rfl (X _ _ ho) hs h1 h2
end
variable{v:V}
theorem FI{x:Str}(hg:Gl X x)(hm:∃ u,X.mg x=some u/\RelV v u)(hd:autoParam ((x==("__debug__" : Str))=false) aD._auto_1):PE X (.Name x pos) (tC v):=by
 obtain⟨u,h1,h2⟩:=hm;exact uZ hg h1 h2 hd
theorem xA:bootBuiltins "max" = some (.builtin "max"):=by decide +kernel
variable{y:Str}
theorem uH{cl:List (Str×Addr)}{Lz py:Pos}{wi:TI}{g:TG}{fs:List Str}(hN:X.N.Nodup)(hiy:X.N[i]?=some y)(hy:Loc X.env.scope y)(J7:X.calm=true)
  (Kq:closureFor scope X.env=pure cl) (hk:scope.kind=.function) (nc:gk scope.names=true) (lo:iW scope.names=true) (fh:iZ cl scope.names=true) (ag:eP X cl) (fr:iq X scope cl fs js)
  (hi:PI X tg iter wi) (hg:∀ C s₀ H₀ ex J0,PG (sA X scope cl (ts++fs) C s₀ H₀ ex J0) tg g) (he:∀ C s₀ H₀ ex J0,PE (sA X scope cl (ts++fs) C s₀ H₀ ex J0) elt te)
  (hs:autoParam (∀ x,foldedSetIterable iter X.env x=pure x) aI._auto_1) (Nf:autoParam (swapsWith (.ListComp elt [⟨tg,iter,[],0⟩] scope pos) (some (.Name y py)) Lz.line X.env=pure true) aR._auto_1)
  (hf:autoParam (X.fn y=true\/X.env.scope.names.lookup y=some .local) aF._auto_1) :
  PS X (.Assign [.Name y py] (.ListComp elt [⟨tg,iter,[],0⟩] scope pos) Lz) (wb (mX wi g te ts js) (aL i)):=by
 intro J0 s σ H D I h;rw[exec_Assign_Name_used _ _ _ _ Nf];refine Np (Qw (Np ?_));show wpAny _ X.A (do let _ <- comprehension (.ListComp elt [⟨tg,iter,[],0⟩] scope pos) scope X.env _ (newList []) false (eval iter X.env) (some (assign (.Name y py) X.env))) _ _ s;refine Np (OP (rP (tt:=none) J7 Kq hk nc lo fh ag fr hi hg (λ_ _ _ _ _=>trivial) he hs I (show w8 wi g none te ts js σ H (λx H1=>D.nx (σ.set i (some x)) H1) from h) (some (assign (.Name y py) X.env)) (λ_ s'=>SP X J0 D .next s') λDd H' s' C Io q hm f=>?_) (λ_ s' hq=>Nx (Nx hq)) λ_ _ e=>e);show wpAny _ X.A (assign (.Name y py) X.env (.ref Dd)) _ _ s';refine TH (o7 Io hN hiy hy (v:=.ref Dd) rfl (λs'' I'' ⟨a,sb,ha⟩=>?_) hf);obtain⟨m,hn⟩:=hm;obtain⟨f0,f1,f2,f3,f4,f5⟩:=f;have naC:a≠C:=by
  rcases ha with z | z
  .rw[z];exact λw=>f1 w.symm
  .exact f4 y a z
 refine⟨m,hn.sameBut sb (O5 naC),λh' MN=>?_⟩;exact⟨_,H',I''.other ⟨f0,f1,f2,f3,f4,f5⟩ MN,q⟩
theorem mZ(a b c:Value):checkTypeCall "zip" ⟨[a,b,c],[]⟩=pure ():=by kernel_rfl
theorem n6(a b c:Value):checkBuiltinCall "zip.__new__" ⟨[.type "zip", a,b,c],[]⟩=pure ():=by kernel_rfl
abbrev bJ(h:Heap)(T:Addr)(a b c:Value):Prop:=h.get? T=some { cls:=.type "tuple", data:=.seq #[a,b,c] }
structure Z3 (z TI TO i1 i2 i3:Addr):Prop where
 TIz:TI≠z
 TOz:TO≠z
 i1z:i1≠z
 i2z:i2≠z
 Fq:i3≠z
 TITO:TI≠TO
 TIi1:TI≠i1
 TIi2:TI≠i2
 IZ:TI≠i3
 TOi1:TO≠i1
 TOi2:TO≠i2
 A5:TO≠i3
 i12:i1≠i2
 Ht:i1≠i3
 IY:i2≠i3
structure L3 (z TO i1 i2 i3 l:Addr):Prop where
 z:l≠z
 o:l≠TO
 i1:l≠i1
 i2:l≠i2
 i3:l≠i3
section
variable{E:Value->Shared->Prop}
theorem cU{a b c x:Value}{Q:Unit->Shared->Prop}(hT:bJ s.heap T a b c)
  (h:∀ h',h'.get? T=some { cls:=.type "tuple", data:=.seq ((#[a,b,c]:Array Value).setIfInBounds k x) }->Qm T s.heap h'->Q () { s with heap:=h' }) :
  wpAny (model prog w) A (updateSeq T (·.setIfInBounds k x)) Q E s:=by
 refine wpAny_updateSeq hT rfl (h _ ?_ (RA ..));rw[OL _ hT rfl];simp[RL]
variable{b1 b2 b3:Bool}{z TI TO i1 i2 i3 l3:Addr}{k3:Nat}{xs zs:Array Value}{x y v a b c:Value}
theorem wD(D:Z3 z TI TO i1 i2 i3)(D1:L3 z TO i1 i2 i3 l1)(D2:L3 z TO i1 i2 i3 l2)(D3:L3 z TO i1 i2 i3 l3)
  (hz:IsZip s.heap z TI TO .none) (Kl:bJ s.heap TI (.ref i1) (.ref i2) (.ref i3)) (Ko:bJ s.heap TO a b c)
  (h1:dG s.heap b1 i1 l1 k1) (h2:dG s.heap b2 i2 l2 k2) (h3:dG s.heap b3 i3 l3 k3) (K2:eN s.heap b1 l1 xs) (K3:eN s.heap b2 l2 ys) (L_:eN s.heap b3 l3 zs) (hx:xs[k1]?=some x) (hy:ys[k2]?=some y) (hv:zs[k3]?=some v)
  (hQ:∀ h',IsZip h' z TI TO (rawInt s.heap.objs.size)->bJ h' TO x y v->dG h' b1 i1 l1 (k1+1)->dG h' b2 i2 l2 (k2+1)->dG h' b3 i3 l3 (k3+1)->bJ h' s.heap.objs.size x y v->h'.objs.size=s.heap.objs.size+1 ->
   (∀ c o,c≠z->c≠TO->c≠i1->c≠i2->c≠i3->s.heap.get? c=some o->h'.get? c=some o)->Q (.ref s.heap.objs.size) { s with heap:=h' }) :
  wpAny (model prog w) A (Builtin.«zip.__next__» ⟨[.ref z],[]⟩) (λfin s'=>∃ v,fin=.done (.ret v)/\Q v s') E s:=by
 show wpAny _ _ (field (.ref z) 2 >>= _) _ _ _;refine Np (NV hz rfl (x:=.bool false) rfl ?_);show wpAny _ _ (field (.ref z) 3 >>= _) _ _ _;refine Np (NV hz rfl (x:=.ref TI) rfl ?_);refine Np (Oc Kl rfl ?_);show wpAny _ _ (NW (.ref z) >>= _) _ _ _;refine Np ?_;unfold NW;refine Np (NV hz rfl (x:=.none) rfl (Nx ?_));simp only[if_true];refine Np (Qg ?_);refine Np (NV hz rfl (x:=.ref TO) rfl ?_);refine Np (N7 hz (by simp) λh₁ hz1 hs1=>?_)
 replace hz1:IsZip h₁ z TI TO .ellipsis:=hz1
 refine Np ?_;simp only[Q7,Rq,Rr,RO];refine Np (Np (O7 ?_));show wpAny _ _ (NN (.ref i1) >>= _) _ _ _;refine Np (cB (h1.at λo e=>hs1.extBut _ _ D.i1z e) (K2.at λo e=>hs1.extBut _ _ D1.z e) hx λh₂ h1₂ hs2=>Nx ?_);have hTO2:bJ h₂ TO a b c:=hs2.extBut _ _ D.TOi1 (hs1.extBut _ _ D.TOz Ko);refine Np (Oc hTO2 rfl ?_);refine Np (cU hTO2 λh₃ hTO3 hs3=>?_)
 replace hTO3:bJ h₃ TO x b c:=hTO3
 refine Np (Qk (Nx ?_));have Ml:∀ q o,q≠z->q≠TO->q≠i1->s.heap.get? q=some o->h₃.get? q=some o:=λq o c1 c2 c3 e=>hs3.extBut _ _ c2 (hs2.extBut _ _ c3 (hs1.extBut _ _ c1 e));refine Np (Np (O7 ?_));show wpAny _ _ (NN (.ref i2) >>= _) _ _ _;refine Np (cB (h2.at λo e=>Ml _ o D.i2z D.TOi2.symm D.i12.symm e) (K3.at λo e=>Ml _ o D2.z D2.o D2.i1 e) hy λh₄ h2₄ hs4=>Nx ?_);have hTO4:bJ h₄ TO x b c:=hs4.extBut _ _ D.TOi2 hTO3;refine Np (Oc hTO4 rfl ?_);refine Np (cU hTO4 λh₅ hTO5 hs5=>?_)
 replace hTO5:bJ h₅ TO x y c:=hTO5
 refine Np (Qk (Nx ?_));have k5:∀ q o,q≠z->q≠TO->q≠i1->q≠i2->s.heap.get? q=some o->h₅.get? q=some o:=λq o c1 c2 c3 c4 e=>hs5.extBut _ _ c2 (hs4.extBut _ _ c4 (Ml q o c1 c2 c3 e));refine Np (Np (O7 ?_));show wpAny _ _ (NN (.ref i3) >>= _) _ _ _;refine Np (cB (h3.at λo e=>k5 _ o D.Fq D.A5.symm D.Ht.symm D.IY.symm e) (L_.at λo e=>k5 _ o D3.z D3.o D3.i1 D3.i2 e) hv λh₆ h3₆ hs6=>Nx ?_);have hTO6:bJ h₆ TO x y c:=hs6.extBut _ _ D.A5 hTO5;refine Np (Oc hTO6 rfl ?_);refine Np (cU hTO6 λh₇ hTO7 hs7=>?_)
 replace hTO7:bJ h₇ TO x y v:=hTO7
 refine Np (Qk (Nx (Nx ?_)));refine Np (Oc hTO7 rfl ?_);refine Np (wpAny_newTuple ?_);have K7:h₇.objs.size=s.heap.objs.size:=by rw[hs7.1,hs6.1,hs5.1,hs4.1,hs3.1,hs2.1,hs1.1]
 have hz₃:IsZip h₃ z TI TO .ellipsis:=hs3.extBut _ _ D.TOz.symm (hs2.extBut _ _ D.i1z.symm hz1);have hz5:IsZip h₅ z TI TO .ellipsis:=hs5.extBut _ _ D.TOz.symm (hs4.extBut _ _ D.i2z.symm hz₃);have hz7:IsZip h₇ z TI TO .ellipsis:=hs7.extBut _ _ D.TOz.symm (hs6.extBut _ _ D.Fq.symm hz5);have k7:∀ q o,q≠z->q≠TO->q≠i1->q≠i2->q≠i3->s.heap.get? q=some o->h₇.get? q=some o:=λq o c1 c2 c3 c4 c5 e=>hs7.extBut _ _ c2 (hs6.extBut _ _ c5 (k5 q o c1 c2 c3 c4 e));have h1₇:dG h₇ b1 i1 l1 (k1+1):=h1₂.at λo e=>hs7.extBut _ _ D.TOi1.symm (hs6.extBut _ _ D.Ht (hs5.extBut _ _ D.TOi1.symm (hs4.extBut _ _ D.i12 (hs3.extBut _ _ D.TOi1.symm e))));have h2₇:dG h₇ b2 i2 l2 (k2+1):=h2₄.at λo e=>hs7.extBut _ _ D.TOi2.symm (hs6.extBut _ _ D.IY (hs5.extBut _ _ D.TOi2.symm e));have h3₇:dG h₇ b3 i3 l3 (k3+1):=h3₆.at λo e=>hs7.extBut _ _ D.A5.symm e;have Mc:z<h₇.objs.size:=Nz hz7;show wpAny _ _ (OH (.ref z) (.ref h₇.objs.size) >>= _) _ _ _;refine Np ?_;unfold OH;have hz₈:IsZip (h₇.push { cls:=.type "tuple", data:=.seq #[x,y,v] }) z TI TO .ellipsis:=Nq _ hz7;refine Np (N7 hz₈ (by simp) λh₉ hz9 hs9=>?_)
 replace hz9:IsZip h₉ z TI TO (rawInt h₇.objs.size):=hz9
 refine N7 hz9 (by simp) λhA hzA hsA=>?_
 replace hzA:IsZip hA z TI TO (rawInt h₇.objs.size):=hzA
 have up:∀ c o,c≠z->h₇.get? c=some o->hA.get? c=some o:=λc o c1 e=>hsA.extBut _ _ c1 (hs9.extBut _ _ c1 (Nq _ e));have hTA:bJ hA h₇.objs.size x y v:=hsA.extBut _ _ (Pd Mc) (hs9.extBut _ _ (Pd Mc) (Ny _ rfl));have Nj:hA.objs.size=h₇.objs.size+1:=by rw[hsA.1,hs9.1,NY]
 rw[K7] at hzA hTA Nj;refine Nx ⟨_,rfl,?_⟩;show Q (.ref h₇.objs.size) _;rw[K7];exact hQ hA hzA (up _ _ D.TOz hTO7) (h1₇.at λo e=>up _ o D.i1z e) (h2₇.at λo e=>up _ o D.i2z e) (h3₇.at λo e=>up _ o D.Fq e) hTA Nj λc o c1 c2 c3 c4 c5 e=>up c o c1 (k7 c o c1 c2 c3 c4 c5 e)
theorem zx{Q:Fin->Shared->Prop}(hh:A.handled=none)(D:Z3 z TI TO i1 i2 i3)(D1:L3 z TO i1 i2 i3 l1)(D2:L3 z TO i1 i2 i3 l2)(D3:L3 z TO i1 i2 i3 l3)
  (hz:IsZip s.heap z TI TO .none) (Kl:bJ s.heap TI (.ref i1) (.ref i2) (.ref i3)) (Ko:bJ s.heap TO a b c)
  (h1:dG s.heap b1 i1 l1 k1) (h2:dG s.heap b2 i2 l2 k2) (h3:dG s.heap b3 i3 l3 k3) (K2:eN s.heap b1 l1 xs) (K3:eN s.heap b2 l2 ys) (L_:eN s.heap b3 l3 zs) (K6:xs[k1]?=none\/ys[k2]?=none\/zs[k3]?=none)
  (hE:∀ h' e,(∀ c o,c≠z->c≠TO->c≠i1->c≠i2->c≠i3->s.heap.get? c=some o->h'.get? c=some o)->(∃ o,h'.get? e=some o/\o.cls=.type "StopIteration")->E (.ref e) { s with heap:=h' }) :
  wpAny (model prog w) A (Builtin.«zip.__next__» ⟨[.ref z],[]⟩) Q E s:=by
 show wpAny _ _ (field (.ref z) 2 >>= _) _ _ _;refine Np (NV hz rfl (x:=.bool false) rfl ?_);show wpAny _ _ (field (.ref z) 3 >>= _) _ _ _;refine Np (NV hz rfl (x:=.ref TI) rfl ?_);refine Np (Oc Kl rfl ?_);show wpAny _ _ (NW (.ref z) >>= _) _ _ _;refine Np ?_;unfold NW;refine Np (NV hz rfl (x:=.none) rfl (Nx ?_));simp only[if_true];refine Np (Qg ?_);refine Np (NV hz rfl (x:=.ref TO) rfl ?_);refine Np (N7 hz (by simp) λh₁ hz1 hs1=>?_)
 replace hz1:IsZip h₁ z TI TO .ellipsis:=hz1
 refine Np ?_;simp only[Q7,Rq,Rr,RO];refine Np (Np (O7 ?_));show wpAny _ _ (NN (.ref i1) >>= _) _ _ _;cases hx:xs[k1]? with
 | none =>
  refine Np (fq hh (h1.at λo e=>hs1.extBut _ _ D.i1z e) (K2.at λo e=>hs1.extBut _ _ D1.z e) hx λh₂ e hs2 he=>?_);obtain⟨oe,KU,LH⟩:=he;have hz2:IsZip h₂ z TI TO .ellipsis:=hs2 _ _ D.i1z.symm hz1;have Mq:e≠z:=λx=>by subst x;rw[hz2] at KU;cases KU;simp at LH
  refine N7 hz2 (by simp) λh₃ _ hs3=>hE h₃ e (λc o c1 _ c3 _ _ x=>hs3.extBut _ _ c1 (hs2 _ _ c3 (hs1.extBut _ _ c1 x))) ⟨oe,hs3.extBut _ _ Mq KU,LH⟩
 | some x =>
  refine Np (cB (h1.at λo e=>hs1.extBut _ _ D.i1z e) (K2.at λo e=>hs1.extBut _ _ D1.z e) hx λh₂ h1₂ hs2=>Nx ?_);have hTO2:bJ h₂ TO a b c:=hs2.extBut _ _ D.TOi1 (hs1.extBut _ _ D.TOz Ko);refine Np (Oc hTO2 rfl ?_);refine Np (cU hTO2 λh₃ hTO3 hs3=>?_)
  replace hTO3:bJ h₃ TO x b c:=hTO3
  refine Np (Qk (Nx ?_));have Ml:∀ q o,q≠z->q≠TO->q≠i1->s.heap.get? q=some o->h₃.get? q=some o:=λq o c1 c2 c3 e=>hs3.extBut _ _ c2 (hs2.extBut _ _ c3 (hs1.extBut _ _ c1 e));have hz₃:IsZip h₃ z TI TO .ellipsis:=hs3.extBut _ _ D.TOz.symm (hs2.extBut _ _ D.i1z.symm hz1);refine Np (Np (O7 ?_));show wpAny _ _ (NN (.ref i2) >>= _) _ _ _;cases hy:ys[k2]? with
  | none =>
   refine Np (fq hh (h2.at λo e=>Ml _ o D.i2z D.TOi2.symm D.i12.symm e) (K3.at λo e=>Ml _ o D2.z D2.o D2.i1 e) hy λh₄ e hs4 he=>?_);obtain⟨oe,KU,LH⟩:=he;have hz4:IsZip h₄ z TI TO .ellipsis:=hs4 _ _ D.i2z.symm hz₃;have Mq:e≠z:=λx=>by subst x;rw[hz4] at KU;cases KU;simp at LH
   refine N7 hz4 (by simp) λh₅ _ hs5=>hE h₅ e (λc o c1 c2 c3 c4 _ x=>hs5.extBut _ _ c1 (hs4 _ _ c4 (Ml c o c1 c2 c3 x))) ⟨oe,hs5.extBut _ _ Mq KU,LH⟩
  | some y =>
   have hv:zs[k3]?=none:=by
    rcases K6 with h | h | h
    .rw[hx] at h;cases h
    .rw[hy] at h;cases h
    .exact h
   refine Np (cB (h2.at λo e=>Ml _ o D.i2z D.TOi2.symm D.i12.symm e) (K3.at λo e=>Ml _ o D2.z D2.o D2.i1 e) hy λh₄ h2₄ hs4=>Nx ?_);have hTO4:bJ h₄ TO x b c:=hs4.extBut _ _ D.TOi2 hTO3;refine Np (Oc hTO4 rfl ?_);refine Np (cU hTO4 λh₅ hTO5 hs5=>?_);refine Np (Qk (Nx ?_));have k5:∀ q o,q≠z->q≠TO->q≠i1->q≠i2->s.heap.get? q=some o->h₅.get? q=some o:=λq o c1 c2 c3 c4 e=>hs5.extBut _ _ c2 (hs4.extBut _ _ c4 (Ml q o c1 c2 c3 e));have hz5:IsZip h₅ z TI TO .ellipsis:=hs5.extBut _ _ D.TOz.symm (hs4.extBut _ _ D.i2z.symm hz₃);refine Np (Np (O7 ?_));show wpAny _ _ (NN (.ref i3) >>= _) _ _ _;refine Np (fq hh (h3.at λo e=>k5 _ o D.Fq D.A5.symm D.Ht.symm D.IY.symm e) (L_.at λo e=>k5 _ o D3.z D3.o D3.i1 D3.i2 e) hv λh₆ e hs6 he=>?_);obtain⟨oe,KU,LH⟩:=he;have hz6:IsZip h₆ z TI TO .ellipsis:=hs6 _ _ D.Fq.symm hz5;have Mq:e≠z:=λx=>by subst x;rw[hz6] at KU;cases KU;simp at LH
   refine N7 hz6 (by simp) λh₇ _ hs7=>hE h₇ e (λc o c1 c2 c3 c4 c5 x=>hs7.extBut _ _ c1 (hs6 _ _ c5 (k5 c o c1 c2 c3 c4 x))) ⟨oe,hs7.extBut _ _ Mq KU,LH⟩
end
section
variable{E:Value->Shared->Prop}
variable{b1 b2 b3:Bool}{z TI TO i1 i2 i3 l3:Addr}{k3:Nat}{xs zs:Array Value}{x y v a b c:Value}
theorem kJ{Q:Option Value->Shared->Prop}(D:Z3 z TI TO i1 i2 i3)(D1:L3 z TO i1 i2 i3 l1)(D2:L3 z TO i1 i2 i3 l2)(D3:L3 z TO i1 i2 i3 l3)
  (hz:IsZip s.heap z TI TO .none) (Kl:bJ s.heap TI (.ref i1) (.ref i2) (.ref i3)) (Ko:bJ s.heap TO a b c)
  (h1:dG s.heap b1 i1 l1 k1) (h2:dG s.heap b2 i2 l2 k2) (h3:dG s.heap b3 i3 l3 k3) (K2:eN s.heap b1 l1 xs) (K3:eN s.heap b2 l2 ys) (L_:eN s.heap b3 l3 zs) (hx:xs[k1]?=some x) (hy:ys[k2]?=some y) (hv:zs[k3]?=some v)
  (hQ:∀ h',IsZip h' z TI TO (rawInt s.heap.objs.size)->bJ h' TO x y v->dG h' b1 i1 l1 (k1+1)->dG h' b2 i2 l2 (k2+1)->dG h' b3 i3 l3 (k3+1)->bJ h' s.heap.objs.size x y v->h'.objs.size=s.heap.objs.size+1 ->
   (∀ c o,c≠z->c≠TO->c≠i1->c≠i2->c≠i3->s.heap.get? c=some o->h'.get? c=some o)->Q (some (.ref s.heap.objs.size)) { s with heap:=h' }) :
  wpAny (model prog w) A (pyNext (.ref z)) Q E s:=by
 have hT:s.TypeIs (.ref z) "zip" := ⟨_,hz,rfl⟩
 unfold pyNext;exact Np (Qc (Of (name:=NF "__next__") hT F.slot_zip_next
  (OS F.slot_zip_next hT F.entry_zip_next
   (wD D D1 D2 D3 hz Kl Ko h1 h2 h3 K2 K3 L_ hx hy hv λh' a1 a2 a3 a4 a5 a6 a7 a8=>Nx (hQ h' a1 a2 a3 a4 a5 a6 a7 a8)) (F.args_zip_next_1 _))))
theorem lb{Q:Option Value->Shared->Prop}(hh:A.handled=none)(D:Z3 z TI TO i1 i2 i3)(D1:L3 z TO i1 i2 i3 l1)(D2:L3 z TO i1 i2 i3 l2)(D3:L3 z TO i1 i2 i3 l3)
  (hz:IsZip s.heap z TI TO .none) (Kl:bJ s.heap TI (.ref i1) (.ref i2) (.ref i3)) (Ko:bJ s.heap TO a b c)
  (h1:dG s.heap b1 i1 l1 k1) (h2:dG s.heap b2 i2 l2 k2) (h3:dG s.heap b3 i3 l3 k3) (K2:eN s.heap b1 l1 xs) (K3:eN s.heap b2 l2 ys) (L_:eN s.heap b3 l3 zs) (K6:xs[k1]?=none\/ys[k2]?=none\/zs[k3]?=none)
  (hQ:∀ h',(∀ c o,c≠z->c≠TO->c≠i1->c≠i2->c≠i3->s.heap.get? c=some o->h'.get? c=some o)->Q none { s with heap:=h' }):wpAny (model prog w) A (pyNext (.ref z)) Q E s:=by
 have hT:s.TypeIs (.ref z) "zip" := ⟨_,hz,rfl⟩
 unfold pyNext;refine Np (Qc (Of (name:=NF "__next__") hT F.slot_zip_next
  (OS F.slot_zip_next hT F.entry_zip_next (zx hh D D1 D2 D3 hz Kl Ko h1 h2 h3 K2 K3 L_ K6 λh' e hk he=>?_) (F.args_zip_next_1 _))))
 obtain⟨o,ho,hc⟩:=he;refine Np (Sd (T := "StopIteration") (b:=true) ⟨o,ho,hc⟩ SO ?_);exact Nx (hQ _ hk)
end
abbrev GX(h:Heap)(b1 b2 b3:Bool)(l1 l2 l3:Addr):Heap:=(Cp h b1 b2 l1 l2).push (Bz b3 l3)
abbrev GZ(h:Heap)(b1 b2 b3:Bool)(l1 l2 l3:Addr):Heap:=(GX h b1 b2 b3 l1 l2 l3).push { cls:=.type "tuple", data:=.seq #[.ref h.objs.size,.ref (Ek h b1 l1).objs.size,.ref (Cp h b1 b2 l1 l2).objs.size] }
abbrev GU(h:Heap)(b1 b2 b3:Bool)(l1 l2 l3:Addr):Heap:=(GZ h b1 b2 b3 l1 l2 l3).push { cls:=.type "tuple", data:=.seq #[.none,.none,.none] }
abbrev C0(h:Heap)(b1 b2 b3:Bool)(l1 l2 l3:Addr):Heap:=(GU h b1 b2 b3 l1 l2 l3).push { cls:=.type "zip", data:=.fields #[.none,.bool false,.bool false,.ref (GX h b1 b2 b3 l1 l2 l3).objs.size,.ref (GZ h b1 b2 b3 l1 l2 l3).objs.size] }
theorem mS(b1 b2 b3:Bool)(l1 l2 l3:Addr)(xs ys zs:Array Value) :
  Meets (Builtin.«zip.__new__» ⟨[.type "zip", .ref l1,.ref l2,.ref l3],[]⟩) (λ_ R s=>eN s.heap b1 l1 xs/\eN s.heap b2 l2 ys/\eN s.heap b3 l3 zs ∧
   R (.ok (.ret (.ref (GU s.heap b1 b2 b3 l1 l2 l3).objs.size))) { s with heap:=C0 s.heap b1 b2 b3 l1 l2 l3 }) :=
 .of_wp λprog w A R s h=>by
  obtain⟨hp,g,d,tk,os⟩:=s;obtain⟨K2,K3,L_,h⟩:=h;have Nd:=sub_zip;have hL1:eN (Rj ⟨hp,g,d,tk,os⟩) b1 l1 xs:=K2;have hL2:eN (Rj ⟨hp.push (Bz b1 l1),g,d,tk,os⟩) b2 l2 ys:=eN.push K3 _;have hL3:eN (Rj ⟨(hp.push (Bz b1 l1)).push (Bz b2 l2),g,d,tk,os⟩) b3 l3 zs:=eN.push (eN.push L_ _) _
  wp_walk using eI hL1,eI hL2,eI hL3
  exact⟨_,rfl,h⟩
section
variable{E:Value->Shared->Prop}
theorem wq{b1 b2 b3:Bool}{l3:Addr}{xs zs:Array Value}(K2:eN s.heap b1 l1 xs)(K3:eN s.heap b2 l2 ys)(L_:eN s.heap b3 l3 zs)
  (h:∀ h',IsZip h' (s.heap.objs.size+5) (s.heap.objs.size+3) (s.heap.objs.size+4) .none->bJ h' (s.heap.objs.size+3) (.ref s.heap.objs.size) (.ref (s.heap.objs.size+1)) (.ref (s.heap.objs.size+2)) ->
   bJ h' (s.heap.objs.size+4) .none .none .none->dG h' b1 s.heap.objs.size l1 0->dG h' b2 (s.heap.objs.size+1) l2 0->dG h' b3 (s.heap.objs.size+2) l3 0 ->
   (∀ c o,s.heap.get? c=some o->h'.get? c=some o)->Q (.ref (s.heap.objs.size+5)) { s with heap:=h' }) :
  wpAny (model prog w) A (call (.type "zip") [.ref l1,.ref l2,.ref l3]) Q E s:=by
 refine T8 F.called_zip (by decide) (mZ _ _ _) (n6 _ _ _) (λobj=>F.initArgs_range_3 obj _ _ _) F.entry_zip_new
  (mS b1 b2 b3 l1 l2 l3 xs ys zs) ⟨K2,K3,L_,?_⟩
 have z1:(Ek s.heap b1 l1).objs.size=s.heap.objs.size+1:=NY ..;have z2:(Cp s.heap b1 b2 l1 l2).objs.size=s.heap.objs.size+2:=by rw[NY,z1]
 have z3:(GX s.heap b1 b2 b3 l1 l2 l3).objs.size=s.heap.objs.size+3:=by rw[NY,z2]
 have z4:(GZ s.heap b1 b2 b3 l1 l2 l3).objs.size=s.heap.objs.size+4:=by rw[NY,z3]
 have z5:(GU s.heap b1 b2 b3 l1 l2 l3).objs.size=s.heap.objs.size+5:=by rw[NY,z4]
 have g6:(C0 s.heap b1 b2 b3 l1 l2 l3).get? (GU s.heap b1 b2 b3 l1 l2 l3).objs.size=some _:=Ny _ rfl;have g5:(C0 s.heap b1 b2 b3 l1 l2 l3).get? (GZ s.heap b1 b2 b3 l1 l2 l3).objs.size=some _:=Nq _ (Ny _ rfl);have g4:(C0 s.heap b1 b2 b3 l1 l2 l3).get? (GX s.heap b1 b2 b3 l1 l2 l3).objs.size=some _:=Nq _ (Nq _ (Ny _ rfl));have g3:(C0 s.heap b1 b2 b3 l1 l2 l3).get? (Cp s.heap b1 b2 l1 l2).objs.size=some _:=Nq _ (Nq _ (Nq _ (Ny _ rfl)));have g2:(C0 s.heap b1 b2 b3 l1 l2 l3).get? (Ek s.heap b1 l1).objs.size=some _:=Nq _ (Nq _ (Nq _ (Nq _ (Ny _ rfl))));have g1:(C0 s.heap b1 b2 b3 l1 l2 l3).get? s.heap.objs.size=some _:=Nq _ (Nq _ (Nq _ (Nq _ (Nq _ (Ny _ rfl)))));show _/\_;rw[z3,z4,z5] at g6;rw[z1,z2,z3] at g4;rw[z4] at g5;rw[z2] at g3;rw[z1] at g2;rw[z5];exact⟨⟨_,g6,rfl⟩,h _ g6 g4 g5 (dG.new _ b1 _ _ g1) (dG.new _ b2 _ _ g2) (dG.new _ b3 _ _ g3) λc o x =>
  Nq _ (Nq _ (Nq _ (Nq _ (Nq _ (Nq _ x)))))⟩
end
def Hi (K : Nr) (b1 b2 b3 : Bool) (a1 a2 a3 : Addr) : It :=
  ⟨λi H => ∃ xs ys zs x y v, i6 K H b1 a1 xs /\ i6 K H b2 a2 ys /\ i6 K H b3 a3 zs /\ xs[i]? = some x /\ ys[i]? = some y /\ zs[i]? = some v,
   λi H r H' => ∃ p x y v, H p = none /\ r = .ref p /\ H' = upd H p (.tup [x, y, v]) /\ (∀ xs, i6 K H b1 a1 xs -> xs[i]? = some x) /\ (∀ ys, i6 K H b2 a2 ys -> ys[i]? = some y) /\ (∀ zs, i6 K H b3 a3 zs -> zs[i]? = some v),
   λi H => ∃ xs ys zs, i6 K H b1 a1 xs /\ i6 K H b2 a2 ys /\ i6 K H b3 a3 zs /\ (xs.length <= i \/ ys.length <= i \/ zs.length <= i)⟩
theorem oG{z TI TO i1 i2 i3:Addr}{xs:List V}(I:Inv X J0 σ H s)(h:i6 X.K H b a xs)(hf:∀ b∈[z,TO,i1,i2,i3,TI],jZ X J0 H b):L3 z TO i1 i2 i3 a :=
 ⟨cm I h (hf z (by simp)),cm I h (hf TO (by simp)),cm I h (hf i1 (by simp)),cm I h (hf i2 (by simp)),cm I h (hf i3 (by simp))⟩
theorem wa{K:Nr}{tp:Pos}(b1 b2 b3:Bool)(a1 a2 a3 z TI TO i1 i2 i3:Addr)(D:Z3 z TI TO i1 i2 i3) :
  Turn P w K (.Tuple elts x1 tp) (Hi K b1 b2 b3 a1 a2 a3) [z,TO,i1,i2,i3,TI] z (λi h=>IsZip h z TI TO .none/\bJ h TI (.ref i1) (.ref i2) (.ref i3)/\(∃ a b c,bJ h TO a b c)/\dG h b1 i1 a1 i/\dG h b2 i2 a2 i/\dG h b3 i3 a3 i) where
 mem:=by simp
 obj:=λi h st b hb=>by
  obtain⟨hz,Kl,⟨a,c,d,Ko⟩,h1,h2,h3⟩:=st;simp only[NJ,Ov,or_false] at hb;rcases hb with q | q | q | q | q | q <;> subst q
  .exact⟨_,hz,λv z=>by cases z⟩
  .exact⟨_,Ko,λv z=>by cases z⟩
  .obtain⟨o,vs,e,d⟩:=h1.obj;exact⟨o,e,λv z=>by rw[d] at z;cases z⟩
  .obtain⟨o,vs,e,d⟩:=h2.obj;exact⟨o,e,λv z=>by rw[d] at z;cases z⟩
  .obtain⟨o,vs,e,d⟩:=h3.obj;exact⟨o,e,λv z=>by rw[d] at z;cases z⟩
  .exact⟨_,Kl,λv z=>by cases z⟩
 keep:=λi h h' st k=>by
  obtain⟨hz,Kl,⟨a,c,d,Ko⟩,h1,h2,h3⟩:=st;exact⟨k z (by simp) _ hz,k TI (by simp) _ Kl,⟨a,c,d,k TO (by simp) _ Ko⟩,h1.at λo e=>k i1 (by simp) o e,h2.at λo e=>k i2 (by simp) o e,h3.at λo e=>k i3 (by simp) o e⟩
 item:=by
  intro X hP hw hK hc i J0 s σ H E I hf st hg;subst hP hw hK;obtain⟨xs,ys,zs,x,y,v,Km,Kn,Ly,hx,hy,hv⟩:=hg;obtain⟨Md,Mt,p1,Nh⟩:=I.row Km;obtain⟨Le,Mu,p2,Ni⟩:=I.row Kn;obtain⟨Nk,rv3,p3,hz3'⟩:=I.row Ly;obtain⟨u1,hu1,ru1⟩:=Mt.get hx;obtain⟨u2,hu2,ru2⟩:=Mu.get hy;obtain⟨u3,hu3,ru3⟩:=rv3.get hv;obtain⟨hz,Kl,⟨a,c,d,Ko⟩,h1,h2,h3⟩:=st;obtain⟨oi1,vs1,MU,di1⟩:=h1.obj;obtain⟨oi2,vs2,MV,di2⟩:=h2.obj;obtain⟨oi3,vs3,ei3,di3⟩:=h3.obj;refine kJ D (oG I Km hf) (oG I Kn hf) (oG I Ly hf) hz Kl Ko h1 h2 h3 p1 p2 p3 (x:=u1) (y:=u2) (v:=u3) (by simpa using hu1) (by simpa using hu2) (by simpa using hu3) λh' g1 g2 g3 g4 g4' g5 g6 g7=>⟨_,rfl,?_⟩
  refine RW (s:={ s with heap:=h' }) g1 λhN hz3 LK=>?_;have K4:H s.heap.objs.size=none:=I.bw.fresh (NC _);have lt:∀ {c:Addr} {o:Obj},s.heap.get? c=some o->c≠s.heap.objs.size:=λe=>NP (Nz e);have Mf:∀ b o,b ∉ [z,TO,i1,i2,i3,TI]->s.heap.get? b=some o->hN.get? b=some o:=λb o hb q=>by
   simp only[NJ,Ov,or_false,not_or] at hb;exact(LK.2 b hb.1).trans (g7 b o hb.1 hb.2.1 hb.2.2.1 hb.2.2.2.1 hb.2.2.2.2.1 q)
  have hT3:hN.get? s.heap.objs.size=some { cls:=.type "tuple", data:=.seq #[u1,u2,u3] }:=(LK.2 _ (lt hz).symm).trans g5;have I3:Inv X J0 σ (upd H s.heap.objs.size (.tup [x,y,v])) { s with heap:=hN,toks:=s.toks } :=
   I.iX (ch:=[z,TO,i1,i2,i3,TI]) Mf hf (NC _) (λb hb=>by
    simp only[NJ,Ov,or_false] at hb;rcases hb with q | q | q | q | q | q <;> subst q
    .exact⟨_,hz⟩
    .exact⟨_,Ko⟩
    .exact⟨_,MU⟩
    .exact⟨_,MV⟩
    .exact⟨_,ei3⟩
    .exact⟨_,Kl⟩)
    ⟨by show 3<=sizeLine;decide,[u1,u2,u3],.cons ru1 (.cons ru2 (.cons ru3 .nil)),⟨_,hT3,rfl,_,rfl⟩⟩
  refine⟨.ref s.heap.objs.size,_,I3,rfl,⟨_,x,y,v,K4,rfl,rfl,λzs' Ms=>by rw[I.jV Ms Km];exact hx,λzs' Ms=>by rw[I.jV Ms Kn];exact hy,λzs' Ms=>by rw[I.jV Ms Ly];exact hv⟩,
   ⟨hz3,(LK.2 TI D.TIz).trans (g7 TI _ D.TIz D.TITO D.TIi1 D.TIi2 D.IZ Kl),⟨_,_,_,(LK.2 TO D.TOz).trans g2⟩,g3.at λo e=>(LK.2 i1 D.i1z).trans e,g4.at λo e=>(LK.2 i2 D.i2z).trans e,g4'.at λo e=>(LK.2 i3 D.Fq).trans e⟩,λb hb=>?_⟩
  have nb:b≠s.heap.objs.size:=by
   simp only[NJ,Ov,or_false] at hb;rcases hb with q | q | q | q | q | q <;> subst q
   .exact lt hz
   .exact lt Ko
   .exact lt MU
   .exact lt MV
   .exact lt ei3
   .exact lt Kl
  rw[av nb];exact(hf b hb).1
 done:=by
  intro X hP hw hK hc i J0 s σ H E I hf st hg;subst hP hw hK;obtain⟨xs,ys,zs,Km,Kn,Ly,K6⟩:=hg;obtain⟨Md,Mt,p1,Nh⟩:=I.row Km;obtain⟨Le,Mu,p2,Ni⟩:=I.row Kn;obtain⟨Nk,rv3,p3,hz3'⟩:=I.row Ly;obtain⟨hz,Kl,⟨a,c,d,Ko⟩,h1,h2,h3⟩:=st;have l1:=Mt.length;have l2:=Mu.length;have l3:=rv3.length;refine lb (I.ok.hd hc) D (oG I Km hf) (oG I Kn hf) (oG I Ly hf) hz Kl Ko h1 h2 h3 p1 p2 p3 ?_ λh' k=>⟨rfl,?_⟩
  .rcases K6 with q | q | q
   .exact .inl (by simp;lia)
   .exact .inr (.inl (by simp;lia))
   .exact .inr (.inr (by simp;lia))
  .exact I.uP (t':=s.toks) (ch:=[z,TO,i1,i2,i3,TI]) (λb u hb e=>by
    simp only[NJ,Ov,or_false,not_or] at hb;exact k b u hb.1 hb.2.1 hb.2.2.1 hb.2.2.2.1 hb.2.2.2.2.1 e) hf
 self:=λ_ _ _ _ _ st h=>by
  obtain⟨hz,_⟩:=st;exact Q8 hz h
theorem Bq(n:Nat):Z3 (n+5) (n+3) (n+4) n (n+1) (n+2):=by
 refine⟨?_,?_,?_,?_,?_,?_,?_,?_,?_,?_,?_,?_,?_,?_,?_⟩ <;> (show @Ne Nat _ _;lia)
def Cc(K:Nr)(tl:TA):TI:=fun σ H R=>tl σ H λvs H1=>∃ b1 b2 b3 a1 a2 a3,vs=[.ref a1,.ref a2,.ref a3]/\(∃ xs,i6 K H1 b1 a1 xs)/\(∃ ys,i6 K H1 b2 a2 ys)/\(∃ zs,i6 K H1 b3 a3 zs)/\R (Hi K b1 b2 b3 a1 a2 a3) H1
theorem uE{tp:Pos}{l1 l2 l3:Expr}{p:Pos}(hg:Gl X "zip")(hm:X.mg "zip" = none)(hl:PA X [l1,l2,l3] tl)(hs:autoParam (starEach [l1,l2,l3] X.env=[(false,eval l1 X.env),(false,eval l2 X.env),(false,eval l3 X.env)]) aR._auto_1)(Li:autoParam (starEach [l2,l3] X.env=[(false,eval l2 X.env),(false,eval l3 X.env)]) aR._auto_1) :
  PI X (.Tuple elts x1 tp) (.Call (.Name "zip" p) [l1,l2,l3] [] pos) (Cc X.K tl):=by
 intro J0 s σ H R I h;refine Call_ (jf I hg hm SG (OV (cA (hl pos J0 s σ H _ I h) λus s1 ⟨vs,H1,I1,r1,q1⟩=>?_) (by rw[hs,Li]) (by rw[Li];rfl)));obtain⟨b1,b2,b3,a1,a2,a3,e,⟨xs,Km⟩,⟨ys,Kn⟩,⟨zs,Ly⟩,q⟩:=q1;subst e;cases r1 with
 | cons r rr =>
  cases rr with
  | cons r' rr =>
   cases rr with
   | cons r'' rr =>
    cases rr;cases (show _=NB a1 from r);cases (show _=NB a2 from r');cases (show _=NB a3 from r'');obtain⟨Md,Mt,p1,Nh⟩:=I1.row Km;obtain⟨Le,Mu,p2,Ni⟩:=I1.row Kn;obtain⟨Nk,rv3,p3,hz3⟩:=I1.row Ly;refine wq p1 p2 p3 λh' g1 g2 g3 g4 g5 g6 g7=>?_;have I2:Inv X J0 σ H1 { s1 with heap:=h' }:=I1.kept (t':=s1.toks) g7;refine Q8 (s:={ s1 with heap:=h' }) g1 ?_;refine⟨s1.heap.objs.size+5,[s1.heap.objs.size+5,s1.heap.objs.size+4,s1.heap.objs.size,s1.heap.objs.size+1,s1.heap.objs.size+2,s1.heap.objs.size+3],_,_,H1,rfl,I2,
     wa b1 b2 b3 a1 a2 a3 _ _ _ _ _ _ (Bq s1.heap.objs.size),⟨g1,g2,⟨_,_,_,g3⟩,g4,g5,g6⟩,λb hb=>?_,q⟩
    have hle:s1.heap.objs.size<=b:=by
     simp only[NJ,Ov,or_false] at hb;rcases hb with q | q | q | q | q | q
     .rw[q];exact OT _ 5
     .rw[q];exact OT _ 4
     .rw[q];exact NC _
     .rw[q];exact OT _ 1
     .rw[q];exact OT _ 2
     .rw[q];exact OT _ 3
    exact I1.rf hle (I1.bw.fresh hle)
variable{oe:Obj}{outer:List Env}
variable{to:Option Addr}
section
variable{M:Model}{E:Value->Shared->Prop}
theorem oW{env:Env}{L e:Addr}{vs:Array Value}{head:Value}{Mo:Bool}{Q:Unit->Shared->Prop}
  (L8:A.frames=some (env::outer)) (hl:s.heap.FunFrames base (env::outer)) (hf:env.frame=some L)
  (he:s.heap.get? e=some oe) (hd:oe.data=.fields vs) (K7:1<vs.size)
  (h:∀ h' T oT ts,h'.get? e=some (Pg (·.setIfInBounds 1 (.ref T)) oe)->s.heap.objs.size<=T->T≠e->h'.get? T=some oT->oT.data=.fields ts->ts[3]?=some (rawInt L) ->
   (∀ b o,b≠e->b ∉ sE (env::outer)->s.heap.get? b=some o->h'.get? b=some o)->(∀ b o,b≠e->s.heap.get? b=some o->∃ sl,h'.get? b=some { o with slots:=sl })->Q () { s with heap:=h' }) :
  wpAny M A (do let a <- frameOf env;let pl <- entryPlaceOf L Mo;let b <- S5 head a .none (rawInt L) .none pl;setField (.ref e) 1 b) Q E s:=by
 have hene:e ∉ (env::outer).filterMap (·.frame):=λhm=>by
  obtain⟨_,o,ho,M9⟩:=hl.mem hm;rw[he] at ho;injection ho with ho;subst ho;exact M9 vs hd
 refine Np (wpAny_frameOf_fun L8 hl hf λh₁ hs1=>?_);refine Np (wpAny_entryPlaceOf λpl Ka=>?_);unfold S5 newFields;refine Np (OI ?_ (Ka.sizeOk5 _ _ _ _ _));have he1:h₁.get? e=some oe:=(hs1.2.1 e hene).trans he;have he₂:=Nq (h:=h₁) { cls:=.type "traceback", dict:=none,data:=.fields ([head,.ref L,.none,rawInt L,.none]++(if pl.isEmpty then Nv 6 Ob else pl)).toArray } he1;have hTe:h₁.objs.size≠e:=Pd (Nz he1);have hd3:=Pp hd (·.setIfInBounds 1 (NB h₁.objs.size));have he3:=OL (Pg (·.setIfInBounds 1 (NB h₁.objs.size))) he₂ (Qe hd3);have hT₃:=(OB (h₁.push { cls:=.type "traceback", dict:=none,data:=.fields ([head,.ref L,.none,rawInt L,.none]++(if pl.isEmpty then Nv 6 Ob else pl)).toArray })
  (Pg (·.setIfInBounds 1 (NB h₁.objs.size))) (O5 hTe)).trans (Ny h₁ rfl)
 have keep:∀ b o,b≠e->h₁.get? b=some o ->
   ((h₁.push { cls:=.type "traceback", dict:=none,data:=.fields ([head,.ref L,.none,rawInt L,.none]++(if pl.isEmpty then Nv 6 Ob else pl)).toArray }).update e (Pg (·.setIfInBounds 1 (NB h₁.objs.size)))).get? b=some o:=λb o LO hb=>by
  rw[OB _ _ (O5 LO)];exact Nq _ hb
 refine QX he₂ hd K7 (h _ h₁.objs.size _ _ he3 ?_ hTe hT₃ rfl (by first | (simp;done) | (rcases Ka with rfl | ⟨_,_,_,_,_,_,_,rfl⟩ <;> simp)) ?_ ?_)
 .exact TQ hs1.1.symm
 .intro b o LO hbf hb;exact keep b o LO ((hs1.2.1 b hbf).trans hb)
 .intro b o LO hb;obtain⟨sl,hs⟩:=hs1.2.2 b o hb;exact⟨sl,keep b _ LO hs⟩
def Lies(h:Heap)(e:Addr)(vs:Array Value)(to:Option Addr):Prop:=match to with
 | none=>vs[1]?=some .none
 | some T=>vs[1]?=some (.ref T)/\T≠e/\∃ oT ts,h.get? T=some oT/\oT.data=.fields ts/\ts[3]?=some .none
theorem vK{env:Env}{L e:Addr}{vs:Array Value}{Q:Unit->Shared->Prop}
  (L8:A.frames=some (env::outer)) (hl:s.heap.FunFrames base (env::outer)) (hf:env.frame=some L)
  (he:s.heap.get? e=some oe) (hd:oe.data=.fields vs) (hto:Lies s.heap e vs to)
  (h:∀ h' T oT ts,h'.get? e=some (Pg (·.setIfInBounds 1 (.ref T)) oe)->s.heap.objs.size<=T->T≠e->h'.get? T=some oT->oT.data=.fields ts->ts[3]?=some (rawInt L) ->
   (∀ b o,b≠e->(∀ T,to=some T->b≠T)->b ∉ sE (env::outer)->s.heap.get? b=some o->h'.get? b=some o) ->
   (∀ b o,b≠e->(∀ T,to=some T->b≠T)->s.heap.get? b=some o->∃ sl,h'.get? b=some { o with slots:=sl })->(∀ b o,s.heap.get? b=some o->∃ o',h'.get? b=some o')->Q () { s with heap:=h' }) :
  wpAny M A (noteFrame (.ref e) env) Q E s:=by
 unfold noteFrame;simp only[hf];cases to with
 | none =>
  have h1:vs[1]?=some .none:=hto;refine Np (NV he hd h1 ?_);rw[if_neg (by decide)];refine oW L8 hl hf he hd (OG.mp h1).1 λh' T oT ts a1 a2 a3 a4 a5 a6 a7 a8=>?_;refine h h' T oT ts a1 a2 a3 a4 a5 a6 (λb o n1 _ n2 q=>a7 b o n1 n2 q) (λb o n1 _ q=>a8 b o n1 q) λb o q=>?_
  by_cases z:b=e
  .subst z;exact⟨_,a1⟩
  .obtain⟨sl,r⟩:=a8 b o z q;exact⟨_,r⟩
 | some T0 =>
  obtain⟨h1,hTe,oT,ts,hT,hdT,h3⟩:=hto;refine Np (NV he hd h1 ?_);rw[if_pos (show (NB T0 != Ob)=true from by simp)];refine Np (NV hT hdT h3 ?_);rw[if_neg (show ¬ ((Ob==rawInt L)=true) from by simp[rawInt])];refine Np (QX hT hdT (OG.mp h3).1 ?_);have other:∀ b,b≠T0->(s.heap.update T0 (Pg (·.setIfInBounds 3 Ob))).get? b=s.heap.get? b:=λb hb=>OB _ _ (O5 hb);have Mi:∀ b o,s.heap.get? b=some o->(∀ vs,o.data≠.fields vs)->b≠T0:=λb o hb M9 q=>by
   rw[q,hT] at hb;injection hb with hb;subst hb;exact M9 ts hdT
  have Mn:=OL (Pg (·.setIfInBounds 3 Ob)) hT (Qe (Pp hdT _));refine oW L8 (hl.of_keeps λb o hb M9=>⟨o,(other b (Mi b o hb M9)).trans hb,rfl⟩) hf ((other e (O5 hTe)).trans he) hd (OG.mp h1).1 λh' T oT' ts' a1 a2 a3 a4 a5 a6 a7 a8=>?_;refine h h' T oT' ts' a1 (by simpa [Heap.update] using a2) a3 a4 a5 a6 (λb o n1 n2 n3 q=>a7 b o n1 n3 ((other b (n2 T0 rfl)).trans q)) (λb o n1 n2 q=>a8 b o n1 ((other b (n2 T0 rfl)).trans q)) λb o q=>?_
  by_cases z:b=e
  .subst z;exact⟨_,a1⟩
  .by_cases z2:b=T0
   .subst z2;obtain⟨sl,r⟩:=a8 b _ z Mn;exact⟨_,r⟩
   .obtain⟨sl,r⟩:=a8 b o z ((other b z2).trans q);exact⟨_,r⟩
end
def i8(C:Addr)(dd:Option Addr)(e:Addr):HO:=.ext λh=>∃ t,h.get? e=some ⟨.ref C,dd,.fields #[.ref t,.none,.none,.none,.bool false,.none],#[]⟩
def F8(C:Addr)(dd:Option Addr)(e T:Addr):HO:=.ext λh=>∃ vs,h.get? e=some ⟨.ref C,dd,.fields vs,#[]⟩/\vs[1]?=some (.ref T)
def Jz(fl:Value)(T:Addr):HO:=.ext λh=>∃ oT ts,h.get? T=some oT/\oT.data=.fields ts/\ts[3]?=some fl
def kB(Hc:Hp)(e T C:Addr)(dd:Option Addr)(fl:Value):Hp:=upd (upd Hc T (Jz fl T)) e (F8 C dd e T)
variable{fl:Value}{Hc:Hp}
theorem lO{e:Addr}:kB Hc e T C dd fl e=some (F8 C dd e T):=az
theorem mw{e:Addr}(n:T≠e):kB Hc e T C dd fl T=some (Jz fl T):=by unfold kB;rw[av n,az]
theorem gU{e b:Addr}(n:b≠e)(n2:b≠T):kB Hc e T C dd fl b=Hc b:=by unfold kB;rw[av n,av n2]
theorem Inv.note{e:Addr}{vs:Array Value}{φ:Heap->Prop}{Q:Unit->Shared->Prop}{E:Value->Shared->Prop}(I:Inv X J0 σ H s)(Kx:X.stack=X.env::X.outer)(hf:X.env.frame=some X.env.locals)
  (he:H e=some (.ext φ)) (hx:s.heap.get? e=some ⟨.ref C,dd,.fields vs,#[]⟩) (lies:Lies s.heap e vs to) (hT:∀ T,to=some T->(∃ ψ,H T=some (.ext ψ))/\Hc T=none) (hc:∀ b,b≠e->(∀ T,to=some T->b≠T)->Hc b=H b)
  (h:∀ h' T,Hc T=none->T≠e->Inv X J0 σ (kB Hc e T C dd (rawInt X.env.locals)) { s with heap:=h' }->Q () { s with heap:=h' }) :
  wpAny (model X.prog X.w) X.A (noteFrame (.ref e) X.env) Q E s:=by
 have hl:=I.stack;have L8:=I.ok.frames;have sf:=I.pk;rw[Kx] at hl L8 sf;refine vK (base:=X.base) L8 hl hf hx rfl lies λh' T oT ts a1 a2 a3 a4 a5 a6 a7 a8 a9=>?_;have hTn:H T=none:=I.bw.fresh a2;have nT:∀ b u,H b=some u->b≠T:=λb u q z=>by rw[z,hTn] at q;cases q
 have LZ:∀ b u,H b=some u->(∀ ψ,u≠.ext ψ)->b≠e/\∀ T0,to=some T0->b≠T0:=by
  intro b u q hu;refine⟨λz=>?_,λT0 z w=>?_⟩
  .rw[z,he] at q;exact hu _ (NQ q).symm
  .obtain⟨⟨ψ,q2⟩,_⟩:=hT T0 z;rw[w,q2] at q;exact hu _ (NQ q).symm
 have old:∀ b u,H b=some u->(∀ ψ,u≠.ext ψ)->kB Hc e T C dd (rawInt X.env.locals) b=some u:=λb u q hu=>by
  obtain⟨n1,n2⟩:=LZ b u q hu;rw[gU n1 (nT b u q),hc b n1 n2];exact q
 have hcT:Hc T=none:=by
  by_cases z:∃ T0,to=some T0/\T=T0
  .obtain⟨T0,z1,z2⟩:=z;rw[z2];exact(hT T0 z1).2
  .rw[hc T a3 λT0 z1 z2=>z ⟨T0,z1,z2⟩];exact hTn
 have un:∀ b o,s.heap.get? b=some o->H b=none->b≠e/\(∀ T0,to=some T0->b≠T0)/\b≠T:=by
  intro b o q n;refine⟨λz=>?_,λT0 z w=>?_,NP (NG (Nz q) a2)⟩
  .rw[z,he] at n;cases n
  .obtain⟨⟨ψ,q2⟩,_⟩:=hT T0 z;rw[w,q2] at n;cases n
 refine h h' T hcT a3 ?_;have U:Un (sE X.stack) [] H (kB Hc e T C dd (rawInt X.env.locals)) s.heap h':=by
  rw[Kx];refine⟨λb o q n nf _=>?_,λb o q n _ _=>?_,λb o q n _=>?_,λb o q _=>a9 b o q,λb xs q=>old b _ q (λ_ z=>nomatch z),λb ob u q=>old b _ q (λ_ z=>nomatch z),λb ps q=>⟨#[],?_⟩⟩
  .obtain⟨n1,n2,_⟩:=un b o q n;exact a7 b o n1 n2 nf q
  .obtain⟨n1,n2,_⟩:=un b o q n;exact a8 b o n1 n2 q
  .obtain⟨n1,n2,n3⟩:=un b o q n;rw[gU n1 n3,hc b n1 n2];exact n
  .rw[old b _ q (λ_ z=>nomatch z)];simp
 have ok:j9 X.prog X.w (kB Hc e T C dd (rawInt X.env.locals)) h':=λb u q=>by
  by_cases z:b=e
  .subst z;rw[lO] at q;cases q;refine⟨⟨_,a1,?_⟩,⟨_,a1⟩,λh1 h2 ⟨ws,q1,q2⟩ k=>⟨ws,k _ q1,q2⟩⟩;have K7:1<vs.size:=by
    cases to with
    | none=>exact(OG.mp (show vs[1]?=some .none from lies)).1
    | some T0=>exact(OG.mp lies.1).1
   simp[K7]
  .by_cases z2:b=T
   .subst z2;rw[mw a3] at q;cases q;exact⟨⟨oT,ts,a4,a5,a6⟩,⟨_,a4⟩,λh1 h2 ⟨o1,t1,q1,q2,q3⟩ k=>⟨o1,t1,k _ q1,q2,q3⟩⟩
   .rw[gU z z2] at q;have z3:∀ T0,to=some T0->b≠T0:=λT0 w w2=>by rw[w2,(hT T0 w).2] at q;cases q
    rw[hc b z z3] at q;have nf:∀ c u',H c=some u'->c ∉ sE (X.env::X.outer):=λc u' q' hm=>by have:=sf c hm;rw[q'] at this;cases this
    refine(I.bw b u q).jK (λc v Mp q'=>?_) (λc q'=>old c _ q' (λ_ z=>nomatch z)) λc xs q'=>old c _ q' (λ_ z=>nomatch z);rcases Mp with rfl | Mp
    .exact a7 c v z z3 (nf c u q) q'
    .obtain⟨n1,n2⟩:=LZ c _ Mp (λ_ z=>nomatch z);exact a7 c v n1 n2 (nf c _ Mp) q'
 exact I.call (ch:=[]) U ok I.bare (λb z=>absurd z (by simp))
theorem Inv.vj{e:Addr}(I:Inv X J0 σ (kB Hc e T C dd fl) s)(n:T≠e):∃ vs oT ts,s.heap.get? e=some ⟨.ref C,dd,.fields vs,#[]⟩/\vs[1]?=some (.ref T)/\s.heap.get? T=some oT/\oT.data=.fields ts/\ts[3]?=some fl:=by
 obtain⟨vs,h1,h2⟩:=(I.bw e _ lO).1;obtain⟨oT,ts,q⟩:=(I.bw T _ (mw n)).1;exact⟨vs,oT,ts,h1,h2,q⟩
theorem Inv.Gp{e:Addr}{Q:Unit->Shared->Prop}{E:Value->Shared->Prop}(I:Inv X J0 σ (kB Hc e T C dd fl) s)(hfl:fl=.none\/fl=rawInt X.env.locals)(n:T≠e)(hcT:Hc T=none)(Kx:X.stack=X.env::X.outer)(hf:X.env.frame=some X.env.locals)
  (h:∀ h' T,Hc T=none->T≠e->Inv X J0 σ (kB Hc e T C dd (rawInt X.env.locals)) { s with heap:=h' }->Q () { s with heap:=h' }) :
  wpAny (model X.prog X.w) X.A (noteFrame (.ref e) X.env) Q E s:=by
 obtain⟨vs,oT,ts,hx,h1,hT,hd,h3⟩:=I.vj n;rcases hfl with rfl | rfl
 .refine I.note (Hc:=Hc) (to:=some T) Kx hf lO hx ⟨h1,n,oT,ts,hT,hd,h3⟩ (λT0 z=>?_) (λb n1 n2=>(gU n1 (n2 T rfl)).symm) h;cases z;exact⟨⟨_,mw n⟩,hcT⟩
 .unfold noteFrame;simp only[hf];refine Np (NV hx rfl h1 ?_);rw[if_pos (show (NB T != Ob)=true from by simp)];refine Np (NV hT hd h3 ?_);rw[if_pos (show (rawInt X.env.locals==rawInt X.env.locals)=true from by simp)];exact Nx (h s.heap T hcT n I)
theorem Inv.F6{e:Addr}{Q:Unit->Shared->Prop}{E:Value->Shared->Prop}(I:Inv X J0 σ H s)(he:H e=some (i8 C dd e))(Kx:X.stack=X.env::X.outer)(hf:X.env.frame=some X.env.locals)
  (h:∀ h' T,upd H e (fG C dd e) T=none->T≠e->Inv X J0 σ (kB (upd H e (fG C dd e)) e T C dd (rawInt X.env.locals)) { s with heap:=h' }->Q () { s with heap:=h' }) :
  wpAny (model X.prog X.w) X.A (noteFrame (.ref e) X.env) Q E s:=by
 obtain⟨t,hx⟩:=(I.bw e _ he).1;exact I.note (Hc:=upd H e (fG C dd e)) (to:=none) Kx hf he hx rfl (λ_ z=>by cases z) (λb n1 _=>av n1) h
theorem Inv.mR{e:Addr}{fr:Option Addr}{Q:Unit->Shared->Prop}{E:Value->Shared->Prop}(I:Inv X J0 σ (kB Hc e T C dd fl) s)(n:T≠e)
  (h:∀ h',Inv X J0 σ (kB Hc e T C dd (fr.elim .none λf=>rawInt f)) { s with heap:=h' }->Q () { s with heap:=h' }) :
  wpAny (model X.prog X.w) X.A (setFlight (.ref e) fr) Q E s:=by
 obtain⟨vs,oT,ts,hx,h1,hT,hd,h3⟩:=I.vj n;unfold setFlight;refine Np (NV hx rfl h1 ?_);rw[if_pos (show (NB T != Ob)=true from by simp)];have K7:3<ts.size:=(OG.mp h3).1;refine QX hT hd K7 (h _ ?_);have other:∀ b,b≠T->(s.heap.update T (Pg (·.setIfInBounds 3 (fr.elim Ob λf=>rawInt f)))).get? b=s.heap.get? b:=λb hb=>OB _ _ (O5 hb);have Mn:=OL (Pg (·.setIfInBounds 3 (fr.elim Ob λf=>rawInt f))) hT (Qe (Pp hd _));have nT:∀ b,kB Hc e T C dd fl b=none->b≠T:=λb q z=>by rw[z,mw n] at q;cases q
 have same:∀ b,b≠T->kB Hc e T C dd (fr.elim .none λf=>rawInt f) b=kB Hc e T C dd fl b:=λb z=>by
  by_cases w:b=e
  .subst w;rw[lO,lO]
  .rw[gU w z,gU w z]
 have ne:∀ b u,kB Hc e T C dd fl b=some u->(∀ ψ,u≠.ext ψ)->b≠T:=λb u q hu z=>by rw[z,mw n] at q;exact hu _ (NQ q).symm
 refine I.un (t':=s.toks) ⟨λb o q z _ _=>(other b (nT b z)).trans q,λb o q z _ _=>⟨o.slots,(other b (nT b z)).trans q⟩,λb o q z _=>by rw[same b (nT b z)];exact z,λb o q _=>?_,λb xs q=>?_,λb ob u q=>?_,λb ps q=>⟨#[],?_⟩⟩ λb u q=>?_
 .by_cases z:b=T
  .subst z;exact⟨_,Mn⟩
  .exact⟨o,(other b z).trans q⟩
 .rw[same b (ne b _ q λ_ z=>nomatch z)];exact q
 .rw[same b (ne b _ q λ_ z=>nomatch z)];exact q
 .rw[same b (ne b _ q λ_ z=>nomatch z),q];simp
 .by_cases z:b=T
  .subst z;rw[mw n] at q;cases q;refine⟨⟨_,_,Mn,Pp hd _,?_⟩,⟨_,Mn⟩,λh1 h2 ⟨o1,t1,q1,q2,q3⟩ k=>⟨o1,t1,k _ q1,q2,q3⟩⟩;simp[K7]
  .rw[same b z] at q;refine(I.bw b u q).jK (λc v hc q'=>(other c ?_).trans q') (λc q'=>?_) λc xs q'=>?_
   .rcases hc with rfl | hc
    .exact z
    .exact ne c _ hc λ_ z=>nomatch z
   .rw[same c (ne c _ q' λ_ z=>nomatch z)];exact q'
   .rw[same c (ne c _ q' λ_ z=>nomatch z)];exact q'
def cD(P:Program)(w:World):C8:=λouter H s E e s'=>∃ (ea T C:Addr) (dd:Option Addr) (Hc:Hp),e=.ref ea/\s'.os=s.os/\AllBare s'.gens/\Un (sE outer) [] H (kB Hc ea T C dd .none) s.heap s'.heap/\j9 P w (kB Hc ea T C dd .none) s'.heap ∧
 Hc ea=some (fG C dd ea)/\Hc T=none/\T≠ea/\E (.ref ea) none Hc
def Zx (X : Cx) (E : St -> XK) (e : Value) (s : Shared) : Prop := ∃ (ea C : Addr) (dd : Option Addr) (J0 : List (Addr × Obj)) (σ : St), e = .ref ea ∧
  ((∃ H, Inv X J0 σ H s /\ H ea = some (i8 C dd ea) /\ E σ (.ref ea) none (upd H ea (fG C dd ea))) ∨
   (∃ Hc T fl, Inv X J0 σ (kB Hc ea T C dd fl) s /\ (fl = .none \/ fl = rawInt X.env.locals) /\ Hc ea = some (fG C dd ea) /\ Hc T = none /\ T ≠ ea /\ E σ (.ref ea) none Hc))
variable{E:St->XK}
theorem Zx.note{e:Value}{Q:Unit->Shared->Prop}{F:Value->Shared->Prop}(z:Zx X E e s)(Kx:X.stack=X.env::X.outer)(hf:X.env.frame=some X.env.locals)
  (h:∀ s' ea C dd J0 σ Hc T,e=.ref ea->Inv X J0 σ (kB Hc ea T C dd (rawInt X.env.locals)) s'->Hc ea=some (fG C dd ea)->Hc T=none->T≠ea->E σ (.ref ea) none Hc->Q () s') :
  wpAny (model X.prog X.w) X.A (noteFrame e X.env) Q F s:=by
 obtain⟨ea,C,dd,J0,σ,rfl,⟨H,I,h1,h2⟩ | ⟨Hc,T,fl,I,h1,h2,h3,h4,h5⟩⟩:=z
 .exact I.F6 h1 Kx hf λh' T q1 q2 I2=>h _ ea C dd J0 σ _ T rfl I2 az q1 q2 h2
 .exact I.Gp h1 h4 h3 Kx hf λh' T q1 q2 I2=>h _ ea C dd J0 σ _ T rfl I2 h2 q1 q2 h5
theorem Zx.DT{E:XK}{e:Value}{F:Value->Shared->Prop}(z:Zx X (λ_=>E) e s)(Kx:X.stack=X.env::X.outer)(hf:X.env.frame=some X.env.locals)(hex:X.ex=[]) :
  wpAny (model X.prog X.w) X.A (leaving X.env e) (λ_ s'=>cD X.prog X.w X.outer X.H₀ X.s₀ E e s') F s:=by
 unfold leaving;refine Np (z.note Kx hf λs' ea C dd J0 σ Hc T he I h1 h2 h3 h4=>?_);subst he;refine I.mR h3 λh' I2=>⟨ea,T,C,dd,Hc,rfl,I2.os,I2.bare,?_,I2.bw,h1,h2,h3,h4⟩
 have:=I2.base;rw[hex] at this;exact this
theorem Zx.own(Kx:X.stack=X.env::X.outer)(hf:X.env.frame=some X.env.locals):PassesOwn (model X.prog X.w) X.A X.env (Zx X E):=by
 intro e s z;refine z.note Kx hf λs' ea C dd J0 σ Hc T he I h1 h2 h3 h4=>?_;subst he;obtain⟨vs,oT,ts,hx,q1,_⟩:=I.vj h3;show wpAny _ _ _ _ _ _;refine Np (NV hx rfl q1 ?_);rw[if_neg (show ¬ ((NB T==Ob)=true) from by simp)];rw[hf];refine I.mR h3 λh' I2=>⟨ea,C,dd,J0,σ,rfl,.inr ⟨Hc,T,_,I2,.inr rfl,h1,h2,h3,h4⟩⟩
structure d_ (X:Cx) (E:St->XK):Prop where
 pass:∀ (J0:List (Addr×Obj)) (σ:St) (H:Hp) (s:Shared) (e:Value) (s':Shared),Inv X J0 σ H s->cD X.prog X.w X.stack H s (E σ) e s'->X.xe e s'
 new:∀ (J0:List (Addr×Obj)) (σ:St) (H:Hp) (s:Shared) (e C:Addr) (dd:Option Addr),Inv X J0 σ H s->H e=some (i8 C dd e)->E σ (.ref e) none (upd H e (fG C dd e))->X.xe (.ref e) s
 own:PassesOwn (model X.prog X.w) X.A X.env X.xe
abbrev Cx.out(X:Cx)(E:St->XK):Cx:=X.lW (Zx X E)
theorem xj(Kx:X.stack=X.env::X.outer)(hf:X.env.frame=some X.env.locals):d_ (X.out E) E where
 pass:=by
  intro J0 σ H s e s' I h;obtain⟨ea,T,C,dd,Hc,rfl,os,bare,un,bw,h1,h2,h3,hE⟩:=h;have I':=I.dN.yq (ch:=[]) os un bw bare (λb z=>absurd z (by simp));exact⟨ea,C,dd,J0,σ,rfl,.inr ⟨Hc,T,.none,I',.inl rfl,h1,h2,h3,hE⟩⟩
 new:=λJ0 σ H s e C dd I he hE=>⟨e,C,dd,J0,σ,rfl,.inl ⟨H,I.dN,he,hE⟩⟩
 own:=Zx.own Kx hf
variable{N:List Str}{LW:Array (Option Value)}{an od:Option Addr}{body:List Stmt}{params:Arguments}
theorem t_{K:Nr}{dV kV doc pm J8 ct oc:Value}(lk:K.lookup f=some ⟨oc,od,.func (OE name qual params body scope dV kV doc pm an J8 ct),LW⟩)(KC:O9 K J8 qual=true)(S:bx N ps scope)
  (len:∀ vs H Q E,sp vs H Q E->vs.length=ps.length)
  (L4:∀ (A:Around) (outer:List Env) (s:Shared) (H:Hp) (vs:List V) (Q:VK) (E:XK),bR k (A.deeper (envOfC qual scope s.heap.objs.size f J8))->sp vs H Q E ->
   ∃ t,iG ((jh (cD P w) P w K mg base N qual scope f J8 A outer s H E).out λ_=>E) body t/\t { nx:=λ_ H'=>Q .bz H',rt:=Q } (start N vs) H) :
  bj P w K mg base (cD P w) (k+1) f (OE name qual params body scope dV kV doc pm an J8 ct) ps sp:=by
 refine Fx lk KC S len λA outer s H vs Q E hr hs=>?_;obtain⟨t,h1,h2⟩:=L4 A outer s H vs Q E hr hs;refine⟨t,λJ0 s1 σ H1 D I q=>?_,h2⟩;refine OP (h1 J0 s1 σ H1 D (I.lW _) q) (λf s' z=>z.dN) λe s' z=>?_;exact z.DT rfl rfl rfl
variable{pos':Pos}
section
open PySem.Builtin.ObjectAttr (storeInOwnDict storeTaker? setByDescriptor)
theorem pU{e t:Addr}(he:h.get? e=some ⟨.ref C,dd,.fields #[.ref t,.none,.none,.none,.bool false,.none],#[]⟩):bS P w H h e (i8 C dd e) :=
 ⟨⟨t,he⟩,⟨_,he⟩,λ_ _ ⟨t,q⟩ k=>⟨t,k _ q⟩⟩
section
variable{x:Str}{p:Pos}
def FC(C:Addr)(t:TA):TE:=fun σ H Q=>t σ H λvs H1=>vs.length<=sizeLine/\∀ a,H1 a=none->Q (.ref a) (upd H1 a (i8 C none a))
theorem Bb(hc:Rb X.K C eg "ValueError.__new__" = true)(kp:Oi X.K (.ref C)=true)(hg:Gl X x)(hm:X.mg x=some (.ref C))
  (ha:PA X (e::es) t) (KA:autoParam ((x==("__debug__" : Str))=false) aD._auto_1) (he:autoParam (starEach (e::es) X.env=(false,eval e X.env)::starEach es X.env) aR._auto_1) (Ka:autoParam ((backTo pos (starEach es X.env)).any (·.1)=false) aR._auto_1) :
  PE X (.Call (.Name x p) (e::es) [] pos) (FC C t):=by
 intro J0 s σ H Q I h;refine Po (gY I hg hm ?_ KA);refine P6 (h₀:=X.base) I.ok.mod.CM kp (cA (ha pos J0 s σ H _ I h) λus s1 ⟨vs,H1,I1,r,hl,q⟩=>⟨I1.gC,?_⟩) he Ka;obtain⟨bm,N,nm,qn,bs,Lw,sn,sub,ab,col,dd,k0,k1,k2,k3,k5,mN,hC,hN,LP,T⟩:=BP I1.gC hc;obtain⟨hp,g,d,tk,os⟩:=s1;refine wpAny_call_exc_subT RS T hC hN LP (λh' a M=>?_) (by show us.length<=sizeLine;rw[<- r.length];exact hl);obtain⟨t',e1,_,_⟩:=M.there;have I2:Inv X J0 σ (upd H1 a (i8 C none a)) ⟨h',g,d,tk,os⟩:=I1.Ct (t':=tk) M.keeps M.new (pU e1);have hn:H1 a=none:=I1.pA M.new;exact⟨.ref a,_,I2,rfl,q a hn⟩
def E5(C:Addr)(sp:Sp)(t:TA):TE:=fun σ H Q=>t σ H λvs H1=>vs.length<=sizeLine/\∀ a,H1 a=none->sp (.ref a::vs) (upd H1 a (i8 C none a)) (λv H2=>v=.bz/\Q (.ref a) H2) E0
theorem xW(hc:mB X.K C "ValueError.__new__" f=true)(hf:P1 X.K (.ref f)=true)(kp:Oi X.K (.ref C)=true)(F:bj X.prog X.w X.K X.mg X.base (cD X.prog X.w) k f fd ps sp)(hr:bR (k+1) X.A)(hb:Binds X.K fd ps [])(hg:Gl X x)(hm:X.mg x=some (.ref C))
  (ha:PA X (e::es) t) (KA:autoParam ((x==("__debug__" : Str))=false) aD._auto_1) (he:autoParam (starEach (e::es) X.env=(false,eval e X.env)::starEach es X.env) aR._auto_1) (Ka:autoParam ((backTo pos (starEach es X.env)).any (·.1)=false) aR._auto_1) :
  PE X (.Call (.Name x p) (e::es) [] pos) (E5 C sp t):=by
 intro J0 s σ H Q I h;refine Po (gY I hg hm ?_ KA);refine P6 (h₀:=X.base) I.ok.mod.CM kp (cA (ha pos J0 s σ H _ I h) λus s1 ⟨vs,H1,I1,r,hl,q⟩=>⟨I1.gC,?_⟩) he Ka;have X1:=I1.gC;obtain⟨bm,N,nm,qn,bs,Lw,sn,sub,ab,col,dd,k0,k1,k2,k3,k5,mN,hC,hN,LP,T⟩:=zI X1 hc;obtain⟨hp,g,d,tk,os⟩:=s1;have f1:=tc_lookup;have f2:=tc_bind (.ref C);have hT:(⟨hp,g,d,tk,os⟩:Shared).TypeIs (.ref C) "type" := ⟨_,hC,rfl⟩
 refine Q9 (codeAny_of_tree ?_);show wpAny _ _ (callAny (.ref C) _) _ _ _
 repeat (any_goals (first | assumption | with_reducible refine R3 hC ?_ | wp_step))
 refine⟨rfl,?_⟩;refine codeAny_call_builtin_at (Tq _ (by decide +kernel)) entry_typeCall (wpAny_check_type_call_sub hC (nu RS T hC hN LP
  (λh' kk self=>UC (λb o z=>kk b o (X1 b o z)) self (beq_iff_eq.mp hf)) (λh' kk ht hx hz=>?_) (by show us.length<=sizeLine;rw[<- r.length];exact hl)))
 have I2:Inv X J0 σ (upd H1 (hp.objs.size+1) (i8 C none (hp.objs.size+1))) ⟨h',g,d,tk,os⟩:=I1.Ct (t':=tk) kk (Qf (Rh _)) (pU hx);have hq:=q (hp.objs.size+1) (I1.pA (Qf (Rh _)));have r2:Vals (V.ref (hp.objs.size+1)::vs) (NB (hp.objs.size+1)::us):=.cons rfl r;have hlen:(NB (hp.objs.size+1)::us++[]).length=ps.length:=by
  rw[Og,<- r2.length];exact F.len _ _ _ _ hq
 refine Q9 (QV (F.run _ X.stack _ _ ⟨NB (hp.objs.size+1)::us,[]⟩ (NB (hp.objs.size+1)::us) _ _ E0 (hr.make C us []) (I2.jx.make C us []) (by have:=hb _ (NB (hp.objs.size+1)::us) I2.gC hlen;rwa [Og] at this) r2 hq) λr s' Ma=>?_);cases r with
 | error e =>
  obtain⟨_,_,_,_,_,_,_,_,_,_,_,_,_,z⟩:=Ma;exact z.elim
 | ok fl =>
  cases fl with
  | ret u =>
   obtain⟨v,H',I3,rv,ev,q3⟩:=I2.after Ma;subst ev;exact⟨rv,⟨V.ref (hp.objs.size+1),H',I3,rfl,q3⟩⟩
  | next=>exact OA Ma
  | brk=>exact OA Ma
  | cont=>exact OA Ma
def E4(K:Nr)(ta tv:TE)(f:Str):TS:=λD σ H=>tv σ H λy H1=>ta σ H1 λx H2=>∃ a C,x=.ref a/\H2 a=some (i8 C none a)/\dk K C/\((PM K C).any λcd=>ez cd.mro)=true/\bI K C f ∧
 ∀ d,H2 d=none->d≠a->D.nx σ (upd (upd H2 d (.xd [(f,y)])) a (i8 C (some d) a))
theorem xv{o value:Expr}{tv:TE}{n:Str}(ha:PE X o ta)(hv:PE X value tv)(hs:swapsWith value (some (.Attribute o n pos')) pos.line X.env=pure false):PS X (.Assign [.Attribute o n pos'] value pos) (E4 X.K ta tv n):=by
 intro J0 s σ H D I h;refine Q3 (cA (hv J0 s σ H _ I h) λu s1 ⟨y,H1,I1,ry,q⟩=>cA (ha J0 s1 σ H1 _ I1 q) λov s2 ⟨x,H2,I2,rx,a,C,ex,ea,c,po,na,q2⟩=>?_) hs;subst ex;obtain rfl:ov=NB a:=rx;obtain⟨tt,hx⟩:=(I2.bw a _ ea).1;refine zX po c I2.gC hx na.Cy λh' tk d e1 e2 e3 e4=>?_;have hd:H2 d=none:=I2.pA e2;have nda:d≠a:=λz=>by rw[z,ea] at hd;cases hd
 refine⟨σ,_,?_,q2 d hd nda⟩;have up:∀ b,b≠a->b≠d->upd (upd H2 d (.xd [(n,y)])) a (i8 C (some d) a) b=H2 b:=λb h1 h2=>by rw[av h1,av h2]
 have nd:∀ b u,s2.heap.get? b=some u->b≠d:=λb u e z=>by rw[z,e2] at e;cases e
 have nH:∀ b u,H2 b=some u->b≠d:=λb u e z=>by rw[z,hd] at e;cases e
 have nE:∀ b u,H2 b=some u->(∀ C dd,u≠i8 C dd a)->b≠a:=λb u e hu z=>by
  rw[z,ea] at e;exact hu C none (NQ e).symm
 refine I2.un (t':=tk) ⟨λb u e z _ _=>e4 b u (λw=>by rw[w,ea] at z;cases z) e,λb u e z _ _=>⟨u.slots,e4 b u (λw=>by rw[w,ea] at z;cases z) e⟩,λb u e z _=>?_,λb u e _=>?_,λb xs e=>?_,λb ob u e=>?_,λb ps e=>?_⟩ λb u e=>?_
 .rw[up b (λw=>by rw[w,ea] at z;cases z) (nd b u e)];exact z
 .by_cases w:b=a
  .rw[w];exact⟨_,e1⟩
  .exact⟨u,e4 b u w e⟩
 .rw[up b (nE b _ e λ_ _ z=>by cases z) (nH b _ e)];exact e
 .rw[up b (nE b _ e λ_ _ z=>by cases z) (nH b _ e)];exact e
 .exact⟨#[],by rw[up b (nE b _ e λ_ _ z=>by cases z) (nH b _ e),e];simp⟩
 .by_cases w:b=a
  .subst w;rw[az] at e;cases e;exact pU e1
  .rw[av w] at e
   by_cases w2:b=d
   .subst w2;rw[az] at e;cases e;refine⟨_,e3,λg=>?_⟩;show jm (Qj g [(n,y)]) (if g=n then some _ else none);rw[OD]
    by_cases z:g=n
    .rw[if_pos z,show (g==n)=true from by simp[z]];exact ry
    .rw[if_neg z,show (g==n)=false from by simp[z]];exact Pb
   .rw[av w2] at e;refine(I2.bw b u e).jK (λc v hc z=>e4 c v ?_ z) (λc z=>?_) λc ys z=>?_
    .rcases hc with z' | z'
     .rw[z'];exact w
     .exact nE c _ z' λ_ _ z=>by cases z
    .rw[up c (nE c _ z λ_ _ z=>by cases z) (nH c _ z)];exact z
    .rw[up c (nE c _ z λ_ _ z=>by cases z) (nH c _ z)];exact z
end
end
section
variable{M:Model}{E:Value->Shared->Prop}
theorem yi{e:Addr}{o:Obj}(hx:s.heap.get? e=some o)(h:Q o.cls s):wpAny M A (typeOf (.ref e)) Q E s:=by
 unfold typeOf;exact Np (PX hx (Nx h))
theorem vg{e:Addr}{o:Obj}{vs:Array Value}{Q:Bool->Shared->Prop}(hx:s.heap.get? e=some o)(hd:o.data=.fields vs)(h:Q false s):wpAny M A (isType (.ref e)) Q E s:=by
 unfold isType loadHead;refine Np (PX hx (Nx ?_));rw[hd];exact h
end
def Ed(K:Nr)(E:St->XK)(te:TE):TS:=λD σ H=>te σ H λv H1=>∃ e C dd,v=.ref e/\H1 e=some (i8 C dd e)/\dk K C/\Qi K (.ref C)=some (.type "type")/\E σ (.ref e) none (upd H1 e (fG C dd e))
theorem q_{exc:Expr}(O:d_ X E)(J7:X.calm=true)(he:PE X exc te):PS X (.Raise (some exc) none pos) (Ed X.K E te):=by
 intro J0 s σ H D I h;rw[arm_exec_Raise];refine Np (Qw ?_);unfold raiseStmt;dsimp only [evalOpt,Option.map];refine Np (Np (cA (he J0 s σ H _ I h) λu s1 hq=>Np (Qw (Nx ?_))));obtain⟨v,H1,I1,rv,e,C,dd,ev,hN,c,ht,hE⟩:=hq;subst ev;obtain rfl:u=NB e:=rv;obtain⟨t,hx⟩:=(I1.bw e _ hN).1;have X1:=I1.gC;refine Np (Nx ?_);refine Np (O6 ?_);unfold excFromValue isExcClass;refine Np (Np (vg hx rfl ?_));refine Nx ?_;refine Np ?_;unfold isInstance;refine Np (yi hx ((RB X1 c.mb).here ?_));refine Nx ?_;dsimp only;refine Np (vg hx rfl ?_);unfold raisedInstance;refine Np (Np (yi hx (Np ((SS X1 ht).here ?_))));refine Nx ?_;unfold setFlight;refine Np (Np (NV hx rfl (x:=.none) rfl ?_));refine Nx ?_;exact wpAny_raiseNew_none (I1.ok.hd J7) (O.new J0 σ H1 s1 e C dd I1 hN hE)
inductive PV where
 | bz | bl (b:Bool) | int (i:Int) | str (x:Str)
 | tup (xs:List PV) | lst (xs:List PV)
 | iw (xs:List PV)
 | obj (C:Addr) (fs:List (Str×PV))
 | exc (C:Addr) (fo:Option (List (Str×PV)))
 | emp
 | wg (Kf:List (List Int×PV))
 deriving Inhabited
mutual
inductive Rep (H:Hp):PV->V->Prop where
 | bz:Rep H .bz .bz
 | bl (b:Bool):Rep H (.bl b) (.bl b)
 | int (i:Int):Rep H (.int i) (.int i)
 | str (x:Str):Rep H (.str x) (.str x)
 | tup {a:Addr} {xs:List PV} {vs:List V}:H a=some (.tup vs)->aE H xs vs->Rep H (.tup xs) (.ref a)
 | lst {a:Addr} {xs:List PV} {vs:List V}:H a=some (.lst vs)->aE H xs vs->Rep H (.lst xs) (.ref a)
 | iw {a:Addr} {o:Obj} {xs:List PV} {vs:List V}:H a=some (.ny o (.lst vs))->aE H xs vs->Rep H (.iw xs) (.ref a)
 | obj {a C dx:Addr} {fs:List (Str×PV)} {vs:List (Str×V)}:H a=some (.ins C dx vs)->eT H fs vs->Rep H (.obj C fs) (.ref a)
 | qe {a C:Addr}:H a=some (fG C none a)->Rep H (.exc C none) (.ref a)
 | og {a C d:Addr} {fs:List (Str×PV)} {vs:List (Str×V)}:H a=some (fG C (some d) a)->H d=some (.xd vs)->eT H fs vs->Rep H (.exc C (some fs)) (.ref a)
 | emp {a:Addr}:H a=some (.dK [])->Rep H .emp (.ref a)
 | wg {a:Addr} {o:Obj} {Kf:List (List Int×PV)} {us:List (List Key×V)}:H a=some (.ny o (.dT us))->rD H Kf us->Rep H (.wg Kf) (.ref a)
inductive aE (H:Hp):List PV->List V->Prop where
 | nil:aE H [] []
 | cons {p:PV} {v:V} {ps:List PV} {vs:List V}:Rep H p v->aE H ps vs->aE H (p::ps) (v::vs)
inductive eT (H:Hp):List (Str×PV)->List (Str×V)->Prop where
 | nil:eT H [] []
 | cons {n:Str} {p:PV} {v:V} {ps:List (Str×PV)} {vs:List (Str×V)}:Rep H p v->eT H ps vs->eT H ((n,p)::ps) ((n,v)::vs)
inductive rD (H:Hp):List (List Int×PV)->List (List Key×V)->Prop where
 | nil:rD H [] []
 | cons {k:List Int} {p:PV} {v:V} {ps:List (List Int×PV)} {vs:List (List Key×V)}:Rep H p v->rD H ps vs->rD H ((k,p)::ps) ((k.map RY,v)::vs)
end
mutual
theorem Rep.mono{H H':Hp}(s:aX H H'):∀ {p:PV} {v:V},Rep H p v->Rep H' p v
 | _,_,.bz=>.bz
 | _,_,.bl b=>.bl b
 | _,_,.int i=>.int i
 | _,_,.str x=>.str x
 | _,_,.tup h r=>.tup (s _ _ h) (r.mono s)
 | _,_,.lst h r=>.lst (s _ _ h) (r.mono s)
 | _,_,.iw h r=>.iw (s _ _ h) (r.mono s)
 | _,_,.obj h r=>.obj (s _ _ h) (r.mono s)
 | _,_,.qe h=>.qe (s _ _ h)
 | _,_,.og h h2 r=>.og (s _ _ h) (s _ _ h2) (r.mono s)
 | _,_,.emp h=>.emp (s _ _ h)
 | _,_,.wg h r=>.wg (s _ _ h) (r.mono s)
theorem aE.mono{H H':Hp}(s:aX H H'):∀ {p:List PV} {v:List V},aE H p v->aE H' p v
 | _,_,.nil=>.nil
 | _,_,.cons h r=>.cons (h.mono s) (r.mono s)
theorem eT.mono{H H':Hp}(s:aX H H'):∀ {p:List (Str×PV)} {v:List (Str×V)},eT H p v->eT H' p v
 | _,_,.nil=>.nil
 | _,_,.cons h r=>.cons (h.mono s) (r.mono s)
theorem rD.mono{H H':Hp}(s:aX H H'):∀ {p:List (List Int×PV)} {v:List (List Key×V)},rD H p v->rD H' p v
 | _,_,.nil=>.nil
 | _,_,.cons h r=>.cons (h.mono s) (r.mono s)
end
theorem aE.length{H:Hp}:∀ {p:List PV} {v:List V},aE H p v->p.length=v.length
 | _,_,.nil=>rfl
 | _,_,.cons _ r=>by simp[r.length]
theorem aE.get{H:Hp}:∀ {p:List PV} {v:List V} {i:Nat} {x:PV},aE H p v->p[i]?=some x->∃ u,v[i]?=some u/\Rep H x u
 | _,_,_,_,.nil,e=>by simp at e
 | _,_,0,_,.cons h _,e=>by simp at e;subst e;exact⟨_,rfl,h⟩
 | _,_,i+1,x,.cons _ r,e=>by
  obtain⟨u,h1,h2⟩:=aE.get (i:=i) (x:=x) r (by simpa using e);exact⟨u,by simpa using h1,h2⟩
theorem aE.append{H:Hp}:∀ {p q:List PV} {v u:List V},aE H p v->aE H q u->aE H (p++q) (v++u)
 | _,_,_,_,.nil,s=>s
 | _,_,_,_,.cons h r,s=>.cons h (r.append s)
theorem aE.take{H:Hp}:∀ {p:List PV} {v:List V} (n:Nat),aE H p v->aE H (p.take n) (v.take n)
 | _,_,0,_=>.nil
 | _,_,_+1,.nil=>.nil
 | _,_,n+1,.cons h r=>.cons h (r.take n)
theorem aE.drop{H:Hp}:∀ {p:List PV} {v:List V} (n:Nat),aE H p v->aE H (p.drop n) (v.drop n)
 | _,_,0,r=>r
 | _,_,_+1,.nil=>.nil
 | _,_,n+1,.cons _ r=>r.drop n
theorem aE.set{H:Hp}{x:PV}{u:V}(h:Rep H x u):∀ {p:List PV} {v:List V} (i:Nat),aE H p v->aE H (p.set i x) (v.set i u)
 | _,_,_,.nil=>.nil
 | _,_,0,.cons _ r=>.cons h r
 | _,_,i+1,.cons q r=>.cons q (r.set h i)
theorem aE.snoc{p:List PV}{v:List V}{x:PV}{u:V}(r:aE H p v)(h:Rep H x u):aE H (p++[x]) (v++[u]):=r.append (.cons h .nil)
theorem eT.look{H:Hp}{f:Str}:∀ {p:List (Str×PV)} {v:List (Str×V)} {x:PV},eT H p v->p.lookup f=some x->∃ u,v.lookup f=some u/\Rep H x u
 | _,_,_,.nil,e=>by simp at e
 | (n,_)::_,_,x,.cons h r,e=>by
  rw[OD] at e ⊢;cases q:f==n with
  | true=>rw[q] at e;cases e;exact⟨_,rfl,h⟩
  | false=>rw[q] at e;exact r.look e
theorem eT.none{H:Hp}{f:Str}:∀ {p:List (Str×PV)} {v:List (Str×V)},eT H p v->p.lookup f=none->v.lookup f=none
 | _,_,.nil,_=>rfl
 | (n,_)::_,_,.cons h r,e=>by
  rw[OD] at e ⊢;cases q:f==n with
  | true=>rw[q] at e;cases e
  | false=>rw[q] at e;exact r.none e
theorem aE.ints{H:Hp}:∀ {ns:List Int} {v:List V},aE H (ns.map PV.int) v->v=ns.map V.int
 | [],_,.nil=>rfl
 | _::_,_,.cons (.int i) r=>by rw[r.ints];rfl
theorem aE.Jy{H:Hp}:∀ {ns:List Bool} {v:List V},aE H (ns.map PV.bl) v->v=ns.map V.bl
 | [],_,.nil=>rfl
 | _::_,_,.cons (.bl i) r=>by rw[r.Jy];rfl
structure bc (Hs H J3 H':Hp):Prop where
 st:aX Hs J3
 al:aX H H'
 sub:aX J3 H'
 nw:∀ a o,Hs a=none->H a=some o->(∀ ws,o≠.tup ws)->J3 a=none
variable{Hs:Hp}
theorem bc.refl(s:aX Hs H):bc Hs H Hs H:=⟨λ_ _ e=>e,λ_ _ e=>e,s,λ_ _ e _ _=>e⟩
variable{J6:Hp}
theorem bc.trans{H1 J5 H2:Hp}(a:bc Hs H J6 H1)(b:bc J6 H1 J5 H2):bc Hs H J5 H2 :=
 ⟨λc o e=>b.st c o (a.st c o e),λc o e=>b.al c o (a.al c o e),b.sub,λc o e q t=>b.nw c o (a.nw c o e q t) (a.al c o q) t⟩
theorem bc.new{p:Addr}(s:aX Hs H)(n:H p=none):bc Hs H (upd Hs p o) (upd H p o):=by
 have ne:∀ c u,H c=some u->c≠p:=λc u e z=>by rw[z,n] at e;cases e
 refine⟨λc u e=>?_,λc u e=>?_,λc u e=>?_,λc u e q _=>?_⟩
 .rw[av (ne c u (s c u e))];exact e
 .rw[av (ne c u e)];exact e
 .by_cases z:c=p
  .subst z;rw[az] at e ⊢;exact e
  .rw[av z] at e ⊢;exact s c u e
 .rw[av (ne c u q)];exact e
inductive SV where
 | sh (p:PV)
 | ow (xs:List PV)
 | bd (a C:Addr) (fs:List (Str×PV))
 | dw (Kf:List (List Int×PV))
abbrev ae:=List (Option SV)
def fP:SV->Bool
 | .sh _=>false
 | _=>true
def Ho(H₀ Hs H:Hp):SV->V->Prop
 | .sh p,v=>Rep Hs p v
 | .ow xs,v=>∃ a vs,v=.ref a/\H a=some (.lst vs)/\Hs a=none/\H₀ a=none/\aE Hs xs vs
 | .bd a C fs,v=>∃ dx vs,v=.ref a/\H a=some (.ins C dx vs)/\Hs a=none/\H₀ a=none/\eT Hs fs vs
 | .dw Kf,v=>∃ a us,v=.ref a/\H a=some (.dT us)/\Hs a=none/\H₀ a=none/\rD Hs Kf us
structure SR (B H₀ Hs H:Hp) (σ:St) (env:ae):Prop where
 gr:bc B H₀ Hs H
 len:σ.length=env.length
 at_:∀ (i:Nat) (x:SV),env[i]?=some (some x)->∃ v,σ[i]?=some (some v)/\Ho H₀ Hs H x v
 ap:∀ (i j:Nat) (x y:SV) (a:Addr),i≠j->env[i]?=some (some x)->env[j]?=some (some y)->fP x=true->fP y=true->σ[i]?=some (some (.ref a))->σ[j]?≠some (some (.ref a))
variable{H₀:Hp}
variable{j:Nat}
section
variable{B B' H₀' J3 H':Hp}{σ':St}{env J2:ae}{x:Option SV}{v:Option V}
theorem SR.sh(r:SR B H₀ Hs H σ env)(i:Nat)(p:PV)(e:env[i]?=some (some (.sh p))):∃ v,σ[i]?=some (some v)/\Rep Hs p v:=r.at_ i _ e
theorem SR.ow(r:SR B H₀ Hs H σ env)(i:Nat)(xs:List PV)(e:env[i]?=some (some (.ow xs))):∃ a vs,σ[i]?=some (some (.ref a))/\H a=some (.lst vs)/\Hs a=none/\H₀ a=none/\aE Hs xs vs :=
 let ⟨_,h1,a,vs,z,h⟩:=r.at_ i _ e;⟨a,vs,z▸h1,h⟩
theorem SR.bd(r:SR B H₀ Hs H σ env)(i:Nat)(a C:Addr)(fs:List (Str×PV))(e:env[i]?=some (some (.bd a C fs))):∃ dx vs,σ[i]?=some (some (.ref a))/\H a=some (.ins C dx vs)/\Hs a=none/\H₀ a=none/\eT Hs fs vs :=
 let ⟨_,h1,dx,vs,z,h⟩:=r.at_ i _ e;⟨dx,vs,z▸h1,h⟩
theorem Ho.kS{x:SV}{v:V}(h:Ho H₀ Hs H x v)(o:fP x=true):∃ a u,v=.ref a/\H a=some u/\Hs a=none/\H₀ a=none/\∀ ws,u≠.tup ws:=by
 cases x with
 | sh p=>cases o
 | ow xs=>obtain⟨a,vs,z,h1,h2,h3,_⟩:=h;exact⟨a,_,z,h1,h2,h3,λ_=>nofun⟩
 | bd a C fs=>obtain⟨dx,vs,z,h1,h2,h3,_⟩:=h;exact⟨a,_,z,h1,h2,h3,λ_=>nofun⟩
 | dw Kf=>obtain⟨a,vs,z,h1,h2,h3,_⟩:=h;exact⟨a,_,z,h1,h2,h3,λ_=>nofun⟩
theorem Ho.mono{x:SV}{v:V}(h:Ho H₀ Hs H x v)(s:aX Hs J3)(k:∀ a u,fP x=true->v=.ref a->H a=some u->Hs a=none->H₀ a=none->(∀ ws,u≠.tup ws)->H' a=some u/\J3 a=none/\H₀' a=none):Ho H₀' J3 H' x v:=by
 cases x with
 | sh p=>exact Rep.mono s h
 | ow xs=>obtain⟨a,vs,z,h1,h2,h3,h4⟩:=h;obtain⟨q1,q2,q3⟩:=k a _ rfl z h1 h2 h3 (λ_=>nofun);exact⟨a,vs,z,q1,q2,q3,h4.mono s⟩
 | bd a C fs=>obtain⟨dx,vs,z,h1,h2,h3,h4⟩:=h;obtain⟨q1,q2,q3⟩:=k a _ rfl z h1 h2 h3 (λ_=>nofun);exact⟨dx,vs,z,q1,q2,q3,h4.mono s⟩
 | dw Kf=>obtain⟨a,vs,z,h1,h2,h3,h4⟩:=h;obtain⟨q1,q2,q3⟩:=k a _ rfl z h1 h2 h3 (λ_=>nofun);exact⟨a,vs,z,q1,q2,q3,h4.mono s⟩
theorem SR.mv(r:SR B H₀ Hs H σ env)(gr:bc B' H₀' J3 H')(hl:σ'.length=J2.length)(s:aX Hs J3)
  (c:∀ (j:Nat) (x:SV),J2[j]?=some (some x)->env[j]?=some (some x)/\σ'[j]?=σ[j]?/\∀ a u,fP x=true->σ[j]?=some (some (.ref a))->H a=some u->Hs a=none->H₀ a=none->(∀ ws,u≠.tup ws)->H' a=some u/\J3 a=none/\H₀' a=none):SR B' H₀' J3 H' σ' J2 where
 gr:=gr
 len:=hl
 at_:=λj x e=>by
  obtain⟨e1,e2,k⟩:=c j x e;obtain⟨v,h1,h2⟩:=r.at_ j x e1;exact⟨v,e2.trans h1,h2.mono s λa u o z=>k a u o (z▸h1)⟩
 ap:=λj k x y a n e1 e2 o1 o2=>by
  rw[(c j x e1).2.1,(c k y e2).2.1];exact r.ap j k x y a n (c j x e1).1 (c k y e2).1 o1 o2
theorem nv{y:SV}(e:(env.set i x)[j]?=some (some y)):(i≠j/\env[j]?=some (some y))\/(i=j/\x=some y/\i<env.length):=by
 rw[N5] at e
 by_cases z:i=j
 .rw[if_pos z] at e
  split at e
  .exact .inr ⟨z,NQ e,by assumption⟩
  .cases e
 .rw[if_neg z] at e;exact .inl ⟨z,e⟩
theorem SR.chg(r:SR B H₀ Hs H σ env)(gr:bc B H₀ J3 H')(s:aX Hs J3)(new:∀ y,x=some y->∃ w,v=some w/\Ho H₀ J3 H' y w)
  (kp:∀ (j:Nat) (y:SV) (a:Addr) (u:HO),i≠j->env[j]?=some (some y)->fP y=true->σ[j]?=some (some (.ref a))->H a=some u->Hs a=none->(∀ ws,u≠.tup ws)->H' a=some u/\J3 a=none)
  (sp:∀ y,x=some y->fP y=true->∀ (k:Nat) (z:SV),i≠k->env[k]?=some (some z)->fP z=true->σ[k]?≠some v):SR B H₀ J3 H' (σ.set i v) (env.set i x) where
 gr:=gr
 len:=by rw[P9,P9];exact r.len
 at_:=λj y e=>by
  rcases nv e with ⟨n,e⟩ | ⟨rfl,e,l⟩
  .obtain⟨w,h1,h2⟩:=r.at_ j y e;refine⟨w,by rw[N5,if_neg n];exact h1,h2.mono s λa u o z q1 q2 q3 t=>?_⟩;obtain⟨p1,p2⟩:=kp j y a u n e o (z▸h1) q1 q2 t;exact⟨p1,p2,q3⟩
  .obtain⟨w,rfl,h⟩:=new y e;exact⟨w,by rw[N5,if_pos rfl,if_pos (by rw[r.len];exact l)],h⟩
 ap:=λj k y z a n e1 e2 o1 o2 q1 q2=>by
  rw[N5] at q1 q2;rcases nv e1 with ⟨n1,e1⟩ | ⟨rfl,e1,l⟩
  .rw[if_neg n1] at q1;rcases nv e2 with ⟨n2,e2⟩ | ⟨rfl,e2,l⟩
   .rw[if_neg n2] at q2;exact r.ap j k y z a n e1 e2 o1 o2 q1 q2
   .rw[if_pos rfl,if_pos (by rw[r.len];exact l)] at q2;exact sp z e2 o2 j y n1 e1 o1 (q1.trans q2.symm)
  .rw[if_pos rfl,if_pos (by rw[r.len];exact l)] at q1;rcases nv e2 with ⟨n2,e2⟩ | ⟨z2,_,_⟩
   .rw[if_neg n2] at q2;exact sp y e1 o1 k z n2 e2 o2 (q2.trans q1.symm)
   .exact n z2
theorem SR.E8(r:SR B H₀ Hs H σ env)(hv:σ[i]?=some v)(gr:bc B H₀ J3 H')(s:aX Hs J3)(new:∀ y,x=some y->∃ w,v=some w/\Ho H₀ J3 H' y w)
  (kp:∀ (j:Nat) (y:SV) (a:Addr) (u:HO),i≠j->env[j]?=some (some y)->fP y=true->σ[j]?=some (some (.ref a))->H a=some u->Hs a=none->(∀ ws,u≠.tup ws)->H' a=some u/\J3 a=none)
  (sp:∀ y,x=some y->fP y=true->∀ (k:Nat) (z:SV),i≠k->env[k]?=some (some z)->fP z=true->σ[k]?≠some v):SR B H₀ J3 H' σ (env.set i x):=by
 have e:σ.set i v=σ:=T_ λj=>by
  rw[N5]
  by_cases z:i=j
  .subst z;rw[if_pos rfl,if_pos (N8.mp hv).1,hv]
  .rw[if_neg z]
 have:=r.chg gr s new kp sp
 rwa [e] at this
theorem SR.held{p:Addr}(r:SR B H₀ Hs H σ env)(n:H p=none):∀ (j:Nat) (y:SV),env[j]?=some (some y)->fP y=true->σ[j]?≠some (some (.ref p)):=λj y e o z=>by
 obtain⟨v,h1,h2⟩:=r.at_ j y e;obtain⟨a,u,rfl,q,_⟩:=h2.kS o;rw[h1] at z;cases z;rw[n] at q;cases q
theorem SR.free{p:Addr}(r:SR B H₀ Hs H σ env)(n:H p=none):Hs p=none/\H₀ p=none:=by
 refine⟨?_,?_⟩
 .cases q:Hs p with
  | none=>rfl
  | some o=>have:=r.gr.sub _ _ q;rw[n] at this;cases this
 .cases q:H₀ p with
  | none=>rfl
  | some o=>have:=r.gr.al _ _ q;rw[n] at this;cases this
theorem bc.kS{p:Addr}(g:bc B H₀ Hs H)(h1:Hs p=none)(h2:H₀ p=none):bc B H₀ Hs (upd H p o) :=
 ⟨g.st,λc u q=>by rw[av (λz=>by rw[z,h2] at q;cases q)];exact g.al c u q,λc u q=>by rw[av (λz=>by rw[z,h1] at q;cases q)];exact g.sub c u q,g.nw⟩
theorem bc.into{p:Addr}(g:bc B H₀ Hs H)(h:H p=some o)(h1:Hs p=none)(h2:H₀ p=none):bc B H₀ (upd Hs p o) H/\aX Hs (upd Hs p o):=by
 have st:aX Hs (upd Hs p o):=λc u q=>by rw[av (λz=>by rw[z,h1] at q;cases q)];exact q
 refine⟨⟨λc u q=>st c u (g.st c u q),g.al,λc u q=>?_,λc u q1 q2 q3=>?_⟩,st⟩
 .by_cases z:c=p
  .subst z;rw[az] at q;rw[h,q]
  .rw[av z] at q;exact g.sub c u q
 .rw[av (λz=>by rw[z,h2] at q2;cases q2)];exact g.nw c u q1 q2 q3
theorem SR.grow(r:SR B H₀ Hs H σ env)(g:bc Hs H J3 H'):SR B H₀ J3 H' σ env :=
 r.mv (r.gr.trans g) r.len g.st λ_ _ e=>⟨e,rfl,λa u _ _ h1 h2 h3 t=>⟨g.al _ _ h1,g.nw _ _ h2 h1 t,h3⟩⟩
end
abbrev EX:=Addr×Option (List (Str×PV))
abbrev M(α:Type):=Option (Except EX α)
def M.ok{α:Type}(a:α):M α:=some (.ok a)
variable{α:Type}
noncomputable def M.bind{β:Type}(x:M α)(f:α->M β):M β:=match x with
 | some (.ok a)=>f a
 | some (.error e)=>some (.error e)
 | none=>none
instance:Monad M where
 pure:=M.ok
 bind:=M.bind
def aq(r:M α)(Q:α->Prop)(E:EX->Prop):Prop:=match r with
 | some (.ok a)=>Q a
 | some (.error e)=>E e
 | none=>False
variable{E':EX->Prop}
theorem aq.imp{r:M α}{Q Q':α->Prop}{E:EX->Prop}(h:aq r Q E)(hq:∀ a,Q a->Q' a)(he:∀ e,E e->E' e):aq r Q' E':=by
 cases r with
 | none=>exact h
 | some x=>cases x with
  | ok a=>exact hq a h
  | error e=>exact he e h
theorem aq.bind{α β:Type}{x:M α}{f:α->M β}{Q:β->Prop}{E:EX->Prop}(h:aq (x.bind f) Q E):aq x (λa=>aq (f a) Q E) E:=by
 cases x with
 | none=>exact h
 | some x=>cases x with
  | ok a=>exact h
  | error e=>exact h
def XW(E:XK)(Hs H:Hp)(x:EX):Prop:=∀ ea J3 H',bc Hs H J3 H'->Rep J3 (.exc x.1 x.2) (.ref ea)->E (.ref ea) none H'
theorem XW.grow{E:XK}{J3 H':Hp}{x:EX}(h:XW E Hs H x)(g:bc Hs H J3 H'):XW E J3 H' x:=λea J5 H2 g2 r=>h ea J5 H2 (g.trans g2) r
def tE(E:St->XK)(f:ae->M PV):TE:=fun σ H Q=>∃ B H₀ Hs env,SR B H₀ Hs H σ env/\aq (f env) (λp=>∀ v J3 H',bc Hs H J3 H'->Rep J3 p v->Q v H') (XW (E σ) Hs H)
theorem PE.imp{t t':TE}(h:PE X e t)(i:∀ σ H Q,t' σ H Q->t σ H Q):PE X e t':=λJ0 s σ H Q I q=>h J0 s σ H Q I (i σ H Q q)
theorem uC{f:ae->M PV}{g:ae->PV->M PV}{Q R:VK}(h:tE E (λenv=>(f env).bind (g env)) σ H Q)
  (k:∀ B H₀ Hs H1 env p v,SR B H₀ Hs H1 σ env->Rep Hs p v->aq (g env p) (λq=>∀ u J3 H',bc Hs H1 J3 H'->Rep J3 q u->Q u H') (XW (E σ) Hs H1)->R v H1):tE E f σ H R:=by
 obtain⟨B,H₀,Hs,env,sr,h⟩:=h;refine⟨B,H₀,Hs,env,sr,(aq.bind h).imp (λp hp v J3 H' g r=>?_) λe he=>he⟩;exact k B H₀ J3 H' env p v (sr.grow g) r (hp.imp (λq hq u J5 H2 g2 r2=>hq u J5 H2 (g.trans g2) r2) λe he=>he.grow g)
theorem uU{f g:ae->M PV}{op:PV->PV->M PV}{r:R2}{Q:VK}(h:tE E (λenv=>(f env).bind λp=>(g env).bind λq=>op p q) σ H Q)
  (k:∀ Hs H1 p q v u,aX Hs H1->Rep Hs p v->Rep Hs q u->aq (op p q) (λz=>∀ w J3 H',bc Hs H1 J3 H'->Rep J3 z w->Q w H') (XW (E σ) Hs H1)->r v u H1 Q):Fn r (tE E f) (tE E g) σ H Q:=by
 refine uC h λB H₀ Hs H1 env p v sr rp hp=>?_;refine⟨B,H₀,Hs,env,sr,(aq.bind hp).imp (λq hq u J3 H' g ru=>?_) λe he=>he⟩;exact k J3 H' p q v u (sr.grow g).gr.sub (rp.mono g.st) ru (hq.imp (λz hz w J5 H2 g2 r2=>hz w J5 H2 (g.trans g2) r2) λe he=>he.grow g)
theorem FN{f:ae->M PV}{op:PV->M PV}{r:V->Hp->VK->Prop}{Q:VK}(h:tE E (λenv=>(f env).bind op) σ H Q)
  (k:∀ Hs H1 p v,aX Hs H1->Rep Hs p v->aq (op p) (λz=>∀ w J3 H',bc Hs H1 J3 H'->Rep J3 z w->Q w H') (XW (E σ) Hs H1)->r v H1 Q):Jw r (tE E f) σ H Q :=
 uC h λB H₀ Hs H1 env p v sr rp hp=>k Hs H1 p v sr.gr.sub rp hp
def EB(sp:Sp)(Kw:List V)(E:St->XK)(t:TA):TE:=fun σ H Q=>t σ H λvs H1=>sp (vs++Kw) H1 Q (E σ)
def yy(C:Addr)(m:Str)(sp:Sp)(Kw:List V)(E:St->XK)(ta:TE)(t:TA):TE:=fun σ H Q=>ta σ H λx H1=>∃ a dx fs,x=.ref a/\H1 a=some (.ins C dx fs)/\fs.lookup m=none ∧
 t σ H1 λvs H2=>sp (x::(vs++Kw)) H2 Q (E σ)
def Fg(C:Addr)(sp:Sp)(Kw:List V)(E:St->XK)(t:TA):TE:=fun σ H Q=>t σ H λvs H1=>∀ x dx,H1 x=none->H1 dx=none->dx≠x ->
 sp (.ref x::(vs++Kw)) (upd (upd H1 dx (.own x)) x (.ins C dx [])) (λv H2=>v=.bz/\Q (.ref x) H2) (E σ)
variable{Kw:List V}
variable{vs:List V}{us:List Value}
section
variable{x:Str}{p:Pos}{o:Expr}
theorem qf{Q:VK}(F:bj X.prog X.w X.K X.mg X.base (cD X.prog X.w) k f fd ps sp)(hr:bR k X.A)(hb:Binds X.K fd ps ds)(hd:Vals Kw ds)(hx:d_ X E)
  (I:Inv X J0 σ H s) (r:Vals vs us) (h:sp (vs++Kw) H Q (E σ)):wpAny (model X.prog X.w) X.A (call (.ref f) us) (EP X J0 σ Q) X.xe s:=by
 have r2:Vals (vs++Kw) (us++ds):=r.append hd;have hl:(us++ds).length=ps.length:=by rw[<- r2.length];exact F.len _ _ _ _ h
 refine Q9 (QV (F.run X.A X.stack s H ⟨us,[]⟩ (us++ds) (vs++Kw) Q (E σ) hr I.jx (hb s us I.gC hl) r2 h) λr s' hq=>?_);cases r with
 | error e=>exact hx.pass J0 σ H s e s' I hq
 | ok fl =>
  cases fl with
  | ret u=>exact I.after hq
  | next=>exact OA hq
  | brk=>exact OA hq
  | cont=>exact OA hq
theorem xD(F:bj X.prog X.w X.K X.mg X.base (cD X.prog X.w) k f fd ps sp)(hr:bR k X.A)(hg:Gl X x)(hm:X.mg x=some (.ref f))(hk:Oi X.K (.ref f)=true)(hb:Binds X.K fd ps ds)(hd:Vals Kw ds)(hx:d_ X E)
  (ha:PA X (e::es) t) (KA:autoParam ((x==("__debug__" : Str))=false) aD._auto_1) (he:autoParam (starEach (e::es) X.env=(false,eval e X.env)::starEach es X.env) aR._auto_1) (Ka:autoParam ((backTo pos (starEach es X.env)).any (·.1)=false) aR._auto_1) :
  PE X (.Call (.Name x p) (e::es) [] pos) (EB sp Kw E t):=by
 intro J0 s σ H Q I h;refine Po (gY I hg hm ?_ KA);refine P6 (h₀:=X.base) I.ok.mod.CM hk (cA (ha pos J0 s σ H _ I h) λus s1 ⟨vs,H1,I1,r,q⟩=>⟨I1.gC,?_⟩) he Ka;exact qf F hr hb hd hx I1 r q
theorem yb(he:PE X o ta)(c:j4 X.K C)(hm:Meth X.K C m f)(F:bj X.prog X.w X.K X.mg X.base (cD X.prog X.w) k f fd ps sp)(hr:bR k X.A)(hb:Binds X.K fd ps ds)(hd:Vals Kw ds)(hx:d_ X E)(ha:PA X (e::es) t)
  (Kx:autoParam (starEach (e::es) X.env=(false,eval e X.env)::starEach es X.env) aR._auto_1) (Ka:autoParam ((backTo pos (starEach es X.env)).any (·.1)=false) aR._auto_1)
  (ht:autoParam (eval (.Call (.Attribute o m apos) (e::es) [] pos) X.env=(do
   let ov <- eval o X.env
   standAt apos.atName
   let (f,first) <- holding [ov] (getMethod ov m pl)
   callWith pos f first (backTo pos (starEach (e::es) X.env)) (backToKw pos (keywordEach [] X.env)))) aR._auto_1) :
  PE X (.Call (.Attribute o m apos) (e::es) [] pos) (yy C m sp Kw E ta t):=by
 intro J0 s σ H Q I h;refine Q5 (pl:=pl) (cA (he J0 s σ H _ I h) λu s1 ⟨x,H1,I1,rx,a,dx,fs,ex,ea,l,q⟩=>?_) ht;subst ex;obtain rfl:u=NB a:=rx;refine lU I1 ea c hm l ?_;refine P6 (first:=[.ref a]) (h₀:=X.base) I.ok.mod.CM hm.kp (cA (ha pos J0 s1 σ H1 _ I1 q) λus s2 ⟨vs,H2,I2,r,q2⟩=>⟨I2.gC,?_⟩) Kx Ka;exact qf (us:=.ref a::us) (vs:=.ref a::vs) F hr hb hd hx I2 (.cons rfl r) q2
theorem vi(he:PE X o ta)(c:j4 X.K C)(hm:Meth X.K C m f)(F:bj X.prog X.w X.K X.mg X.base (cD X.prog X.w) k f fd ps sp)(hr:bR k X.A)(hb:Binds X.K fd ps ds)(hd:Vals Kw ds)(hx:d_ X E)
  (ht:autoParam (eval (.Call (.Attribute o m apos) [] [] pos) X.env=(do
   let ov <- eval o X.env
   standAt apos.atName
   let (f,first) <- holding [ov] (getMethod ov m pl)
   callWith pos f first (backTo pos (starEach [] X.env)) (backToKw pos (keywordEach [] X.env)))) aR._auto_1) :
  PE X (.Call (.Attribute o m apos) [] [] pos) (yy C m sp Kw E ta FY):=by
 intro J0 s σ H Q I h;refine Q5 (pl:=pl) (cA (he J0 s σ H _ I h) λu s1 ⟨x,H1,I1,rx,a,dx,fs,ex,ea,l,q⟩=>?_) ht;subst ex;obtain rfl:u=NB a:=rx;refine lU I1 ea c hm l ?_;exact S6 (first:=[.ref a]) I1.gC hm.kp (qf (us:=[.ref a]) (vs:=[.ref a]) F hr hb hd hx I1 (.cons rfl .nil) q)
theorem vN{Q:VK}(M:Mk X.K C f)(F:bj X.prog X.w X.K X.mg X.base (cD X.prog X.w) k f fd ps sp)(hr:bR (k+1) X.A)(hb:Binds X.K fd ps ds)(hd:Vals Kw ds)
  (hx:d_ X E) (I:Inv X J0 σ H s) (r:Vals vs us)
  (h:∀ x dx,H x=none->H dx=none->dx≠x->sp (.ref x::(vs++Kw)) (upd (upd H dx (.own x)) x (.ins C dx [])) (λv H2=>v=.bz/\Q (.ref x) H2) (E σ)) :
  wpAny (model X.prog X.w) X.A (call (.ref C) us) (EP X J0 σ Q) X.xe s:=by
 have hq:=h (s.heap.objs.size+1) s.heap.objs.size (I.bw.fresh (Rh _)) (I.bw.fresh (NC _)) (NP (O3 _));have I2:=Inv.made (C:=C) I;have r2:Vals (V.ref (s.heap.objs.size+1)::(vs++Kw)) (NB (s.heap.objs.size+1)::(us++ds)):=.cons rfl (r.append hd);have hl:(NB (s.heap.objs.size+1)::us++ds).length=ps.length:=by
  have e:=r2.length;rw[F.len _ _ _ _ hq] at e;exact e.symm
 refine Q9 (zg (f:=f) I.gC M.makes M.init (beq_iff_eq.mp M.fn) (QV (F.run _ X.stack _ _ ⟨NB (s.heap.objs.size+1)::us,[]⟩ (NB (s.heap.objs.size+1)::(us++ds)) _ _ (E σ) (hr.make C us [])
  (I2.jx.make C us []) (hb _ (NB (s.heap.objs.size+1)::us) I2.gC hl) r2 hq) λr s' Ma=>?_))
 cases r with
 | error e=>exact hx.pass J0 σ _ _ e s' I2 Ma
 | ok fl =>
  cases fl with
  | ret u =>
   obtain⟨v,H',I3,rv,ev,q3⟩:=I2.after Ma;subst ev;exact⟨rv,⟨V.ref (s.heap.objs.size+1),H',I3,rfl,q3⟩⟩
  | next=>exact OA Ma
  | brk=>exact OA Ma
  | cont=>exact OA Ma
theorem yw(M:Mk X.K C f)(F:bj X.prog X.w X.K X.mg X.base (cD X.prog X.w) k f fd ps sp)(hr:bR (k+1) X.A)(hg:Gl X x)(hm:X.mg x=some (.ref C))(hb:Binds X.K fd ps ds)(hd:Vals Kw ds)(hx:d_ X E)
  (ha:PA X (e::es) t) (KA:autoParam ((x==("__debug__" : Str))=false) aD._auto_1) (he:autoParam (starEach (e::es) X.env=(false,eval e X.env)::starEach es X.env) aR._auto_1) (Ka:autoParam ((backTo pos (starEach es X.env)).any (·.1)=false) aR._auto_1) :
  PE X (.Call (.Name x p) (e::es) [] pos) (Fg C sp Kw E t):=by
 intro J0 s σ H Q I h;refine Po (gY I hg hm ?_ KA);refine P6 (h₀:=X.base) I.ok.mod.CM M.kp (cA (ha pos J0 s σ H _ I h) λus s1 ⟨vs,H1,I1,r,q⟩=>⟨I1.gC,?_⟩) he Ka;exact vN M F hr hb hd hx I1 r q
end
abbrev cT(Hs H:Hp)(Q:VK):PV->Prop:=λz=>∀ w J3 H',bc Hs H J3 H'->Rep J3 z w->Q w H'
variable{p:PV}
theorem cT.flat{Q:VK}(h:cT Hs H Q p)(s:aX Hs H)(r:Rep Hs p v):Q v H:=h v Hs H (.refl s) r
theorem cT.tup{Hs H:Hp}{Q:VK}{xs:List PV}{vs:List V}(h:cT Hs H Q (.tup xs))(s:aX Hs H)(r:aE Hs xs vs):∀ p,H p=none->Q (.ref p) (upd H p (.tup vs)) :=
 λp n=>h _ (upd Hs p (.tup vs)) _ (bc.new s n) (.tup az (r.mono (bc.new s n).st))
theorem cT.lst{Hs H:Hp}{Q:VK}{xs:List PV}{vs:List V}(h:cT Hs H Q (.lst xs))(s:aX Hs H)(r:aE Hs xs vs):∀ p,H p=none->Q (.ref p) (upd H p (.lst vs)) :=
 λp n=>h _ (upd Hs p (.lst vs)) _ (bc.new s n) (.lst az (r.mono (bc.new s n).st))
namespace HT
theorem x6{prog:Program}{w:World}{A:Around}{E:Value->Shared->Prop}{s:Shared}{t b:Addr}{ws:List Value}{Q:Value->Shared->Prop}(ht:IsTup s.heap t #[])(hb:IsTup s.heap b ws.toArray)
  (h1:Q (.ref b) s):wpAny (model prog w) A (binaryOp .Add (.ref t) (.ref b)) Q E s:=by
 obtain⟨⟨cls,dd,data,sl⟩,ho,hc,n,hd⟩:=id ht;obtain⟨⟨cls2,MS,data2,sl2⟩,LQ,MZ,n2,hd2⟩:=id hb;simp only at hc hd MZ hd2;subst hc hd MZ hd2;exact TZ ⟨_,ho,rfl⟩ ⟨_,LQ,rfl⟩ Sb S9 QU QJ (Qy _ _)
   (tuple_addW0 t b #[] ws.toArray n n2 dd MS sl sl2 rfl) ⟨ho,LQ,h1⟩
end HT
def yC(K:Nr):R2:=λx y H Q=>∃ a b ys,x=.ref a/\y=.ref b/\ff K H a []/\ff K H b ys/\Q (.ref b) H
theorem wO:fD X (binaryOp .Add) (yC X.K):=by
 intro J0 s σ H x y v u Q I rx ry h;obtain⟨a,b,ys,rfl,rfl,ha,hb,q1⟩:=h;cases rx;cases ry;obtain⟨J4,r1,p1,_⟩:=I.tuple ha;obtain⟨Le,r2,p2,_⟩:=I.tuple hb;have e:J4=[]:=r1.jL.mpr rfl;subst e;exact HT.x6 p1 p2 ⟨.ref b,H,I,rfl,q1⟩
def cp(c:Prop)[Decidable c](x:M α):M α:=if c then x else none
theorem aq.cp{α:Type}{c:Prop}[Decidable c]{x:M α}{Q:α->Prop}{E:EX->Prop}(h:aq (L2.cp c x) Q E):c/\aq x Q E:=by
 unfold L2.cp at h
 by_cases hc:c
 .rw[if_pos hc] at h;exact⟨hc,h⟩
 .rw[if_neg hc] at h;exact h.elim
def eM(o:Option PV):M PV:=match o with
 | some x=>M.ok x
 | none=>none
theorem aq.opt{o:Option PV}{Q:PV->Prop}{E:EX->Prop}(h:aq (eM o) Q E):∃ x,o=some x/\Q x:=by
 cases o with
 | none=>exact h.elim
 | some x=>exact⟨x,rfl,h⟩
variable{op:CmpOp}
section
variable{a b c:Expr}{f g h:ae->M PV}
def ah(i:Nat)(env:ae):M PV:=match env[i]? with
 | some (some (.sh p))=>M.ok p
 | _=>none
theorem Dm{x:Str}(hN:X.N[i]?=some x)(hv:z8 X.env.scope x)(hd:autoParam ((x==("__debug__" : Str))=false) aD._auto_1)(KC:autoParam ((x==("__classdict__" : Str))=false) aD._auto_1):PE X (.Name x pos) (tE E (ah i)):=by
 refine(ji hN hv hd KC).imp fun σ H Q q=>?_;obtain⟨B,H₀,Hs,env,sr,q⟩:=q;unfold ah at q
 split at q
 .rename_i p e;obtain⟨v,h1,h2⟩:=sr.sh i p e;exact⟨v,h1,cT.flat q sr.gr.sub h2⟩
 .exact q.elim
theorem jF(he:PE X e (tC v))(r:∀ H,Rep H p v):PE X e (tE E λ_=>M.ok p):=by
 refine he.imp fun σ H Q q=>?_;obtain⟨B,H₀,Hs,env,sr,q⟩:=q;exact cT.flat q sr.gr.sub (r Hs)
theorem yj{i:Int}:PE X (.Constant (.int i) j pos) (tE E λ_=>M.ok (.int i)):=jF zr λ_=>.int i
theorem Gj{i:Bool}:PE X (.Constant (.bool i) j pos) (tE E λ_=>M.ok (.bl i)):=jF Gg λ_=>.bl i
theorem EU:PE X (.Constant .none j pos) (tE E λ_=>M.ok .bz):=jF DA λ_=>.bz
theorem CW{i:Str}:PE X (.Constant (.str i) j pos) (tE E λ_=>M.ok (.str i)):=jF yr λ_=>.str i
def ai(op:PV->PV->M PV)(f g:ae->M PV):ae->M PV:=λenv=>(f env).bind λp=>(g env).bind λq=>op p q
def jI(E:St->XK)(r:R2)(op:PV->PV->M PV):Prop:=∀ (σ:St) (Hs H:Hp) (p q:PV) (v u:V) (Q:VK),aX Hs H->Rep Hs p v->Rep Hs q u->aq (op p q) (cT Hs H Q) (XW (E σ) Hs H)->r v u H Q
theorem kA{op:Operator}{r:R2}{o:PV->PV->M PV}(ho:fD X (binaryOp op) r)(hv:jI E r o)(ha:PE X a (tE E f))(hb:PE X b (tE E g)):PE X (.BinOp a op b pos) (tE E (ai o f g)) :=
 (CF ho ha hb).imp fun σ H Q q=>uU q λHs H1 p q v u s rp rq h=>hv σ Hs H1 p q v u Q s rp rq h
theorem gQ{r:R2}{o:PV->PV->M PV}(ho:fD X (compareOp op) r)(hv:jI E r o)(ha:PE X a (tE E f))(hb:PE X b (tE E g))(hm:behindInMarks op b=false):PE X (.Compare a [op] [b] pos) (tE E (ai o f g)) :=
 (BZ ho ha hb hm).imp fun σ H Q q=>uU q λHs H1 p q v u s rp rq h=>hv σ Hs H1 p q v u Q s rp rq h
def bG:PV->PV->M PV
 | .int i,.int j=>M.ok (.int (i+j))
 | .str x,.str y=>cp (x.length+y.length<=sizeLine) (M.ok (.str (x++y)))
 | .tup xs,.tup ys=>cp (xs.length+ys.length<=sizeLine) (M.ok (.tup (xs++ys)))
 | .lst xs,.lst ys=>cp (xs.length+ys.length<=sizeLine) (M.ok (.lst (xs++ys)))
 | _,_=>none
def Cj(K:Nr):R2:=λx y H Q=>(∃ i j,x=.int i/\y=.int j/\Q (.int (i+j)) H)\/(∃ i j,x=.str i/\y=.str j/\i.length+j.length<=sizeLine/\Q (.str (i++j)) H)\/Cm K x y H Q\/GJ x y H Q\/yC K x y H Q
theorem Ap:fD X (binaryOp .Add) (Cj X.K):=fD.or D8 (fD.or sY (fD.or Aj (fD.or yP wO)))
theorem DZ{K:Nr}:jI E (Cj K) bG:=by
 intro σ Hs H p q v u Q s rp rq h;cases rp with
 | int i=>cases rq with
  | int j=>exact .inl ⟨i,j,rfl,rfl,cT.flat h s (.int _)⟩
  | _=>exact h.elim
 | str i=>cases rq with
  | str j =>
   obtain⟨hz,h⟩:=aq.cp h;exact .inr (.inl ⟨i,j,rfl,rfl,hz,cT.flat h s (.str _)⟩)
  | _=>exact h.elim
 | @tup a xs vs ha hx=>cases rq with
  | @tup b ys us hb hy =>
   obtain⟨hz,h⟩:=aq.cp h;cases hx with
   | nil=>exact .inr (.inr (.inr (.inr ⟨a,b,us,rfl,rfl,ff.of (s _ _ ha),ff.of (s _ _ hb),cT.flat h s (.tup hb hy)⟩)))
   | cons MO K8 =>
    have hx:=aE.cons MO K8;refine .inr (.inr (.inl ⟨a,b,_,us,rfl,rfl,ff.of (s _ _ ha),ff.of (s _ _ hb),(λz=>nomatch z),by rw[<- hx.length,<- hy.length];exact hz,λz=>?_,λz=>cT.tup h s (hx.append hy)⟩));have e:ys=[]:=by cases hy with | nil=>rfl | cons _ _=>cases z
    subst e;rw[Og] at h;exact cT.flat h s (.tup ha hx)
  | _=>exact h.elim
 | @lst a xs vs ha hx=>cases rq with
  | @lst b ys us hb hy =>
   obtain⟨hz,h⟩:=aq.cp h;exact .inr (.inr (.inr (.inl ⟨a,b,vs,us,rfl,rfl,s _ _ ha,s _ _ hb,by rw[<- hx.length,<- hy.length];exact hz,cT.lst h s (hx.append hy)⟩)))
  | _=>exact h.elim
 | _=>exact h.elim
def ui(c:Int->Int->Bool)(o:Int->Int->Int):PV->PV->M PV
 | .int i,.int j=>cp (c i j=true) (M.ok (.int (o i j)))
 | _,_=>none
theorem t8{C:Int->Int->Prop}{c:Int->Int->Bool}{o:Int->Int->Int}(hc:∀ i j,c i j=true->C i j):jI E (rI C λi j=>.int (o i j)) (ui c o):=by
 intro σ Hs H p q v u Q s rp rq h;cases rp with
 | int i=>cases rq with
  | int j =>
   obtain⟨hz,h⟩:=aq.cp h;exact⟨i,j,rfl,rfl,hc i j hz,cT.flat h s (.int _)⟩
  | _=>exact h.elim
 | _=>exact h.elim
def k_:PV->PV->M PV
 | .int i,.int j=>M.ok (.int (i-j))
 | _,_=>none
theorem CN:jI E (uV λi j=>.int (i-j)) k_:=by
 intro σ Hs H p q v u Q s rp rq h;cases rp with
 | int i=>cases rq with
  | int j=>exact⟨i,j,rfl,rfl,cT.flat h s (.int _)⟩
  | _=>exact h.elim
 | _=>exact h.elim
def xu(o:Int->Int->Bool):PV->PV->M PV
 | .int i,.int j=>M.ok (.bl (o i j))
 | _,_=>none
theorem ql{o:Int->Int->Bool}:jI E (uV λi j=>.bl (o i j)) (xu o):=by
 intro σ Hs H p q v u Q s rp rq h;cases rp with
 | int i=>cases rq with
  | int j=>exact⟨i,j,rfl,rfl,cT.flat h s (.bl _)⟩
  | _=>exact h.elim
 | _=>exact h.elim
def bo:PV->PV->M PV
 | .tup xs,.int i=>eM (qy xs i)
 | .lst xs,.int i=>eM (qy xs i)
 | .iw xs,.int i=>eM (qy xs i)
 | .str z,.int i=>cp (z.length<=sizeLine) (eM ((qy z.cps.toList i).map λc=>.str ⟨#[c]⟩))
 | _,_=>none
theorem aE.qy{H:Hp}{xs:List PV}{vs:List V}{i:Int}{x:PV}(r:aE H xs vs)(e:L2.qy xs i=some x):∃ v,L2.qy vs i=some v/\Rep H x v:=by
 unfold L2.qy at e ⊢;rw[<- r.length];obtain⟨j,h1,h2⟩:=QK.mp e;obtain⟨v,h3,h4⟩:=r.get h2;exact⟨v,by rw[h1];exact h3,h4⟩
theorem C6{K:Nr}:jI E (Ic K) bo:=by
 intro σ Hs H p q v u Q s rp rq h;cases rp with
 | @tup a xs vs ha hx=>cases rq with
  | int i =>
   obtain⟨x,ex,h⟩:=aq.opt h;obtain⟨v,h1,h2⟩:=hx.qy ex;exact .inr (.inl ⟨a,vs,i,v,rfl,rfl,ff.of (s _ _ ha),h1,cT.flat h s h2⟩)
  | _=>exact h.elim
 | @lst a xs vs ha hx=>cases rq with
  | int i =>
   obtain⟨x,ex,h⟩:=aq.opt h;obtain⟨v,h1,h2⟩:=hx.qy ex;exact .inl ⟨a,vs,i,v,rfl,rfl,gc.of (s _ _ ha),h1,cT.flat h s h2⟩
  | _=>exact h.elim
 | @iw a o xs vs ha hx=>cases rq with
  | int i =>
   obtain⟨x,ex,h⟩:=aq.opt h;obtain⟨v,h1,h2⟩:=hx.qy ex;exact .inl ⟨a,vs,i,v,rfl,rfl,.inl (.inr ⟨o,s _ _ ha⟩),h1,cT.flat h s h2⟩
  | _=>exact h.elim
 | str z=>cases rq with
  | int i =>
   obtain⟨hz,h⟩:=aq.cp h;obtain⟨x,ex,h⟩:=aq.opt h;obtain⟨c,ec,rfl⟩:=NS.mp ex;exact .inr (.inr ⟨z,i,c,rfl,rfl,hz,ec,cT.flat h s (.str _)⟩)
  | _=>exact h.elim
 | _=>exact h.elim
theorem Ee(ha:PE X a (tE E f))(hb:PE X b (tE E g))(hs:qr b):PE X (.Subscript a b pos) (tE E (ai bo f g)) :=
 (Ci wV ha hb hs).imp fun σ H Q q=>uU q λHs H1 p q v u s rp rq h=>C6 σ Hs H1 p q v u Q s rp rq h
end
def tG(E:St->XK)(f:ae->M α)(K:Hp->Hp->α->Prop):St->Hp->Prop:=fun σ H=>∃ B H₀ Hs env,SR B H₀ Hs H σ env/\aq (f env) (K Hs H) (XW (E σ) Hs H)
def KG(K:Hp->Hp->α->Prop):Prop:=∀ Hs H J3 H' b,K Hs H b->bc Hs H J3 H'->K J3 H' b
abbrev KB(Q:Bool->Hp->Prop):Hp->Hp->Bool->Prop:=λHs H k=>∀ J3 H',bc Hs H J3 H'->Q k H'
abbrev g_(Q:VK):Hp->Hp->PV->Prop:=λHs H p=>cT Hs H Q p
abbrev KL(Q:List V->Hp->Prop):Hp->Hp->List PV->Prop:=λHs H ps=>∀ vs J3 H',bc Hs H J3 H'->aE J3 ps vs->Q vs H'
theorem KB.g{Q:Bool->Hp->Prop}:KG (KB Q):=λHs H J3 H' b k g J5 H2 g2=>k J5 H2 (g.trans g2)
theorem g_.g{Q:VK}:KG (g_ Q):=λHs H J3 H' b k g w J5 H2 g2 r=>k w J5 H2 (g.trans g2) r
theorem KL.g{Q:List V->Hp->Prop}:KG (KL Q):=λHs H J3 H' b k g w J5 H2 g2 r=>k w J5 H2 (g.trans g2) r
def tT(E:St->XK)(f:ae->M Bool):TT:=fun σ H Q=>tG E f (KB Q) σ H
def tL(E:St->XK)(f:ae->M (List PV)):TA:=fun σ H Q=>tG E f (KL Q) σ H
theorem PT.imp{t t':TT}(h:PT X e t)(i:∀ σ H Q,t' σ H Q->t σ H Q):PT X e t':=λJ0 s σ H Q I q=>h J0 s σ H Q I (i σ H Q q)
theorem PW.imp{t t':TT}(h:PW X e t)(i:∀ σ H Q,t' σ H Q->t σ H Q):PW X e t':=λw J0 s σ H Q I q=>h w J0 s σ H Q I (i σ H Q q)
theorem PA.imp{e:List Expr}{t':TA}(h:PA X e t)(i:∀ σ H Q,t' σ H Q->t σ H Q):PA X e t':=λw J0 s σ H Q I q=>h w J0 s σ H Q I (i σ H Q q)
section
variable{β:Type}{K:Hp->Hp->β->Prop}
theorem bD{f:ae->M PV}{g:ae->PV->M β}{R:VK}(kg:KG K)(h:tG E (λenv=>(f env).bind (g env)) K σ H)
  (k:∀ B H₀ Hs H1 env p v,SR B H₀ Hs H1 σ env->Rep Hs p v->aq (g env p) (K Hs H1) (XW (E σ) Hs H1)->R v H1):tE E f σ H R:=by
 obtain⟨B,H₀,Hs,env,sr,h⟩:=h;refine⟨B,H₀,Hs,env,sr,(aq.bind h).imp (λp hp v J3 H' g r=>?_) λe he=>he⟩;exact k B H₀ J3 H' env p v (sr.grow g) r (hp.imp (λq hq=>kg _ _ _ _ q hq g) λe he=>he.grow g)
theorem l8{f:ae->M Bool}{g:ae->Bool->M β}{R:Bool->Hp->Prop}(kg:KG K)(h:tG E (λenv=>(f env).bind (g env)) K σ H)
  (k:∀ B H₀ Hs H1 env p,SR B H₀ Hs H1 σ env->aq (g env p) (K Hs H1) (XW (E σ) Hs H1)->R p H1):tT E f σ H R:=by
 obtain⟨B,H₀,Hs,env,sr,h⟩:=h;refine⟨B,H₀,Hs,env,sr,(aq.bind h).imp (λp hp J3 H' g=>?_) λe he=>he⟩;exact k B H₀ J3 H' env p (sr.grow g) (hp.imp (λq hq=>kg _ _ _ _ q hq g) λe he=>he.grow g)
theorem dP{f:ae->M (List PV)}{g:ae->List PV->M β}{R:List V->Hp->Prop}(kg:KG K)(h:tG E (λenv=>(f env).bind (g env)) K σ H)
  (k:∀ B H₀ Hs H1 env p v,SR B H₀ Hs H1 σ env->aE Hs p v->aq (g env p) (K Hs H1) (XW (E σ) Hs H1)->R v H1):tL E f σ H R:=by
 obtain⟨B,H₀,Hs,env,sr,h⟩:=h;refine⟨B,H₀,Hs,env,sr,(aq.bind h).imp (λp hp v J3 H' g r=>?_) λe he=>he⟩;exact k B H₀ J3 H' env p v (sr.grow g) r (hp.imp (λq hq=>kg _ _ _ _ q hq g) λe he=>he.grow g)
end
def tN:PV->M Bool
 | .bl b=>M.ok b
 | _=>none
def eO(f:ae->M PV):ae->M Bool:=λenv=>(f env).bind tN
theorem aq.G3{Q:Bool->Prop}{E:EX->Prop}(h:aq (tN p) Q E):∃ b,p=.bl b/\Q b:=by
 cases p with
 | bl b=>exact⟨b,rfl,h⟩
 | _=>exact h.elim
variable{r:List V->Hp->VK->Prop}
section
variable{a b c:Expr}{f g h:ae->M PV}{u v:ae->M Bool}{rest:List Expr}
theorem qI{Q:Bool->Hp->Prop}(q:tT E (eO f) σ H Q):tB (tE E f) σ H Q:=by
 refine bD KB.g q λB H₀ Hs H1 env p v sr rp hp=>?_;obtain⟨k,rfl,hp⟩:=aq.G3 hp;cases rp;exact⟨k,rfl,hp Hs H1 (.refl sr.gr.sub)⟩
theorem qj(he:PE X e (tE E f))(hw:autoParam (∀ whole,isTrue e X.env whole=(do let v <- whole;standAt e.pos;holding [v] (truthy v))) aI._auto_1):PT X e (tT E (eO f)) :=
 (EY he hw).imp fun σ H Q q=>qI q
theorem gP{r:R2}{o:PV->PV->M PV}(ho:fD X (compareOp op) r)(hv:jI E r o)(ha:PE X a (tE E f))(hb:PE X b (tE E g))(hm:behindInMarks op b=false):PT X (.Compare a [op] [b] pos) (tT E (eO (ai o f g))):=by
 refine(Be ho ha hb hm).imp fun σ H Q q=>?_;have q':=qI q;exact uU q' λHs H1 p q v u s rp rq h=>hv σ Hs H1 p q v u _ s rp rq h
def lj(u:ae->M Bool):ae->M Bool:=λenv=>(u env).bind λb=>M.ok (!b)
def Ds(u v:ae->M Bool):ae->M Bool:=λenv=>(u env).bind λb=>if b=true then v env else M.ok false
def Ez(u v:ae->M Bool):ae->M Bool:=λenv=>(u env).bind λb=>if b=true then M.ok true else v env
theorem DR(ha:PT X a (tT E u)):PT X (.UnaryOp .Not a pos) (tT E (lj u)) :=
 (Dz ha).imp fun σ H Q q=>l8 KB.g q λB H₀ Hs H1 env p sr hp=>hp Hs H1 (.refl sr.gr.sub)
theorem AN(ha:PT X a (tT E u)):PW X (.BoolOp .And [a] pos) (tT E u):=pw_and1 ha
theorem pv(ha:PT X a (tT E u)):PW X (.BoolOp .Or [a] pos) (tT E u):=pw_or1 ha
theorem DX(ha:PT X a (tT E u))(hb:PW X (.BoolOp .And (b::rest) pos) (tT E v)):PW X (.BoolOp .And (a::b::rest) pos) (tT E (Ds u v)):=by
 refine(pw_and ha hb).imp fun σ H Q q=>l8 KB.g q λB H₀ Hs H1 env p sr hp=>?_;cases p with
 | true=>exact⟨B,H₀,Hs,env,sr,hp⟩
 | false=>exact hp Hs H1 (.refl sr.gr.sub)
theorem rR(ha:PT X a (tT E u))(hb:PW X (.BoolOp .Or (b::rest) pos) (tT E v)):PW X (.BoolOp .Or (a::b::rest) pos) (tT E (Ez u v)):=by
 refine(pw_or ha hb).imp fun σ H Q q=>l8 KB.g q λB H₀ Hs H1 env p sr hp=>?_;cases p with
 | true=>exact hp Hs H1 (.refl sr.gr.sub)
 | false=>exact⟨B,H₀,Hs,env,sr,hp⟩
def BH(f:ae->M PV):ae->M PV:=λenv=>(f env).bind λp=>(tN p).bind λb=>M.ok (.bl (!b))
def Bu(f g:ae->M PV):ae->M PV:=λenv=>(f env).bind λp=>(tN p).bind λb=>if b=true then g env else M.ok (.bl false)
def JM(f g:ae->M PV):ae->M PV:=λenv=>(f env).bind λp=>(tN p).bind λb=>if b=true then M.ok (.bl true) else g env
theorem yY(ha:PE X a (tE E f)):PE X (.UnaryOp .Not a pos) (tE E (BH f)):=by
 refine(CZ ha).imp fun σ H Q q=>bD (K:=g_ Q) g_.g q λB H₀ Hs H1 env p v sr rp hp=>?_;obtain⟨k,rfl,hp⟩:=aq.G3 (aq.bind hp);cases rp;exact⟨k,rfl,cT.flat hp sr.gr.sub (.bl _)⟩
theorem yc(ha:PE X a (tE E f))(hb:PE X (.BoolOp .And (b::rest) pos) (tE E g)):PE X (.BoolOp .And (a::b::rest) pos) (tE E (Bu f g)):=by
 refine(DF ha hb).imp fun σ H Q q=>bD (K:=g_ Q) g_.g q λB H₀ Hs H1 env p v sr rp hp=>?_;obtain⟨k,rfl,hp⟩:=aq.G3 (aq.bind hp);cases rp;refine⟨k,rfl,?_⟩;cases k with
 | true=>exact⟨B,H₀,Hs,env,sr,hp⟩
 | false=>exact cT.flat hp sr.gr.sub (.bl _)
def Hz(u:ae->M Bool)(f g:ae->M PV):ae->M PV:=λenv=>(u env).bind λb=>if b=true then f env else g env
def ao:ae->M (List PV):=λ_=>M.ok []
def aa(f:ae->M PV)(fs:ae->M (List PV)):ae->M (List PV):=λenv=>(f env).bind λp=>(fs env).bind λps=>M.ok (p::ps)
variable{fs:ae->M (List PV)}
theorem zw:PA X [] (tL E ao):=by
 refine iF.imp fun σ H Q q=>?_;obtain⟨B,H₀,Hs,env,sr,q⟩:=q;exact q [] Hs H (.refl sr.gr.sub) .nil
theorem uI(ha:PE X e (tE E f))(hr:PA X es (tL E fs))(hs:autoParam (starEach (e::es) X.env=(false,eval e X.env)::starEach es X.env) aR._auto_1):PA X (e::es) (tL E (aa f fs)):=by
 refine(c_ ha hr hs).imp fun σ H Q q=>bD (K:=KL Q) KL.g q λB H₀ Hs H1 env p v sr rp hp=>?_;refine⟨B,H₀,Hs,env,sr,(aq.bind hp).imp (λps Na vs J3 H' g r=>?_) λe he=>he⟩;exact Na (v::vs) J3 H' g (.cons (rp.mono g.st) r)
def cR(fs:ae->M (List PV)):ae->M PV:=λenv=>(fs env).bind λps=>cp (ps.length<=sizeLine) (M.ok (.tup ps))
def cO(fs:ae->M (List PV)):ae->M PV:=λenv=>(fs env).bind λps=>cp (ps.length<=sizeLine) (M.ok (.lst ps))
theorem DV(hr:PA X es (tL E fs)):PE X (.Tuple es x1 pos) (tE E (cR fs)):=by
 refine(yz hr).imp fun σ H Q q=>dP (K:=g_ Q) g_.g q λB H₀ Hs H1 env p v sr rp hp=>?_;obtain⟨hz,hp⟩:=aq.cp hp;exact⟨by rw[<- rp.length];exact hz,cT.tup hp sr.gr.sub rp⟩
theorem zY(hr:PA X es (tL E fs)):PE X (.List es pos) (tE E (cO fs)):=by
 refine(x_ hr).imp fun σ H Q q=>dP (K:=g_ Q) g_.g q λB H₀ Hs H1 env p v sr rp hp=>?_;obtain⟨hz,hp⟩:=aq.cp hp;exact⟨by rw[<- rp.length];exact hz,cT.lst hp sr.gr.sub rp⟩
def aj(o:List PV->M PV)(fs:ae->M (List PV)):ae->M PV:=λenv=>(fs env).bind o
def jH(E:St->XK)(r:List V->Hp->VK->Prop)(o:List PV->M PV):Prop:=∀ (σ:St) (Hs H:Hp) (ps:List PV) (vs:List V) (Q:VK),aX Hs H->aE Hs ps vs->aq (o ps) (cT Hs H Q) (XW (E σ) Hs H)->r vs H Q
theorem yx{o:List PV->M PV}{Q:VK}(hv:jH E r o)(q:tE E (aj o fs) σ H Q):ID r (tL E fs) σ H Q :=
 dP (K:=g_ Q) g_.g q λB H₀ Hs H1 env p v sr rp hp=>hv σ Hs H1 p v Q sr.gr.sub rp hp
variable{x:Str}{p:Pos}{id T:String}
theorem ir{o:List PV->M PV}(hc:cL X (.builtin id) r)(hv:jH E r o)(hg:Gl X x)(hm:X.mg x=none)(hx:bootBuiltins x=some (.builtin id))(ha:PA X (e::es) (tL E fs))(hn:autoParam (x ≠ "__name__") aD._auto_1)(KA:autoParam ((x==("__debug__" : Str))=false) aD._auto_1)
  (he:autoParam (starEach (e::es) X.env=(false,eval e X.env)::starEach es X.env) aR._auto_1) (Ka:autoParam ((backTo pos (starEach es X.env)).any (·.1)=false) aR._auto_1):PE X (.Call (.Name x p) (e::es) [] pos) (tE E (aj o fs)) :=
 (il hc hg hm hx ha hn KA he Ka).imp fun σ H Q q=>yx hv q
theorem oA{o:List PV->M PV}(hc:cL X (.type T) r)(hv:jH E r o)(hg:Gl X x)(hm:X.mg x=none)(hx:bootBuiltins x=some (.type T))(ha:PA X (e::es) (tL E fs))(hn:autoParam (x ≠ "__name__") aD._auto_1)(KA:autoParam ((x==("__debug__" : Str))=false) aD._auto_1)
  (he:autoParam (starEach (e::es) X.env=(false,eval e X.env)::starEach es X.env) aR._auto_1) (Ka:autoParam ((backTo pos (starEach es X.env)).any (·.1)=false) aR._auto_1):PE X (.Call (.Name x p) (e::es) [] pos) (tE E (aj o fs)) :=
 (oZ hc hg hm hx ha hn KA he Ka).imp fun σ H Q q=>yx hv q
end
variable{xs:List PV}
def aW:PV->Option (List PV)
 | .tup xs=>some xs
 | .lst xs=>some xs
 | .iw xs=>some xs
 | _=>none
theorem xa{K:Nr}(s:aX Hs H)(r:Rep Hs p v)(e:aW p=some xs):∃ a vs,v=.ref a/\(gc K H a vs\/ff K H a vs)/\aE Hs xs vs:=by
 cases r with
 | tup h r=>cases e;exact⟨_,_,rfl,.inr (ff.of (s _ _ h)),r⟩
 | lst h r=>cases e;exact⟨_,_,rfl,.inl (gc.of (s _ _ h)),r⟩
 | iw h r=>cases e;exact⟨_,_,rfl,.inl (.inl (.inr ⟨_,s _ _ h⟩)),r⟩
 | _=>cases e
def nW:PV->M PV
 | .str z=>cp (z.length<=sizeLine) (M.ok (.int z.length))
 | p=>eM ((aW p).map λxs=>.int xs.length)
def dz:List PV->M PV
 | [p]=>nW p
 | _=>none
theorem aE.one(r:aE H [p] vs):∃ v,vs=[v]/\Rep H p v:=by
 cases r with
 | cons h r=>cases r;exact⟨_,rfl,h⟩
theorem aE.two{q:PV}(r:aE H [p,q] vs):∃ v u,vs=[v,u]/\Rep H p v/\Rep H q u:=by
 cases r with
 | cons h r=>obtain⟨u,rfl,h2⟩:=r.one;exact⟨_,_,rfl,h,h2⟩
def CK(K:Nr):List V->Hp->VK->Prop:=λxs H Q=>(∃ p ys,xs=[.ref p]/\(gc K H p ys\/ff K H p ys)/\Q (.int ys.length) H)\/∃ z,xs=[.str z]/\z.length<=sizeLine/\Q (.int z.length) H
theorem v_:cL X (.builtin "len") (CK X.K):=cL.or p_ p4
theorem ES{K:Nr}:jH E (CK K) dz:=by
 intro σ Hs H ps vs Q s r h
 match ps,r with
 | [],_=>exact h.elim
 | _::_::_,_=>exact h.elim
 | [p],r =>
  obtain⟨v,rfl,rp⟩:=r.one;cases hp:aW p with
  | none =>
   cases p with
   | str z =>
    cases rp;obtain⟨hz,h⟩:=aq.cp h;exact .inr ⟨z,rfl,hz,cT.flat h s (.int _)⟩
   | tup _=>cases hp
   | lst _=>cases hp
   | iw _=>cases hp
   | _=>exact h.elim
  | some xs =>
   obtain⟨a,us,rfl,hq,hx⟩:=xa (K:=K) s rp hp;have h':aq (eM ((aW p).map λxs=>PV.int xs.length)) (cT Hs H Q) (XW (E σ) Hs H):=by
    cases p with
    | str z=>cases hp
    | _=>exact h
   rw[hp] at h';refine .inl ⟨a,us,rfl,hq,?_⟩;rw[<- hx.length];exact cT.flat h' s (.int _)
def FG:List PV->M PV
 | [p]=>eM ((aW p).map .lst)
 | _=>none
def cG:List PV->M PV
 | [p]=>eM ((aW p).map .tup)
 | _=>none
theorem xc{K:Nr}:jH E (λxs H Q=>∃ p ys,xs=[.ref p]/\((gc K H p ys/\∀ l,H l=none->Q (.ref l) (upd H l (.tup ys)))\/(ff K H p ys/\Q (.ref p) H))) cG:=by
 intro σ Hs H ps vs Q s r h
 match ps,r with
 | [],_=>exact h.elim
 | _::_::_,_=>exact h.elim
 | [p],r =>
  obtain⟨v,rfl,rp⟩:=r.one;obtain⟨x,ex,h⟩:=aq.opt h;obtain⟨xs,hp,rfl⟩:=NS.mp ex;cases rp with
  | tup ha hx=>cases hp;exact⟨_,_,rfl,.inr ⟨ff.of (s _ _ ha),cT.flat h s (.tup ha hx)⟩⟩
  | lst ha hx=>cases hp;exact⟨_,_,rfl,.inl ⟨gc.of (s _ _ ha),cT.tup h s hx⟩⟩
  | iw ha hx=>cases hp;exact⟨_,_,rfl,.inl ⟨.inl (.inr ⟨_,s _ _ ha⟩),cT.tup h s hx⟩⟩
  | _=>cases hp
def qR:List PV->Option (List Int)
 | []=>some []
 | .int i::r=>(qR r).map (i::·)
 | _=>none
def zE:List PV->Option (List Bool)
 | []=>some []
 | .bl i::r=>(zE r).map (i::·)
 | _=>none
theorem uW:∀ {ps:List PV} {ns:List Int},qR ps=some ns->ps=ns.map PV.int
 | [],_,e=>by cases e;rfl
 | .int i::r,_,e=>by
  obtain⟨ms,h1,rfl⟩:=NS.mp e;rw[uW h1];rfl
theorem wU:∀ {ps:List PV} {ns:List Bool},zE ps=some ns->ps=ns.map PV.bl
 | [],_,e=>by cases e;rfl
 | .bl i::r,_,e=>by
  obtain⟨ms,h1,rfl⟩:=NS.mp e;rw[wU h1];rfl
theorem oF:∀ (ns:List Int),qR (ns.map PV.int)=some ns
 | []=>rfl
 | n::r=>by show (qR (r.map PV.int)).map (n::·)=_;rw[oF r];rfl
theorem rZ:∀ (ns:List Bool),zE (ns.map PV.bl)=some ns
 | []=>rfl
 | n::r=>by show (zE (r.map PV.bl)).map (n::·)=_;rw[rZ r];rfl
def GR:PV->M PV
 | .lst xs=>eM ((qR xs).map λns=>.int ns.sum)
 | _=>none
def s_:List PV->M PV
 | [p]=>GR p
 | _=>none
theorem Fi{K:Nr}:jH E (λxs H Q=>∃ (a:Addr) (ns:List Int),xs=[.ref a]/\gc K H a (ns.map V.int)/\Q (.int ns.sum) H) s_:=by
 intro σ Hs H ps vs Q s r h
 match ps,r with
 | [],_=>exact h.elim
 | _::_::_,_=>exact h.elim
 | [p],r =>
  obtain⟨v,rfl,rp⟩:=r.one;cases rp with
  | lst ha hx =>
   obtain⟨x,ex,h⟩:=aq.opt h;obtain⟨ns,hn,rfl⟩:=NS.mp ex;rw[uW hn] at hx;exact⟨_,ns,rfl,hx.ints▸gc.of (s _ _ ha),cT.flat h s (.int _)⟩
  | _=>exact h.elim
def all1:PV->M PV
 | .lst xs=>eM ((zE xs).map λns=>.bl (ns.all id))
 | _=>none
def qx:List PV->M PV
 | [p]=>all1 p
 | _=>none
theorem Ey{K:Nr}:jH E (λxs H Q=>∃ (a:Addr) (bs:List Bool),xs=[.ref a]/\gc K H a (bs.map V.bl)/\Q (.bl (bs.all id)) H) qx:=by
 intro σ Hs H ps vs Q s r h
 match ps,r with
 | [],_=>exact h.elim
 | _::_::_,_=>exact h.elim
 | [p],r =>
  obtain⟨v,rfl,rp⟩:=r.one;cases rp with
  | lst ha hx =>
   obtain⟨x,ex,h⟩:=aq.opt h;obtain⟨ns,hn,rfl⟩:=NS.mp ex;rw[wU hn] at hx;exact⟨_,ns,rfl,hx.Jy▸gc.of (s _ _ ha),cT.flat h s (.bl _)⟩
  | _=>exact h.elim
def Hr(o:Int->Int->Int):PV->PV->M PV
 | .int i,.int j=>M.ok (.int (o i j))
 | _,_=>none
def rV(o:Int->Int->Int):List PV->M PV
 | [p,q]=>Hr o p q
 | _=>none
theorem uM{o:Int->Int->Int}:jH E (λxs H Q=>∃ i j,xs=[.int i,.int j]/\Q (.int (o i j)) H) (rV o):=by
 intro σ Hs H ps vs Q s r h
 match ps,r with
 | [],_=>exact h.elim
 | [_],_=>exact h.elim
 | _::_::_::_,_=>exact h.elim
 | [p,q],r =>
  obtain⟨v,u,rfl,rp,rq⟩:=r.two;cases rp with
  | int i=>cases rq with
   | int j=>exact⟨i,j,rfl,cT.flat h s (.int _)⟩
   | _=>exact h.elim
  | _=>exact h.elim
def fE(n:Nat)(sem:List PV->M PV):Sp:=λvs H Q E=>vs.length=n/\∃ Hs ps,aX Hs H/\aE Hs ps vs/\aq (sem ps) (cT Hs H Q) (XW E Hs H)
variable{Ld:List PV}
section
variable{sem:List PV->M PV}{x:Str}{p:Pos}{o:Expr}{fs:ae->M (List PV)}{g:ae->M PV}
theorem As(F:bj X.prog X.w X.K X.mg X.base (cD X.prog X.w) k f fd ps (fE n sem))(hr:bR k X.A)(hg:Gl X x)(hm:X.mg x=some (.ref f))(hk:Oi X.K (.ref f)=true)(hb:Binds X.K fd ps ds)(hd:Vals Kw ds)(hdp:∀ H,aE H Ld Kw)(O:d_ X E)
  (hl:∀ ps,sem (ps++Ld)≠none->ps.length+Ld.length=n)
  (ha:PA X (e::es) (tL E fs)) (KA:autoParam ((x==("__debug__" : Str))=false) aD._auto_1) (he:autoParam (starEach (e::es) X.env=(false,eval e X.env)::starEach es X.env) aR._auto_1) (Ka:autoParam ((backTo pos (starEach es X.env)).any (·.1)=false) aR._auto_1) :
  PE X (.Call (.Name x p) (e::es) [] pos) (tE E (aj (λps=>sem (ps++Ld)) fs)):=by
 refine(xD F hr hg hm hk hb hd O ha KA he Ka).imp fun σ H Q q=>dP (K:=g_ Q) g_.g q λB H₀ Hs H1 env Lf v sr rp hp=>?_;have r2:aE Hs (Lf++Ld) (v++Kw):=rp.append (hdp Hs);have hn:sem (Lf++Ld)≠none:=λz=>by rw[z] at hp;exact hp
 refine⟨?_,Hs,Lf++Ld,sr.gr.sub,r2,hp⟩;rw[<- r2.length,NO];exact hl Lf hn
def rX(ok:Addr->Bool)(f:Str)(g:ae->M PV):ae->M PV:=λenv=>(g env).bind λp=>match p with
 | .obj C fs=>cp (ok C=true) (eM (fs.lookup f))
 | _=>none
theorem D6{ok:Addr->Bool}{fl:Str}(he:PE X e (tE E g))(bw:∀ C,ok C=true->j4 X.K C/\bI X.K C fl)(hb:attributeBase e fl X.env (eval e X.env)=eval e X.env):PE X (.Attribute e fl pos) (tE E (rX ok fl g)):=by
 refine(CQ he hb).imp fun σ H Q q=>bD (K:=g_ Q) g_.g q λB H₀ Hs H1 env p v sr rp hp=>?_;cases rp with
 | obj ha hx =>
  obtain⟨hc,hp⟩:=aq.cp hp;obtain⟨x,ex,hp⟩:=aq.opt hp;obtain⟨u,h1,h2⟩:=hx.look ex;exact⟨_,_,_,_,u,rfl,sr.gr.sub _ _ ha,(bw _ hc).1,(bw _ hc).2,h1,cT.flat hp sr.gr.sub h2⟩
 | _=>exact hp.elim
def dF(C:Addr)(m:Str)(sem:List PV->M PV)(g:ae->M PV)(fs:ae->M (List PV)):ae->M PV:=λenv=>(g env).bind λp=>match p with
 | .obj C' fl=>cp (C'=C/\fl.lookup m=none) ((fs env).bind λps=>sem (.obj C' fl::ps))
 | _=>none
theorem Ak(he:PE X o (tE E g))(c:j4 X.K C)(hm:Meth X.K C m f)(F:bj X.prog X.w X.K X.mg X.base (cD X.prog X.w) k f fd ps (fE n sem))(hr:bR k X.A)(hb:Binds X.K fd ps [])(O:d_ X E)(hl:∀ ps,sem ps≠none->ps.length=n)(ha:PA X (e::es) (tL E fs))
  (Kx:autoParam (starEach (e::es) X.env=(false,eval e X.env)::starEach es X.env) aR._auto_1) (Ka:autoParam ((backTo pos (starEach es X.env)).any (·.1)=false) aR._auto_1)
  (ht:autoParam (eval (.Call (.Attribute o m apos) (e::es) [] pos) X.env=(do
   let ov <- eval o X.env
   standAt apos.atName
   let (f,first) <- holding [ov] (getMethod ov m pl)
   callWith pos f first (backTo pos (starEach (e::es) X.env)) (backToKw pos (keywordEach [] X.env)))) aR._auto_1) :
  PE X (.Call (.Attribute o m apos) (e::es) [] pos) (tE E (dF C m sem g fs)):=by
 refine(yb he c hm F hr hb .nil O ha Kx Ka ht).imp fun σ H Q q=>bD (K:=g_ Q) g_.g q λB H₀ Hs H1 env p v sr rp hp=>?_;cases rp with
 | @obj a C' dx fl fvs ho hx =>
  obtain⟨⟨e1,hn⟩,Fs⟩:=aq.cp hp;subst e1;refine⟨a,dx,fvs,rfl,sr.gr.sub _ _ ho,hx.none hn,B,H₀,Hs,env,sr,(aq.bind Fs).imp (λLf Na vs J3 H' g' r=>?_) λe he=>he⟩;have r2:aE J3 (.obj C' fl::Lf) (V.ref a::(vs++[])):=by rw[Og];exact .cons ((Rep.obj ho hx).mono g'.st) r
  have hn:sem (.obj C' fl::Lf)≠none:=λz=>by rw[z] at Na;exact Na
  refine⟨by rw[<- r2.length];exact hl _ hn,J3,_,g'.sub,r2,Na.imp (λz hz w J5 H2 g2 r2=>hz w J5 H2 (g'.trans g2) r2) λe he=>he.grow g'⟩
 | _=>exact hp.elim
theorem wN(he:PE X o (tE E g))(c:j4 X.K C)(hm:Meth X.K C m f)(F:bj X.prog X.w X.K X.mg X.base (cD X.prog X.w) k f fd ps (fE n sem))(hr:bR k X.A)(hb:Binds X.K fd ps [])(O:d_ X E)(hl:∀ ps,sem ps≠none->ps.length=n)
  (ht:autoParam (eval (.Call (.Attribute o m apos) [] [] pos) X.env=(do
   let ov <- eval o X.env
   standAt apos.atName
   let (f,first) <- holding [ov] (getMethod ov m pl)
   callWith pos f first (backTo pos (starEach [] X.env)) (backToKw pos (keywordEach [] X.env)))) aR._auto_1) :
  PE X (.Call (.Attribute o m apos) [] [] pos) (tE E (dF C m sem g ao)):=by
 refine(vi he c hm F hr hb .nil O ht).imp fun σ H Q q=>bD (K:=g_ Q) g_.g q λB H₀ Hs H1 env p v sr rp hp=>?_;cases rp with
 | @obj a C' dx fl fvs ho hx =>
  obtain⟨⟨e1,hn⟩,Fs⟩:=aq.cp hp;subst e1;have r2:aE Hs [.obj C' fl] [V.ref a]:=.cons (Rep.obj ho hx) .nil;have M8:sem [.obj C' fl]≠none:=λz=>by
   have My:aq (sem [.obj C' fl]) (cT Hs H1 Q) (XW (E σ) Hs H1):=Fs;rw[z] at My;exact My
  exact⟨a,dx,fvs,rfl,sr.gr.sub _ _ ho,hx.none hn,by rw[show ([]:List V)++[]=[] from rfl];exact r2.length▸hl _ M8,Hs,_,sr.gr.sub,r2,Fs⟩
 | _=>exact hp.elim
end
inductive Out where
 | nx (env:ae) | rt (p:PV) | bk (env:ae) | ct (env:ae)
def KS(D:Ends)(B H₀:Hp):Out->Prop
 | .nx env=>∀ σ Hs H,SR B H₀ Hs H σ env->D.nx σ H
 | .rt p=>∀ v Hs H,bc B H₀ Hs H->Rep Hs p v->D.rt v H
 | .bk env=>∀ σ Hs H,SR B H₀ Hs H σ env->D.bk σ H
 | .ct env=>∀ σ Hs H,SR B H₀ Hs H σ env->D.ct σ H
def tS(E:XK)(f:ae->M Out):TS:=λD σ H=>∃ B H₀ Hs env,SR B H₀ Hs H σ env/\aq (f env) (KS D B H₀) (XW E B H₀)
theorem PS.imp{st:Stmt}{t t':TS}(h:PS X st t)(i:∀ D σ H,t' D σ H->t D σ H):PS X st t':=λJ0 s σ H D I q=>h J0 s σ H D I (i D σ H q)
theorem iG.imp{st:List Stmt}{t t':TS}(h:iG X st t)(i:∀ D σ H,t' D σ H->t D σ H):iG X st t':=λJ0 s σ H D I q=>h J0 s σ H D I (i D σ H q)
def ay:ae->M Out:=λenv=>M.ok (.nx env)
def xt(g:ae->M Out):Out->M Out
 | .nx env=>g env
 | o=>M.ok o
noncomputable def aw(f g:ae->M Out):ae->M Out:=λenv=>(f env).bind (xt g)
theorem gq{E:XK}{f:ae->M PV}{g:ae->PV->M Out}{D:Ends}{R:VK}(h:tS E (λenv=>(f env).bind (g env)) D σ H)
  (k:∀ B H₀ Hs H1 env p v,SR B H₀ Hs H1 σ env->Rep Hs p v->aq (g env p) (KS D B H₀) (XW E B H₀)->R v H1):tE (λ_=>E) f σ H R:=by
 obtain⟨B,H₀,Hs,env,sr,h⟩:=h;refine⟨B,H₀,Hs,env,sr,(aq.bind h).imp (λp hp v J3 H' g r=>?_) λe he=>he.grow sr.gr⟩;exact k B H₀ J3 H' env p v (sr.grow g) r hp
theorem xE{E:XK}{f:ae->M Bool}{g:ae->Bool->M Out}{D:Ends}{R:Bool->Hp->Prop}(h:tS E (λenv=>(f env).bind (g env)) D σ H)
  (k:∀ B H₀ Hs H1 env p,SR B H₀ Hs H1 σ env->aq (g env p) (KS D B H₀) (XW E B H₀)->R p H1):tT (λ_=>E) f σ H R:=by
 obtain⟨B,H₀,Hs,env,sr,h⟩:=h;refine⟨B,H₀,Hs,env,sr,(aq.bind h).imp (λp hp J3 H' g=>?_) λe he=>he.grow sr.gr⟩;exact k B H₀ J3 H' env p (sr.grow g) hp
theorem lM{E:XK}{f:ae->M (List PV)}{g:ae->List PV->M Out}{D:Ends}{R:List V->Hp->Prop}(h:tS E (λenv=>(f env).bind (g env)) D σ H)
  (k:∀ B H₀ Hs H1 env p v,SR B H₀ Hs H1 σ env->aE Hs p v->aq (g env p) (KS D B H₀) (XW E B H₀)->R v H1):tL (λ_=>E) f σ H R:=by
 obtain⟨B,H₀,Hs,env,sr,h⟩:=h;refine⟨B,H₀,Hs,env,sr,(aq.bind h).imp (λp hp v J3 H' g r=>?_) λe he=>he.grow sr.gr⟩;exact k B H₀ J3 H' env p v (sr.grow g) r hp
theorem SR.set{B H₀ Hs H:Hp}{σ:St}{env:ae}{p:PV}{v:V}{i:Nat}(r:SR B H₀ Hs H σ env)(h:Rep Hs p v):SR B H₀ Hs H (σ.set i (some v)) (env.set i (some (.sh p))) :=
 r.chg r.gr (λ_ _ q=>q) (λ_ e=>by cases e;exact⟨v,rfl,h⟩) (λ_ _ _ _ _ _ _ _ h1 h2 _=>⟨h1,h2⟩) λ_ e o=>by cases e;cases o
theorem SR.own{B:Hp}{env:ae}{p:Addr}(r:SR B H₀ Hs H σ env)(h:aE Hs xs vs)(n:H p=none):SR B H₀ Hs (upd H p (.lst vs)) (σ.set i (some (.ref p))) (env.set i (some (.ow xs))) :=
 r.chg (r.gr.kS (r.free n).1 (r.free n).2) (λ_ _ q=>q) (λ_ e=>by cases e;exact⟨_,rfl,p,vs,rfl,az,(r.free n).1,(r.free n).2,h⟩) (λ_ _ a u _ _ _ _ h1 h2 _=>⟨by rw[av (λz=>by rw[z,n] at h1;cases h1)];exact h1,h2⟩) λ_ _ _ k z _=>r.held n k z
def lX(i:Nat)(env:ae):ae:=match env[i]? with
 | some (some (.ow xs))=>env.set i (some (.sh (.lst xs)))
 | _=>env
theorem SR.Ft{B:Hp}{env:ae}(r:SR B H₀ Hs H σ env)(e:env[i]?=some (some (.ow xs))):∃ a vs,Hs a=none/\H a=some (.lst vs)/\SR B H₀ (upd Hs a (.lst vs)) H σ (env.set i (some (.sh (.lst xs))))/\aX Hs (upd Hs a (.lst vs)):=by
 obtain⟨a,vs,h1,h2,h3,h4,h5⟩:=r.ow i xs e;obtain⟨g,st⟩:=r.gr.into h2 h3 h4;refine⟨a,vs,h3,h2,r.E8 h1 g st (λ_ q=>by cases q;exact⟨_,rfl,.lst az (h5.mono st)⟩) (λj y b u n ej o z q1 q2 _=>⟨q1,by rw[av (λw=>by subst w;exact r.ap i j _ y b n e ej rfl o h1 z)];exact q2⟩) λ_ q o=>(by cases q;cases o),st⟩
theorem SR.ny{B:Hp}{env:ae}(i:Nat)(r:SR B H₀ Hs H σ env):∃ J3,SR B H₀ J3 H σ (lX i env)/\aX Hs J3:=by
 unfold lX
 split
 .obtain⟨a,vs,_,_,h⟩:=r.Ft (by assumption);exact⟨_,h⟩
 .exact⟨Hs,r,λ_ _ q=>q⟩
def ly(is:List Nat)(f:ae->M Out):ae->M Out:=λenv=>f (is.foldl (λe i=>lX i e) env)
theorem SR.jj{B H₀ H:Hp}{σ:St}:∀ {is:List Nat} {Hs:Hp} {env:ae},SR B H₀ Hs H σ env->∃ J3,SR B H₀ J3 H σ (is.foldl (λe i=>lX i e) env)/\aX Hs J3
 | [],Hs,_,r=>⟨Hs,r,λ_ _ q=>q⟩
 | i::is,_,_,r=>by
  obtain⟨J6,r1,s1⟩:=r.ny i;obtain⟨J5,r2,s2⟩:=SR.jj (is:=is) r1;exact⟨J5,r2,λc u q=>s2 c u (s1 c u q)⟩
section
variable{E:XK}{f:ae->M PV}{st:Stmt}{sts rest:List Stmt}{u:ae->M Bool}{g h:ae->M Out}{x:Str}
theorem CV(is:List Nat)(hs:PS X st (tS E g)):PS X st (tS E (ly is g)):=hs.imp λD σ H q=>by
 obtain⟨B,H₀,Hs,env,sr,q⟩:=q;obtain⟨J3,r,_⟩:=sr.jj (is:=is);exact⟨B,H₀,J3,_,r,q⟩
theorem Bi:iG X [] (tS E ay):=qp.imp λD σ H q=>by
 obtain⟨B,H₀,Hs,env,sr,q⟩:=q;exact q σ Hs H sr
theorem yl(h1:PS X st (tS E g))(h2:iG X rest (tS E h)):iG X (st::rest) (tS E (aw g h)):=by
 refine(gz h1 h2).imp λD σ H q=>?_;obtain⟨B,H₀,Hs,env,sr,q⟩:=q;refine⟨B,H₀,Hs,env,sr,(aq.bind q).imp (λo ho=>?_) λe he=>he⟩;cases o with
 | nx J2=>exact fun σ' J3 H' K5=>⟨B,H₀,J3,J2,K5,ho⟩
 | rt p=>exact ho
 | bk J2=>exact ho
 | ct J2=>exact ho
def cq(i:Nat)(f:ae->M PV):ae->M Out:=λenv=>(f env).bind λp=>M.ok (.nx (env.set i (some (.sh p))))
theorem DQ(hN:X.N.Nodup)(hi:X.N[i]?=some x)(hx:Loc X.env.scope x)(he:PE X e (tE (λ_=>E) f))(hs:autoParam (swapsWith e (some (.Name x pos')) pos.line X.env=pure false) aR._auto_1)(hf:autoParam (X.fn x=true\/X.env.scope.names.lookup x=some .local) aF._auto_1) :
  PS X (.Assign [.Name x pos'] e pos) (tS E (cq i f)) :=
 (tw hN hi hx he hs hf).imp λD σ H q=>gq q λB H₀ Hs H1 env p v sr rp hp=>hp _ Hs H1 (sr.set rp)
def retS(f:ae->M PV):ae->M Out:=λenv=>(f env).bind λp=>M.ok (.rt p)
theorem C1(he:PE X e (tE (λ_=>E) f)):PS X (.Return (some e) pos) (tS E (retS f)) :=
 (wK he).imp λD σ H q=>gq q λB H₀ Hs H1 env p v sr rp hp=>hp v Hs H1 sr.gr rp
def jA(f:ae->M PV):ae->M Out:=λenv=>(f env).bind λ_=>M.ok (.nx env)
theorem Bp(he:PE X e (tE (λ_=>E) f))(hs:autoParam (swapsWith e none pos.line X.env=pure false) aR._auto_1):PS X (.Expr e pos) (tS E (jA f)) :=
 (lF he hs).imp λD σ H q=>gq q λB H₀ Hs H1 env p v sr rp hp=>hp σ Hs H1 sr
def kF(u:ae->M Bool)(g h:ae->M Out):ae->M Out:=λenv=>(u env).bind λb=>if b=true then g env else h env
theorem FP{c:Expr}{a b:List Stmt}(hc:PT X c (tT (λ_=>E) u))(ha:iG X a (tS E g))(hb:iG X b (tS E h)):PS X (.If c a b pos) (tS E (kF u g h)):=by
 refine(Ca hc ha hb).imp λD σ H q=>xE q λB H₀ Hs H1 env p sr hp=>?_;cases p with
 | true=>exact⟨B,H₀,Hs,env,sr,hp⟩
 | false=>exact⟨B,H₀,Hs,env,sr,hp⟩
end
def ov(Hs H₀:Hp):Hp:=λa=>match Hs a with
 | some o=>some o
 | none=>H₀ a
theorem qk(h:Hs a=some o):ov Hs H₀ a=some o:=by unfold ov;rw[h]
theorem jz(h:Hs a=none):ov Hs H₀ a=H₀ a:=by unfold ov;rw[h]
theorem Bo(s:aX Hs H)(t:aX H₀ H):aX (ov Hs H₀) H:=λa o e=>by
 cases q:Hs a with
 | some o'=>rw[qk q] at e;cases e;exact s _ _ q
 | none=>rw[jz q] at e;exact t _ _ e
theorem SR.rebase{B:Hp}{env:ae}(r:SR B H₀ Hs H σ env):SR Hs (ov Hs H₀) Hs H σ env :=
 r.mv ⟨λ_ _ e=>e,Bo r.gr.sub r.gr.al,r.gr.sub,λ_ _ e _ _=>e⟩ r.len (λ_ _ q=>q) λ_ _ e=>⟨e,rfl,λa u _ _ h1 h2 h3 _=>⟨h1,h2,by rw[jz h2];exact h3⟩⟩
theorem bc.jq{B J5 H2:Hp}(g:bc B H₀ Hs H)(g2:bc Hs (ov Hs H₀) J5 H2):bc B H₀ J5 H2 where
 st:=λa o e=>g2.st a o (g.st a o e)
 al:=λa o e=>by
  cases q:Hs a with
  | some o' =>
   have h1:=g.sub a o' q;have h2:=g.al a o e;rw[h1] at h2;cases h2;exact g2.al a _ (qk q)
  | none=>exact g2.al a o (by rw[jz q];exact e)
 sub:=g2.sub
 nw:=λa o e q t=>by
  have h1:=g.nw a o e q t;exact g2.nw a o h1 (by rw[jz h1];exact q) t
theorem SR.jq{B H₀ Hs H J5 H2:Hp}{σ:St}{env:ae}(g:bc B H₀ Hs H)(r:SR Hs (ov Hs H₀) J5 H2 σ env):SR B H₀ J5 H2 σ env :=
 r.mv (g.jq r.gr) r.len (λ_ _ q=>q) λ_ _ e=>⟨e,rfl,λa u _ _ h1 h2 h4 _=>⟨h1,h2,by
  cases q:Hs a with
  | some o=>rw[qk q] at h4;cases h4
  | none=>rw[jz q] at h4;exact h4⟩⟩
theorem XW.rebase{E:XK}{B:Hp}(g:bc B H₀ Hs H){x:EX}(h:XW E B H₀ x):XW E Hs (ov Hs H₀) x:=λea J5 H2 r q=>h ea J5 H2 (g.jq r) q
def yU(k:ae->M Out):Out->M Out
 | .nx env=>k env
 | .ct env=>k env
 | .bk env=>M.ok (.nx env)
 | .rt p=>M.ok (.rt p)
def fm(set:PV->ae->M ae)(body:ae->M Out):List PV->ae->M Out
 | [],env=>M.ok (.nx env)
 | x::xs,env=>(set x env).bind λJ2=>(body J2).bind (yU (fm set body xs))
def wJ(E:XK)(g:TG)(set:PV->ae->M ae):Prop:=∀ (B H₀ Hs H:Hp) (σ:St) (env:ae) (p:PV) (v:V) (Q:St->Hp->Prop) (Z:EX->Prop),SR B H₀ Hs H σ env->Rep Hs p v->aq (set p env) (λJ2=>∀ σ',SR B H₀ Hs H σ' J2->Q σ' H) Z->g v σ H Q
def e6(i:Nat)(p:PV)(env:ae):M ae:=M.ok (env.set i (some (.sh p)))
theorem dq{E:XK}:wJ E (aL i) (e6 i):=λB H₀ Hs H σ env p v Q Z sr r h=>h _ (sr.set r)
def bM(i j:Nat):PV->ae->M ae
 | .tup [p,q],env=>M.ok ((env.set i (some (.sh p))).set j (some (.sh q)))
 | _,_=>none
theorem cv{E:XK}{K:Nr}:wJ E (fy K 2 (bp (aL i) (bp (aL j) fF))) (bM i j):=by
 intro B H₀ Hs H σ env p v Q Z sr r h;cases r with
 | @tup a xs vs ha hx =>
  match xs,hx with
  | [p,q],hx =>
   obtain⟨v,u,rfl,rp,rq⟩:=hx.two;exact⟨a,[v,u],rfl,ff.of (sr.gr.sub _ _ ha),rfl,v,[u],rfl,u,[],rfl,rfl,h _ ((sr.set rp).set rq)⟩
  | [],_=>exact h.elim
  | [_],_=>exact h.elim
  | _::_::_::_,_=>exact h.elim
 | _=>exact h.elim
section
variable{E:XK}{g:TG}{set:PV->ae->M ae}{body:ae->M Out}{D:Ends}{B:Hp}
def Jv(E:XK)(set:PV->ae->M ae)(body:ae->M Out)(D:Ends)(B H₀ J6:Hp)(xs:List PV)(i:Nat)(σ:St)(H:Hp):Prop:=∃ Hs env,SR B H₀ Hs H σ env/\aX J6 Hs/\aq (fm set body (xs.drop i) env) (KS D B H₀) (XW E B H₀)
theorem Jv.done(j:Jv E set body D B H₀ J6 xs n σ H)(hn:xs.length<=n):D.nx σ H:=by
 obtain⟨Hs,env,sr,_,h⟩:=j;rw[P7 hn] at h;exact h σ Hs H sr
theorem Jv.turn{H1 Hx:Hp}{x:PV}(tg:wJ E g set)(hx:xs[i]?=some x){env:ae}(sr:SR B H₀ Hs H σ env)(s1:aX J6 Hs)(h:aq (fm set body (xs.drop i) env) (KS D B H₀) (XW E B H₀)){J5 H2:Hp}(gr:bc Hs H J5 H2)(rv:Rep J5 x v) :
  g v σ H2 fun σ2 H3=>tS E body { D with nx:=Jv E set body D B H₀ J6 xs (i+1),ct:=Jv E set body D B H₀ J6 xs (i+1),bk:=D.nx } σ2 H3:=by
 have KW:i<xs.length:=(N8.mp hx).1;have hd:xs.drop i=x::xs.drop (i+1):=by
  rw[Py KW];rw[Nt KW] at hx;rw[NQ hx]
 rw[hd] at h;have Kg:=sr.grow gr;refine tg B H₀ J5 H2 σ env x v _ _ Kg rv ((aq.bind h).imp (λJ2 h' σ' K5=>?_) λ_ z=>z);refine⟨J5,ov J5 H₀,J5,J2,K5.rebase,(aq.bind h').imp (λo ho=>?_) λe he=>he.rebase K5.gr⟩;cases o with
 | nx e2=>exact fun σ3 Lb H3 r=>⟨Lb,e2,r.jq K5.gr,λa o z=>r.gr.st a o (gr.st a o (s1 a o z)),ho⟩
 | ct e2=>exact fun σ3 Lb H3 r=>⟨Lb,e2,r.jq K5.gr,λa o z=>r.gr.st a o (gr.st a o (s1 a o z)),ho⟩
 | bk e2=>exact fun σ3 Lb H3 r=>ho σ3 Lb H3 (r.jq K5.gr)
 | rt p=>exact λv3 Lb H3 r q=>ho v3 Lb H3 (K5.gr.jq r) q
end
def jy(it:ae->M (List PV))(set:PV->ae->M ae)(body:ae->M Out):ae->M Out:=λenv=>(it env).bind λxs=>fm set body xs env
def itemsOf(f:ae->M PV):ae->M (List PV):=λenv=>(f env).bind λp=>match aW p with | some xs=>M.ok xs | none=>none
theorem iI{K:Nr}(s:aX Hs H)(r:Rep Hs p v)(e:aW p=some xs):∃ b a vs,v=.ref a/\(∀ J3 H',aX Hs J3->aX J3 H'->i6 K H' b a vs)/\aE Hs xs vs:=by
 cases r with
 | tup h r=>cases e;exact⟨false,_,_,rfl,λJ3 H' s1 s2=>ff.of (s2 _ _ (s1 _ _ h)),r⟩
 | lst h r=>cases e;exact⟨true,_,_,rfl,λJ3 H' s1 s2=>gc.of (s2 _ _ (s1 _ _ h)),r⟩
 | iw h r=>cases e;exact⟨true,_,_,rfl,λJ3 H' s1 s2=>.inl (.inr ⟨_,s2 _ _ (s1 _ _ h)⟩),r⟩
 | _=>cases e
section
variable{E:XK}{p:Pos}{f f2:ae->M PV}{g:TG}{set:PV->ae->M ae}{body:ae->M Out}{bd:List Stmt}
end
def Jf:PV->M (List PV)
 | .int n=>cp (-(2^62)<=n/\n<2^62) (M.ok ((Oz n.toNat).map λ(i:Nat)=>.int (0+(i:Int))))
 | _=>none
def sP:List PV->M (List PV)
 | [p]=>Jf p
 | _=>none
variable{Z:EX->Prop}
theorem v9{ps:List PV}{k:List PV->M α}{Q:α->Prop}(h:aq ((sP ps).bind k) Q Z):∃ n:Int,ps=[.int n]/\-(2^62)<=n/\n<2^62/\aq (k ((Oz n.toNat).map λ(i:Nat)=>.int (0+(i:Int)))) Q Z:=by
 match ps with
 | []=>exact h.elim
 | _::_::_=>exact h.elim
 | [p] =>
  cases p with
  | int n =>
   obtain⟨hc,h⟩:=aq.cp (aq.bind h);exact⟨n,rfl,hc.1,hc.2,h⟩
  | _=>exact h.elim
def zip2:List PV->M (List PV)
 | [p,q]=>match aW p,aW q with
  | some xs,some ys=>M.ok (Ss (λa b=>.tup [a,b]) xs ys)
  | _,_=>none
 | _=>none
theorem vz{ps:List PV}{k:List PV->M α}{Q:α->Prop}(h:aq ((zip2 ps).bind k) Q Z):∃ p q xs ys,ps=[p,q]/\aW p=some xs/\aW q=some ys/\aq (k (Ss (λa b=>.tup [a,b]) xs ys)) Q Z:=by
 match ps with
 | []=>exact h.elim
 | [_]=>exact h.elim
 | _::_::_::_=>exact h.elim
 | [p,q] =>
  unfold zip2 at h;dsimp only at h;cases e1:aW p with
  | none=>rw[e1] at h;exact h.elim
  | some xs =>
   cases e2:aW q with
   | none=>rw[e1,e2] at h;exact h.elim
   | some ys=>rw[e1,e2] at h;exact⟨p,q,xs,ys,rfl,e1,e2,h⟩
theorem v8{f:Nat->PV}(h:i<n):((Oz n).map f)[i]?=some (f i):=by
 rw[NT,S7 h];rfl
section
variable{E:XK}{a b l l1 l2:Expr}{p tp:Pos}{fs:ae->M (List PV)}{g:TG}{set:PV->ae->M ae}{body:ae->M Out}{bd:List Stmt}
end
def KO(Q:VK):Hp->Hp->List PV->Prop:=λHs H ps=>∀ vs p J3 H',bc Hs H J3 H'->aE J3 ps vs->H' p=none->Q (.ref p) (upd H' p (.lst vs))
def tO(E:St->XK)(f:ae->M (List PV)):TE:=fun σ H Q=>tG E f (KO Q) σ H
variable{px:Pos}
section
variable{E:XK}{fs:ae->M (List PV)}{f:ae->M PV}{x:Str}
def k9(i:Nat)(f:ae->M (List PV)):ae->M Out:=λenv=>(f env).bind λps=>M.ok (.nx (env.set i (some (.ow ps))))
theorem A6(hN:X.N.Nodup)(hi:X.N[i]?=some x)(hx:Loc X.env.scope x)(he:PE X e (tO (λ_=>E) fs))(hs:autoParam (swapsWith e (some (.Name x pos')) pos.line X.env=pure false) aR._auto_1)(hf:autoParam (X.fn x=true\/X.env.scope.names.lookup x=some .local) aF._auto_1) :
  PS X (.Assign [.Name x pos'] e pos) (tS E (k9 i fs)):=by
 refine(tw hN hi hx he hs hf).imp λD σ H q=>?_;obtain⟨B,H₀,Hs,env,sr,q⟩:=q;refine⟨B,H₀,Hs,env,sr,(aq.bind q).imp (λps hp vs p J3 H' g r n=>?_) λe he=>he.grow sr.gr⟩;exact hp _ J3 _ ((sr.grow g).own r n)
def fJ(fs:ae->M (List PV)):ae->M (List PV):=λenv=>(fs env).bind λps=>if ps.length<=sizeLine then M.ok ps else none
theorem De{E:St->XK}(hr:PA X es (tL E fs)):PE X (.List es pos) (tO E (fJ fs)):=by
 refine(x_ hr).imp fun σ H Q q=>?_;obtain⟨B,H₀,Hs,env,sr,q⟩:=q;refine⟨B,H₀,Hs,env,sr,(aq.bind q).imp (λps hp vs J3 H' g r=>?_) λe he=>he⟩
 by_cases hz:ps.length<=sizeLine
 .rw[if_pos hz] at hp;exact⟨by rw[<- r.length];exact hz,λp n=>hp vs p J3 H' g r n⟩
 .rw[if_neg hz] at hp;exact hp.elim
def o3(f:ae->M PV):ae->M (List PV):=itemsOf f
def k8(i:Nat)(f:ae->M PV):ae->M Out:=λenv=>match env[i]? with
 | some (some (.ow xs))=>(f env).bind λp=>if xs.length<sizeLine then M.ok (.nx (env.set i (some (.ow (xs++[p]))))) else none
 | _=>none
theorem SR.put{B:Hp}{env:ae}{ys:List PV}{us:List V}(r:SR B H₀ Hs H σ env)(e:env[i]?=some (some (.ow xs)))(hi:σ[i]?=some (some (.ref a)))(h:aE Hs ys us):SR B H₀ Hs (upd H a (.lst us)) σ (env.set i (some (.ow ys))):=by
 obtain⟨a',vs,h1,h2,h3,h4,h5⟩:=r.ow i xs e;rw[hi] at h1;cases h1;exact r.E8 hi (r.gr.kS h3 h4) (λ_ _ q=>q) (λ_ q=>by cases q;exact⟨_,rfl,a,us,rfl,az,h3,h4,h⟩) (λj y b u n ej o z q1 q2 _=>⟨by rw[av (λw=>by subst w;exact r.ap i j _ y b n e ej rfl o hi z)];exact q1,q2⟩) λ_ _ _ k z n ek o=>r.ap i k _ z a n e ek rfl o hi
theorem vE(hi:X.N[i]?=some x)(hv:z8 X.env.scope x)(he:PE X e (tE (λ_=>E) f))(hd:autoParam ((x==("__debug__" : Str))=false) aD._auto_1)(KC:autoParam ((x==("__classdict__" : Str))=false) aD._auto_1)
  (Ll:autoParam (attributeBase (.Name x px) "append" X.env (eval (.Name x px) X.env)=eval (.Name x px) X.env) aR._auto_1)
  (MB:autoParam (((backTo J9 (starEach [e] X.env)).all (λx=>!x.1)&&(backToKw J9 (keywordEach [] X.env)).all (λx=>x.1.isSome)
   && decide (([e]:List Expr).length+([]:List Keyword).length+(if ([]:List Keyword).isEmpty then 0 else 1)<30))=true) aR._auto_1)
  (Lm:autoParam ((apos.endLine==J9.line)=true) aR._auto_1) (Kx:autoParam (starEach [e] X.env=(false,eval e X.env)::starEach [] X.env) aR._auto_1) (Lx:autoParam ((backTo J9 (starEach [] X.env)).any (·.1)=false) aR._auto_1)
  (hs:autoParam (swapsWith (.Call (.Attribute (.Name x px) "append" apos) [e] [] J9) none pos.line X.env=pure false) aR._auto_1) :
  PS X (.Expr (.Call (.Attribute (.Name x px) "append" apos) [e] [] J9) pos) (tS E (k8 i f)):=by
 refine(lF (Gm Sh PySem.F.slot_list_append PySem.F.type_list_append oK (ji hi hv hd KC) (c_ he iF Kx) Ll MB Lm Kx Lx) hs).imp λD σ H q=>?_;obtain⟨B,H₀,Hs,env,sr,q⟩:=q;unfold k8 at q
 split at q
 .rename_i xs ex;obtain⟨a,vs,h1,h2,h3,h4,h5⟩:=sr.ow i xs ex;refine⟨.ref a,h1,.inl ⟨rfl,vs,gc.of h2⟩,B,H₀,Hs,env,sr,(aq.bind q).imp (λp hp v J3 H' g r=>?_) λe he=>he.grow sr.gr⟩
  by_cases hz:xs.length<sizeLine
  .rw[if_pos hz] at hp;have K5:=sr.grow g;have r5:aE J3 (xs++[p]) (vs++[v]):=(h5.mono g.st).snoc r;exact⟨a,vs,v,rfl,rfl,g.al _ _ h2,by rw[<- h5.length];exact hz,hp σ J3 _ (K5.put ex h1 r5)⟩
  .rw[if_neg hz] at hp;exact hp.elim
 .exact q.elim
end
def Ei:Out->M PV
 | .rt p=>M.ok p
 | .nx _=>M.ok .bz
 | _=>none
def jx(m:Nat)(ps:List PV):ae:=ps.map (λp=>some (.sh p))++Nv (m-ps.length) none
def ba(m:Nat)(g:ae->M Out)(ps:List PV):M PV:=(g (jx m ps)).bind Ei
theorem SR.start{Hs H:Hp}{N:List Str}{ps:List PV}{vs:List V}(s:aX Hs H)(r:aE Hs ps vs):SR Hs H Hs H (start N vs) (jx N.length ps):=by
 have key:∀ (i:Nat) (x:SV),(jx N.length ps)[i]?=some (some x)->∃ p v,x=.sh p/\(L2.start N vs)[i]?=some (some v)/\Rep Hs p v:=λi x e=>by
  unfold jx at e;unfold L2.start
  by_cases hi:i<ps.length
  .rw[N9 (by simpa using hi),NT,Nt hi] at e;cases e;obtain⟨v,h1,h2⟩:=r.get (Nt hi);exact⟨_,v,rfl,by rw[N9 (by simpa using (r.length▸hi)),NT,h1];rfl,h2⟩
  .rw[N2 (by simpa using hi),QI] at e
   split at e <;> cases e
 exact⟨.refl s,by unfold L2.start jx;simp[r.length],λi x e=>by obtain⟨p,v,rfl,h⟩:=key i x e;exact⟨v,h⟩,λi j x y a _ e _ o=>by obtain⟨p,v,rfl,h⟩:=key i x e;cases o⟩
theorem Dj{K:Nr}{dV kV doc pm J8 ct oc:Value}{g:ae->M Out}(lk:K.lookup f=some ⟨oc,od,.func (OE name qual params body scope dV kV doc pm an J8 ct),LW⟩)(KC:O9 K J8 qual=true)(S:bx N ps scope)
  (hb:∀ (A:Around) (outer:List Env) (s:Shared) (H:Hp) (E:XK),bR k (A.deeper (envOfC qual scope s.heap.objs.size f J8))->iG ((jh (cD P w) P w K mg base N qual scope f J8 A outer s H E).out λ_=>E) body (tS E g)) :
  bj P w K mg base (cD P w) (k+1) f (OE name qual params body scope dV kV doc pm an J8 ct) ps (fE ps.length (ba N.length g)):=by
 refine t_ lk KC S (λvs H Q E h=>h.1) λA outer s H vs Q E hr hs=>⟨_,hb A outer s H E hr,?_⟩
 obtain⟨_,Hs,Lf,sm,r,h⟩:=hs;refine⟨Hs,H,Hs,_,SR.start sm r,(aq.bind h).imp (λo ho=>?_) λe he=>he⟩;cases o with
 | rt p=>exact λv J3 H' gr rv=>ho v J3 H' gr rv
 | nx env=>exact fun σ J3 H' sr=>ho .bz J3 H' sr.gr .bz
 | bk env=>exact ho.elim
 | ct env=>exact ho.elim
section
variable{E:XK}{p:Pos}{x:Str}{fs:ae->M (List PV)}
def iE(C:Addr)(fs:ae->M (List PV)):ae->M Out:=λenv=>(fs env).bind λps=>cp (ps.length<=sizeLine) (some (.error (C,none)))
theorem wF(O:d_ X λ_=>E)(J7:X.calm=true)(hc:Rb X.K C eg "ValueError.__new__" = true)(c:dk X.K C)(ht:Qi X.K (.ref C)=some (.type "type"))(kp:Oi X.K (.ref C)=true)(hg:Gl X x)(hm:X.mg x=some (.ref C))(ha:PA X (e::es) (tL (λ_=>E) fs))
  (KA:autoParam ((x==("__debug__" : Str))=false) aD._auto_1) (he:autoParam (starEach (e::es) X.env=(false,eval e X.env)::starEach es X.env) aR._auto_1) (Ka:autoParam ((backTo J9 (starEach es X.env)).any (·.1)=false) aR._auto_1) :
  PS X (.Raise (some (.Call (.Name x p) (e::es) [] J9)) none pos) (tS E (iE C fs)):=by
 refine(q_ O J7 (Bb hc kp hg hm ha KA he Ka)).imp λD σ H q=>lM q λB H₀ Hs H1 env Lf v sr rp hp=>?_;obtain⟨hz,hp⟩:=aq.cp hp;refine⟨by rw[<- rp.length];exact hz,λa n=>⟨a,C,none,rfl,az,c,ht,?_⟩⟩;rw[uu];exact hp a (upd Hs a (fG C none a)) _ (sr.gr.trans (bc.new sr.gr.sub n)) (.qe az)
def sT(K:Nr)(C:Addr)(fl:Str):Sp:=λvs H Q _=>∃ a y,vs=[.ref a,y]/\H a=some (i8 C none a)/\∀ d,H d=none->d≠a->Q .bz (upd (upd H d (.xd [(fl,y)])) a (i8 C (some d) a))
def cV(C:Addr)(fl:Str)(fs:ae->M (List PV)):ae->M Out:=λenv=>(fs env).bind λps=>match ps with
 | [p]=>some (.error (C,some [(fl,p)]))
 | _=>none
theorem vG{fl:Str}(O:d_ X λ_=>E)(J7:X.calm=true)(hc:mB X.K C "ValueError.__new__" f=true)(hf:P1 X.K (.ref f)=true)(c:dk X.K C)(ht:Qi X.K (.ref C)=some (.type "type"))(kp:Oi X.K (.ref C)=true)(F:bj X.prog X.w X.K X.mg X.base (cD X.prog X.w) k f fd ps (sT X.K C fl))(hr:bR (k+1) X.A)(hb:Binds X.K fd ps [])
  (hg:Gl X x) (hm:X.mg x=some (.ref C)) (ha:PA X [e] (tL (λ_=>E) fs))
  (KA:autoParam ((x==("__debug__" : Str))=false) aD._auto_1) (he:autoParam (starEach [e] X.env=(false,eval e X.env)::starEach [] X.env) aR._auto_1) (Ka:autoParam ((backTo J9 (starEach [] X.env)).any (·.1)=false) aR._auto_1) :
  PS X (.Raise (some (.Call (.Name x p) [e] [] J9)) none pos) (tS E (cV C fl fs)):=by
 refine(q_ O J7 (xW hc hf kp F hr hb hg hm ha KA he Ka)).imp λD σ H q=>lM q λB H₀ Hs H1 env Lf v sr rp hp=>?_
 match Lf,rp,hp with
 | [],_,hp=>exact hp.elim
 | _::_::_,_,hp=>exact hp.elim
 | [y],rp,hp =>
  obtain⟨v,rfl,ry⟩:=rp.one;refine⟨by show 1<=sizeLine;decide,λa n=>⟨a,v,rfl,az,λd hd hda=>⟨rfl,a,C,some d,rfl,az,c,ht,?_⟩⟩⟩;rw[uu];have hd1:H1 d=none:=by rw[av hda] at hd;exact hd
  have g1:=bc.new (o:=.xd [(fl,v)]) sr.gr.sub hd1;have Mr:upd H1 d (.xd [(fl,v)]) a=none:=by rw[av (O5 hda)];exact n
  have g2:=bc.new (o:=fG C (some d) a) g1.sub Mr;have hH:upd (upd (upd H1 a (i8 C none a)) d (.xd [(fl,v)])) a (fG C (some d) a)=upd (upd H1 d (.xd [(fl,v)])) a (fG C (some d) a):=by
   funext b
   by_cases z:b=a
   .subst z;rw[az,az]
   .rw[av z,av z]
    by_cases z2:b=d
    .subst z2;rw[az,az]
    .rw[av z2,av z2,av z]
  rw[hH];refine hp a (upd (upd Hs d (.xd [(fl,v)])) a (fG C (some d) a)) _ ((sr.gr.trans g1).trans g2) ?_;exact .og az (by rw[av hda];exact az) (.cons ((ry.mono g1.st).mono g2.st) .nil)
theorem jQ{K:Nr}{dV kV doc pm J8 ct oc:Value}{n0 n1 fl:Str}{p0 p1 p2 p3:Pos}(lk:K.lookup f=some ⟨oc,od,.func (OE name qual params [.Assign [.Attribute (.Name n0 p0) fl p1] (.Name n1 p2) p3] scope dV kV doc pm an J8 ct),LW⟩)(KC:O9 K J8 qual=true)(S:bx [n0,n1] [n0,n1] scope)
  (c:dk K C) (ho:((PM K C).any λcd=>ez cd.mro)=true) (na:bI K C fl) (v0:z8 scope n0) (v1:z8 scope n1) (d0:(n0==("__debug__" : Str))=false) (d1:(n1==("__debug__" : Str))=false) (c0:(n0==("__classdict__" : Str))=false) (c1:(n1==("__classdict__" : Str))=false)
  (hs:∀ env,swapsWith (.Name n1 p2) (some (.Attribute (.Name n0 p0) fl p1)) p3.line env=pure false) :
  bj P w K mg base (cD P w) 1 f (OE name qual params [.Assign [.Attribute (.Name n0 p0) fl p1] (.Name n1 p2) p3] scope dV kV doc pm an J8 ct) [n0,n1] (sT K C fl):=by
 refine t_ (k:=0) lk KC S (λvs H Q E h=>by obtain⟨a,y,rfl,_⟩:=h;rfl) λA outer s H vs Q E hr h=>?_;obtain⟨a,y,rfl,ha,hq⟩:=h;refine⟨_,va (xv (ji (i:=0) rfl v0 d0 c0) (ji (i:=1) rfl v1 d1 c1) (hs _)),?_⟩;exact⟨y,rfl,.ref a,rfl,a,C,rfl,ha,c,ho,na,hq⟩
end
structure jk (J:It) (J6:Hp) (xs:List PV):Prop where
 stop:∀ (i:Nat) (Hs H:Hp),aX J6 Hs->aX Hs H->xs.length<=i->J.stop i H
 go:∀ (i:Nat) (Hs H:Hp),aX J6 Hs->aX Hs H->i<xs.length->J.go i H
 tU:∀ (i:Nat) (Hs H:Hp) (x:V) (H2:Hp),aX J6 Hs->aX Hs H->i<xs.length->J.tU i H x H2->∃ p J5,xs[i]?=some p/\bc Hs H J5 H2/\Rep J5 p x
def KI(R:It->Hp->Prop):Hp->Hp->List PV->Prop:=λHs H xs=>∀ J J3 H',bc Hs H J3 H'->jk J J3 xs->R J H'
def zG(E:St->XK)(wi:TI)(it:ae->M (List PV)):Prop:=∀ (σ:St) (H:Hp) (R:It->Hp->Prop),tG E it (KI R) σ H->wi σ H R
theorem KI.g{R:It->Hp->Prop}:KG (KI R):=λHs H J3 H' b k g J J5 H2 g2 o=>k J J5 H2 (g.trans g2) o
section
variable{K:Nr}{f:ae->M PV}{fs:ae->M (List PV)}
theorem xS(hq:∀ J3 H',aX J6 J3->aX J3 H'->i6 K H' b a vs)(hr:aE J6 xs vs):jk (HL K b a) J6 xs where
 stop:=λi Hs H s1 s2 hi=>by
  have q:=hq Hs H s1 s2;cases b with
  | true=>exact⟨vs,q,by rw[<- hr.length];exact hi⟩
  | false=>exact⟨vs,q,by rw[<- hr.length];exact hi⟩
 go:=λi Hs H s1 s2 hi=>by
  have q:=hq Hs H s1 s2;obtain⟨v,e,_⟩:=hr.get (Nt hi);cases b with
  | true=>exact⟨vs,v,q,e⟩
  | false=>exact⟨vs,v,q,e⟩
 tU:=λi Hs H x H2 s1 s2 hi y=>by
  have q:=hq Hs H s1 s2;obtain⟨v,e,r⟩:=hr.get (Nt hi);have z:H2=H/\vs[i]?=some x:=by
   cases b with
   | true=>exact⟨y.1,y.2 vs q⟩
   | false=>exact⟨y.1,y.2 vs q⟩
  obtain⟨rfl,z⟩:=z;rw[e] at z;cases z;exact⟨xs[i],Hs,Nt hi,.refl s2,r.mono s1⟩
theorem eH:zG E (GI K (tE E f)) (itemsOf f):=by
 intro σ H R q;refine bD (K:=KI R) KI.g q λB H₀ Hs H1 env p v sr rp hp=>?_;cases e:aW p with
 | none=>rw[e] at hp;exact hp.elim
 | some xs =>
  rw[e] at hp;obtain⟨b,a,vs,rfl,hq,hr⟩:=iI (K:=K) sr.gr.sub rp e;exact⟨b,a,rfl,⟨vs,hq Hs H1 (λ_ _ z=>z) sr.gr.sub⟩,hp (HL K b a) Hs H1 (.refl sr.gr.sub) (xS hq hr)⟩
def lJ(o:List PV->M (List PV))(fs:ae->M (List PV)):ae->M (List PV):=λenv=>(fs env).bind o
theorem xT{lo:Int}:jk (GY lo n) J6 ((Oz n).map λ(i:Nat)=>PV.int (lo+(i:Int))) where
 stop:=λi Hs H s1 s2 hi=>show n<=i by simpa using hi
 go:=λi Hs H s1 s2 hi=>show i<n by simpa using hi
 tU:=λi Hs H x H2 s1 s2 hi y=>by
  obtain⟨rfl,rfl⟩:=y;exact⟨_,Hs,v8 (by simpa using hi),.refl s2,.int _⟩
theorem aT(x:M α):x.bind M.ok=x:=by
 cases x with
 | none=>rfl
 | some x=>cases x <;> rfl
theorem mI:zG E (Cd (tL E fs)) (lJ sP fs):=by
 intro σ H R q;refine dP (K:=KI R) KI.g q λB H₀ Hs H1 env ps v sr rp hp=>?_;rw[<- aT (sP ps)] at hp;obtain⟨n,rfl,h1,h2,hp⟩:=v9 hp;obtain⟨w,rfl,Lj⟩:=rp.one;cases Lj;exact⟨n,rfl,h1,h2,hp _ Hs H1 (.refl sr.gr.sub) xT⟩
theorem yW{ys:List PV}(h1:i<xs.length)(h2:i<ys.length):(Ss (λa b=>PV.tup [a,b]) xs ys)[i]?=some (.tup [xs[i],ys[i]]):=by
 rw[List.getElem?_zipWith,Nt h1,Nt h2]
theorem zQ{b1 b2:Bool}{a1 a2:Addr}{ys:List PV}{us:List V}(Km:∀ J3 H',aX J6 J3->aX J3 H'->i6 K H' b1 a1 vs)(LR:aE J6 xs vs)(Kn:∀ J3 H',aX J6 J3->aX J3 H'->i6 K H' b2 a2 us)(Mb:aE J6 ys us) :
  jk (HN K b1 b2 a1 a2) J6 (Ss (λa b=>PV.tup [a,b]) xs ys) where
 stop:=λi Hs H s1 s2 hi=>by
  rw[RC,LR.length,Mb.length] at hi;exact⟨vs,us,Km Hs H s1 s2,Kn Hs H s1 s2,by lia⟩
 go:=λi Hs H s1 s2 hi=>by
  rw[RC] at hi;obtain⟨v,e,_⟩:=LR.get (Nt (show i<xs.length by lia));obtain⟨u,e',_⟩:=Mb.get (Nt (show i<ys.length by lia));exact⟨vs,us,v,u,Km Hs H s1 s2,Kn Hs H s1 s2,e,e'⟩
 tU:=λi Hs H x H2 s1 s2 hi y=>by
  rw[RC] at hi;have l1:i<xs.length:=by lia
  have l2:i<ys.length:=by lia
  obtain⟨v,e,r⟩:=LR.get (Nt l1);obtain⟨u,e',r'⟩:=Mb.get (Nt l2);obtain⟨pa,v',u',hn,rfl,rfl,y1,y2⟩:=y;have z1:=y1 vs (Km Hs H s1 s2);have z2:=y2 us (Kn Hs H s1 s2);rw[e] at z1;cases z1;rw[e'] at z2;cases z2;have gr:=bc.new (o:=.tup [v,u]) s2 hn;exact⟨_,_,yW l1 l2,gr,.tup az (.cons ((r.mono s1).mono gr.st) (.cons ((r'.mono s1).mono gr.st) .nil))⟩
theorem jY:zG E (GC K (tL E fs)) (lJ zip2 fs):=by
 intro σ H R q;refine dP (K:=KI R) KI.g q λB H₀ Hs H1 env ps v sr rp hp=>?_;rw[<- aT (zip2 ps)] at hp;obtain⟨p,q,xs,ys,rfl,e1,e2,hp⟩:=vz hp;obtain⟨w,u,rfl,Lj,ru⟩:=rp.two;obtain⟨b1,a1,vs,rfl,Km,LR⟩:=iI (K:=K) sr.gr.sub Lj e1;obtain⟨b2,a2,us,rfl,Kn,Mb⟩:=iI (K:=K) sr.gr.sub ru e2;exact⟨b1,b2,a1,a2,rfl,⟨vs,Km Hs H1 (λ_ _ z=>z) sr.gr.sub⟩,⟨us,Kn Hs H1 (λ_ _ z=>z) sr.gr.sub⟩,hp _ Hs H1 (.refl sr.gr.sub) (zQ Km LR Kn Mb)⟩
end
theorem c8{E:XK}{g:TG}{set:PV->ae->M ae}{body:ae->M Out}{bd:List Stmt}{wi:TI}{it:ae->M (List PV)}(O:d_ X λ_=>E)(hc:X.calm=true)(hi:PI X tg iter wi)(hv:zG (λ_=>E) wi it)(hg:PG X tg g)(LU:wJ E g set)(hb:iG X bd (tS E body))(hs:autoParam (∀ x,foldedSetIterable iter X.env x=pure x) aI._auto_1) :
  PS X (.For tg iter bd [] pos) (tS E (jy it set body)):=by
 refine(DG O.own hc hi hg hb hs).imp λD σ H q=>hv σ H _ ?_;obtain⟨B,H₀,Hs,env,sr,q⟩:=q;refine⟨B,H₀,Hs,env,sr,(aq.bind q).imp (λxs hp J J3 H' gr ok=>?_) λe he=>he.grow sr.gr⟩;have K5:=sr.grow gr;refine⟨λi m σ H=>m=xs.length-i/\i<=xs.length/\Jv E set body D B H₀ J3 xs i σ H,⟨xs.length,by simp,Om _,J3,env,K5,λ_ _ z=>z,hp⟩,?_⟩;rintro i m σ' H2 ⟨rfl,hi,J5,env2,Kg,s2,h2⟩
 by_cases KW:i<xs.length
 .refine .inr ⟨ok.go i J5 H2 s2 Kg.gr.sub KW,Jv E set body D B H₀ J3 xs (i+1),fun σ3 H3 j=>⟨xs.length-(i+1),by lia,rfl,KW,j⟩,λx H3 y=>?_⟩;obtain⟨p,Lb,ep,g3,r3⟩:=ok.tU i J5 H2 x H3 s2 Kg.gr.sub KW y;exact Jv.turn (Hx:=H2) (H1:=H2) LU ep Kg s2 h2 g3 r3
 .have e:i=xs.length:=by lia
  refine .inl ⟨ok.stop i J5 H2 s2 Kg.gr.sub (by lia),?_⟩;exact Jv.done (E:=E) (set:=set) (body:=body) (xs:=xs) (B:=B) (H₀:=H₀) (J6:=J3) (n:=i) ⟨J5,env2,Kg,s2,h2⟩ (by lia)
abbrev EF:St->XK:=λ_ _ _ _=>False
def i4(env:ae):Prop:=∀ (i:Nat) (x:SV),env[i]?=some (some x)->∃ p,x=.sh p
theorem i4.no{env:ae}(n:i4 env){x:SV}(e:env[i]?=some (some x))(o:fP x=true):False:=by obtain⟨p,rfl⟩:=n i _ e;cases o
def Aa:M α->M α
 | some (.ok a)=>some (.ok a)
 | _=>none
theorem aq.Aa{α:Type}{x:M α}{Q:α->Prop}{E:EX->Prop}(h:aq (L2.Aa x) Q E):aq x Q (λ_=>False):=by
 cases x with
 | none=>exact h
 | some x=>cases x with
  | ok a=>exact h
  | error e=>exact h
def jl(n:Nat)(js:List Nat)(env:ae):ae:=Nv n none++js.map λj=>match env[j]? with
 | some (some (.sh p))=>some (.sh p)
 | _=>none
theorem oJ{env:ae}{x:SV}(h:(jl n js env)[i]?=some (some x)):∃ j p,n<=i/\js[i-n]?=some j/\env[j]?=some (some (.sh p))/\x=.sh p:=by
 unfold jl at h
 by_cases hi:i<n
 .rw[N9 (by simpa using hi),QI] at h
  split at h <;> cases h
 .rw[N2 (by simpa using hi),NT,Q4] at h;cases hj:js[i-n]? with
  | none=>rw[hj] at h;cases h
  | some j =>
   rw[hj] at h;have h':(match env[j]? with | some (some (.sh p))=>some (SV.sh p) | _=>none)=some x:=NQ h
   split at h'
   .rename_i p e;cases h';exact⟨j,p,by lia,rfl,e,rfl⟩
   .cases h'
theorem jg{env:ae}:i4 (jl n js env):=λi xs e=>by
 obtain⟨_,p,_,_,_,z⟩:=oJ e;exact⟨p,z⟩
variable{D:Addr}
theorem SR.block{B:Hp}{env:ae}(r:SR B H₀ Hs H σ env)(hD:H D=none):SR Hs H Hs (upd H D (.lst [])) (eX ts js σ) (jl ts.length js env) where
 gr:=(bc.refl r.gr.sub).kS (r.free hD).1 hD
 len:=by unfold eX jl;simp
 at_:=λi x e=>by
  obtain⟨j,q,hn,hj,he,rfl⟩:=oJ e;obtain⟨v,h1,h2⟩:=r.sh j q he;refine⟨v,?_,h2⟩;unfold eX;rw[N2 (by simpa using hn),NT,Nu,hj];show some (σ[j]?).join=_;rw[h1];rfl
 ap:=λi j x y a _ e _ o=>(jg.no e o).elim
theorem SR.lS{B:Hp}{env:ae}(r:SR B H₀ Hs H σ env)(n:i4 env)(h1:Hs D=none)(h2:H₀ D=none):SR B H₀ Hs (upd H D o) σ env :=
 r.mv (r.gr.kS h1 h2) r.len (λ_ _ q=>q) λ_ _ e=>⟨e,rfl,λ_ _ o=>(n.no e o).elim⟩
def cb(set:PV->ae->M ae)(t:Option (ae->M Bool))(f:ae->M PV):List PV->ae->M (List PV)
 | [],_=>M.ok []
 | x::xs,env=>(set x env).bind λe=>match t with
  | none=>(f e).bind λy=>(cb set t f xs e).bind λys=>M.ok (y::ys)
  | some t'=>(t' e).bind λb=>if b=true then (f e).bind λy=>(cb set t f xs e).bind λys=>M.ok (y::ys) else cb set t f xs e
def dn(it:ae->M (List PV))(set:PV->ae->M ae)(t:Option (ae->M Bool))(f:ae->M PV)(n:Nat)(js:List Nat):ae->M (List PV):=λenv=>(it env).bind λxs=>cp (xs.length<=sizeLine) (Aa (cb set t f xs (jl n js env)))
def kT(set:PV->ae->M ae):Prop:=∀ p env e,set p env=some (.ok e)->i4 env->i4 e
theorem gH{env:ae}(n:i4 env):i4 (env.set i (some (.sh p))):=λj xs e=>by
 rw[N5] at e
 by_cases z:i=j
 .rw[if_pos z] at e
  split at e
  .cases e;exact⟨p,rfl⟩
  .cases e
 .rw[if_neg z] at e;exact n j xs e
theorem dr:kT (e6 i):=λp env e h n=>by
 cases h;exact gH n
theorem du:kT (bM i j):=λp env e h n=>by
 unfold bM at h
 split at h
 .cases h;exact gH (gH n)
 .cases h
section
variable{set:PV->ae->M ae}{t:Option (ae->M Bool)}{f:ae->M PV}{Q:VK}{H1:Hp}
def Jc(set:PV->ae->M ae)(t:Option (ae->M Bool))(f:ae->M PV)(Q:VK)(J6 H1:Hp)(D:Addr)(xs:List PV)(i:Nat)(σ:St)(H:Hp):Prop:=∃ Hs env ys vs,SR J6 H1 Hs H σ env/\i4 env/\H D=some (.lst vs)/\Hs D=none/\aE Hs ys vs/\ys.length<=i ∧
 aq (cb set t f (xs.drop i) env) (λzs=>KO Q J6 H1 (ys++zs)) (λ_=>False)
def rem(H:Hp)(D:Addr):Hp:=λa=>if a=D then none else H a
theorem wR:rem H D D=none:=by unfold rem;rw[if_pos rfl]
theorem mW(n:a≠D):rem H D a=H a:=by unfold rem;rw[if_neg n]
theorem u9(h:H D=some o):upd (rem H D) D o=H:=by
 funext a
 by_cases z:a=D
 .subst z;rw[az,h]
 .rw[av z,mW z]
theorem Jc.done(hD:H1 D=none)(j:Jc set t f Q J6 H1 D xs i σ H)(hi:xs.length<=i):Q (.ref D) H:=by
 obtain⟨Hs,env,ys,vs,sr,n,h1,h2,r,_,h⟩:=j;rw[P7 hi] at h;have h':KO Q J6 H1 (ys++[]):=h;rw[Og] at h';have gr:bc J6 H1 Hs (rem H D):=by
  refine⟨sr.gr.st,λc u q=>?_,λc u q=>?_,sr.gr.nw⟩
  .rw[mW (λz=>by rw[z,hD] at q;cases q)];exact sr.gr.al c u q
  .rw[mW (λz=>by rw[z,h2] at q;cases q)];exact sr.gr.sub c u q
 have:=h' vs D Hs (rem H D) gr r wR;rw[u9 h1] at this;exact this
theorem Jc.put{env:ae}{ys:List PV}{y:PV}(hD:H1 D=none)(sr:SR J6 H1 Hs H σ env)(n:i4 env)(h1:H D=some (.lst vs))(h2:Hs D=none)(r:aE Hs ys vs)(hy:ys.length<=i)(hi:i<sizeLine)(rv:Rep Hs y v)
  (h:aq ((cb set t f (xs.drop (i+1)) env).bind λzs=>M.ok (y::zs)) (λzs=>KO Q J6 H1 (ys++zs)) (λ_=>False)) :
  ∃ us,H D=some (.lst us)/\us.length<sizeLine/\Jc set t f Q J6 H1 D xs (i+1) σ (upd H D (.lst (us++[v]))):=by
 refine⟨vs,h1,by rw[<- r.length];lia,Hs,env,ys++[y],vs++[v],sr.lS n h2 hD,n,az,h2,r.snoc rv,by rw[NO];show ys.length+1<=i+1;lia,(aq.bind h).imp (λzs hz=>?_) λ_ z=>z⟩;have Mj:KO Q J6 H1 (ys++(y::zs)):=hz;rw[PD];exact Mj
end
section
variable{c:Expr}{cl:List (Str×Addr)}{wi:TI}{it:ae->M (List PV)}{g:TG}{set:PV->ae->M ae}{f:ae->M PV}{u:ae->M Bool}{fs:List Str}
theorem uS{s₀:Shared}{ex:List Addr}:d_ (sA X scope cl N C s₀ H₀ ex J0) EF where
 pass:=λ_ _ _ _ _ _ _ h=>by
  obtain⟨_,_,_,_,_,_,_,_,_,_,_,_,_,z⟩:=h;exact z.elim
 new:=λ_ _ _ _ _ _ _ _ _ z=>z.elim
 own:=PassesOwn.never
theorem qF{Q:VK}(hv:zG E wi it)(LU:∀ E,wJ E g set)(so:kT set)(q:tO E (dn it set none f ts.length js) σ H Q):mX wi g (tE EF f) ts js σ H Q:=by
 refine hv σ H _ ?_;obtain⟨B,H₀,Hs,env,sr,q⟩:=q;refine⟨B,H₀,Hs,env,sr,(aq.bind q).imp (λxs hp J J6 H1 gr ok D hD=>?_) λe he=>he⟩;obtain⟨hz,hp⟩:=aq.cp hp;have hp:=aq.Aa hp;have MK:=sr.grow gr;refine⟨λi m σ H=>m=xs.length-i/\i<=xs.length/\Jc set none f Q J6 H1 D xs i σ H,⟨xs.length,by simp,Om _,J6,_,[],[],MK.block hD,jg,az,?_,.nil,NC _,hp.imp (λzs hz vs p J5 H2 g2 r n=>hz vs p J5 H2 (gr.trans g2) r n) λ_ z=>z⟩,?_⟩
 .cases z:J6 D with
  | none=>rfl
  | some o=>have:=gr.sub _ _ z;rw[hD] at this;cases this
 rintro i m σ' H2 ⟨rfl,hi,J5,env2,ys,vs,Kg,n2,d1,d2,r2,l2,h2⟩
 by_cases KW:i<xs.length
 .refine .inr ⟨ok.go i J5 H2 Kg.gr.st Kg.gr.sub KW,Jc set none f Q J6 H1 D xs (i+1),fun σ3 H3 j=>⟨xs.length-(i+1),by lia,rfl,KW,j⟩,λx H3 y=>?_⟩;obtain⟨p,Lb,ep,g3,r3⟩:=ok.tU i J5 H2 x H3 Kg.gr.st Kg.gr.sub KW y;have hd:xs.drop i=p::xs.drop (i+1):=by
   rw[Py KW];rw[Nt KW] at ep;rw[NQ ep]
  rw[hd] at h2;have h3:=aq.bind h2;have LB:=Kg.grow g3;refine LU (λ_ _ _=>False) J6 H1 Lb H3 σ' env2 p x _ (λ_=>False) LB r3 ?_;cases hset:set p env2 with
  | none=>rw[hset] at h3;exact h3
  | some z=>cases z with
   | error e=>rw[hset] at h3;exact h3
   | ok e3 =>
    rw[hset] at h3;intro σ4 sr4;have n4:=so p env2 e3 hset n2;refine⟨J6,H1,Lb,e3,sr4,(aq.bind h3).imp (λy hy v Mm H5 g5 r5=>?_) λ_ z=>z.elim⟩;exact Jc.put (set:=set) (t:=none) (f:=f) hD (sr4.grow g5) n4 (g5.al _ _ (g3.al _ _ d1)) (g5.nw _ _ (g3.nw _ _ d2 d1 (λ_=>nofun)) (g3.al _ _ d1) (λ_=>nofun)) ((r2.mono g3.st).mono g5.st) l2 (by lia) r5 hy
 .refine .inl ⟨ok.stop i J5 H2 Kg.gr.st Kg.gr.sub (by lia),?_⟩;exact Jc.done (set:=set) (t:=none) (f:=f) (xs:=xs) (J6:=J6) (H1:=H1) (i:=i) hD ⟨J5,env2,ys,vs,Kg,n2,d1,d2,r2,l2,h2⟩ (by lia)
theorem cj(J7:X.calm=true)
  (Kq:closureFor scope X.env=pure cl) (hk:scope.kind=.function) (nc:gk scope.names=true) (lo:iW scope.names=true) (fh:iZ cl scope.names=true) (ag:eP X cl) (fr:iq X scope cl fs js)
  (hi:PI X tg iter wi) (hv:zG E wi it) (hg:∀ C s₀ H₀ ex J0,PG (sA X scope cl (ts++fs) C s₀ H₀ ex J0) tg g) (LU:∀ E,wJ E g set) (so:kT set) (he:∀ C s₀ H₀ ex J0,PE (sA X scope cl (ts++fs) C s₀ H₀ ex J0) elt (tE EF f))
  (hs:autoParam (∀ x,foldedSetIterable iter X.env x=pure x) aI._auto_1):PE X (.ListComp elt [⟨tg,iter,[],0⟩] scope pos) (tO E (dn it set none f ts.length js)):=by
 exact(xX J7 Kq hk nc lo fh ag fr hi hg he hs).imp fun σ H Q q=>qF hv LU so q
def cM(fo:ae->M (List PV)):ae->M PV:=λenv=>(fo env).bind λps=>M.ok (.lst ps)
theorem dW{fo:ae->M (List PV)}(he:PE X e (tO E fo)):PE X e (tE E (cM fo)):=he.imp fun σ H Q q=>by
 obtain⟨B,H₀,Hs,env,sr,q⟩:=q;refine⟨B,H₀,Hs,env,sr,(aq.bind q).imp (λps hp vs p J3 H' g r n=>?_) λe he=>he⟩;have gn:=bc.new (o:=.lst vs) g.sub n;exact hp _ _ _ (g.trans gn) (.lst az (r.mono gn.st))
end
def pz(f:Str)(v:PV):List (Str×PV)->List (Str×PV)
 | []=>[(f,v)]
 | (g,x)::r=>if g=f then (g,v)::r else (g,x)::pz f v r
theorem eT.put{H:Hp}{f:Str}{p:PV}{v:V}(h:Rep H p v):∀ {fs:List (Str×PV)} {vs:List (Str×V)},eT H fs vs->eT H (pz f p fs) (h_ f v vs)
 | _,_,.nil=>.cons h .nil
 | (g,x)::r,_,.cons hx hr=>by
  unfold pz h_
  by_cases z:g=f
  .rw[if_pos z,if_pos z];exact .cons h hr
  .rw[if_neg z,if_neg z];exact .cons hx (hr.put h)
theorem eT.length{H:Hp}:∀ {fs:List (Str×PV)} {vs:List (Str×V)},eT H fs vs->fs.length=vs.length
 | _,_,.nil=>rfl
 | _,_,.cons _ r=>by simp[r.length]
theorem SR.IQ{B:Hp}{env:ae}{dx:Addr}{fs gs:List (Str×PV)}{us:List (Str×V)}(r:SR B H₀ Hs H σ env)(e:env[i]?=some (some (.bd a C fs)))(h:eT Hs gs us):SR B H₀ Hs (upd H a (.ins C dx us)) σ (env.set i (some (.bd a C gs))):=by
 obtain⟨dx0,vs,h1,h2,h3,h4,h5⟩:=r.bd i a C fs e;exact r.E8 h1 (r.gr.kS h3 h4) (λ_ _ q=>q) (λ_ q=>by cases q;exact⟨_,rfl,dx,us,rfl,az,h3,h4,h⟩) (λj y b u n ej o z q1 q2 _=>⟨by rw[av (λw=>by subst w;exact r.ap i j _ y b n e ej rfl o h1 z)];exact q1,q2⟩) λ_ _ _ k z n ek o=>r.ap i k _ z a n e ek rfl o h1
def yL(i:Nat)(C:Addr)(f:Str)(p:PV)(env:ae):M Out:=match env[i]? with
 | some (some (.bd a C' fs))=>cp (C'=C/\fs.length<1000) (M.ok (.nx (env.set i (some (.bd a C (pz f p fs))))))
 | _=>none
def f9(i:Nat)(C:Addr)(fl:Str)(f:ae->M PV):ae->M Out:=λenv=>(f env).bind λp=>yL i C fl p env
section
variable{E:XK}{f:ae->M PV}{x fl:Str}
theorem jv(hi:X.N[i]?=some x)(hv:z8 X.env.scope x)(c:j4 X.K C)(na:bI X.K C fl)(he:PE X e (tE (λ_=>E) f))(hd:autoParam ((x==("__debug__" : Str))=false) aD._auto_1)(KC:autoParam ((x==("__classdict__" : Str))=false) aD._auto_1)
  (hs:autoParam (swapsWith e (some (.Attribute (.Name x px) fl pos')) pos.line X.env=pure false) aR._auto_1):PS X (.Assign [.Attribute (.Name x px) fl pos'] e pos) (tS E (f9 i C fl f)):=by
 refine(CP (ji hi hv hd KC) he hs).imp λD σ H q=>gq q λB H₀ Hs H1 env p v sr rp hp=>?_;unfold yL at hp
 split at hp
 .rename_i a C' fs ex;obtain⟨⟨rfl,hz⟩,hp⟩:=aq.cp hp;obtain⟨dx,vs,h1,h2,h3,h4,h5⟩:=sr.bd i a _ fs ex;exact⟨.ref a,h1,a,_,dx,vs,rfl,h2,c,na,by rw[<- h5.length];exact hz,hp σ Hs _ (sr.IQ ex (h5.put rp))⟩
 .exact hp.elim
end
def nQ(m:Nat)(a C:Addr)(ps:List PV):ae:=some (.bd a C [])::jx (m-1) ps
def zv(a C:Addr)(env:ae):M (List (Str×PV)):=match (env[0]?:Option (Option SV)) with
 | some (some (.bd b D fs))=>cp (b=a/\D=C) (M.ok fs)
 | _=>none
def outI(a C:Addr):Out->M (List (Str×PV))
 | .nx env=>zv a C env
 | _=>none
def nM(m:Nat)(g:ae->M Out)(C a:Addr)(ps:List PV):M (List (Str×PV)):=(g (nQ m a C ps)).bind (outI a C)
def El(s:Addr->M α):M α:=open Classical in if h:∃ r,∀ a,s a=r then h.choose else none
theorem kG{s:Addr->M α}{r:M α}(h:∀ a,s a=r):El s=r:=by
 have hx:∃ r,∀ a,s a=r:=⟨r,h⟩
 unfold El;rw[dif_pos hx,<- hx.choose_spec 0,h 0]
theorem aq.El{α:Type}{s:Addr->M α}{Q:α->Prop}{E:EX->Prop}(h:aq (L2.El s) Q E)(a:Addr):aq (s a) Q E:=by
 unfold L2.El at h
 split at h
 .rename_i hx;rw[hx.choose_spec a];exact h
 .exact h.elim
def CB(n:Nat)(C:Addr)(sem:Addr->List PV->M (List (Str×PV))):Sp:=λvs H Q E=>vs.length=n/\∃ a dx us Hs H1 ps,vs=.ref a::us/\H1 a=none/\H1 dx=none/\dx≠a/\H=upd (upd H1 dx (.own a)) a (.ins C dx [])/\aX Hs H1/\aE Hs ps us ∧
 aq (sem a ps) (λfs=>∀ ML ws J3 H',bc Hs H1 J3 H'->H' a=some (.ins C ML ws)->J3 a=none->eT J3 fs ws->Q .bz H') (XW E Hs H1)
theorem SR.C_{dx:Addr}{ps:List PV}(s:aX Hs H₀)(hN:0<N.length)(ha:H₀ a=none)(r:aE Hs ps vs)(hH:H=upd H₀ a (.ins C dx [])):SR Hs H₀ Hs H (L2.start N (.ref a::vs)) (nQ N.length a C ps):=by
 have hs:Hs a=none:=by
  cases q:Hs a with
  | none=>rfl
  | some o=>have:=s _ _ q;rw[ha] at this;cases this
 have ne:∀ c u,H₀ c=some u->c≠a:=λc u e z=>by rw[z,ha] at e;cases e
 have s0:=SR.start (N:=N.tail) s r;have e1:L2.start N (.ref a::vs)=some (.ref a)::L2.start N.tail vs:=by
  unfold L2.start;simp only[NX,Qt,OQ,Up];rw[Nat.sub_sub,T7]
 have e2:nQ N.length a C ps=some (.bd a C [])::jx N.tail.length ps:=by unfold nQ;rw[Up]
 have al:aX H₀ H:=λc u q=>by rw[hH,av (ne c u q)];exact q
 rw[e1,e2];have no:∀ (j:Nat) (x:SV),(jx N.tail.length ps)[j]?=some (some x)->fP x=true->False:=λj x e o=>by
  obtain⟨v,h1,h2⟩:=s0.at_ j x e;obtain⟨b,u,_,q1,_,q2,_⟩:=h2.kS o;rw[q2] at q1;cases q1
 refine⟨⟨λ_ _ e=>e,al,λc u q=>al c u (s c u q),λc u q _ _=>q⟩,by simp[s0.len],λj x ej=>?_,λj k x y b nj e1 e2 o1 o2=>?_⟩
 .cases j with
  | zero=>cases ej;exact⟨_,rfl,dx,[],rfl,by rw[hH];exact az,hs,ha,.nil⟩
  | succ j =>
   have ej:(jx N.tail.length ps)[j]?=some (some x):=by simpa using ej
   obtain⟨v,h1,h2⟩:=s0.at_ j x ej;exact⟨v,by simpa using h1,h2.mono (λ_ _ q=>q) λ_ _ o=>(no j x ej o).elim⟩
 .cases j with
  | zero=>cases k with
   | zero=>exact absurd rfl nj
   | succ k=>exact(no k y (by simpa using e2) o2).elim
  | succ j=>exact(no j x (by simpa using e1) o1).elim
theorem Az{K:Nr}{dV kV doc pm J8 ct oc:Value}{g:ae->M Out}(lk:K.lookup f=some ⟨oc,od,.func (OE name qual params body scope dV kV doc pm an J8 ct),LW⟩)(KC:O9 K J8 qual=true)(S:bx N ps scope)(hN:0<N.length)
  (hb:∀ (A:Around) (outer:List Env) (s:Shared) (H:Hp) (E:XK),bR k (A.deeper (envOfC qual scope s.heap.objs.size f J8))->iG ((jh (cD P w) P w K mg base N qual scope f J8 A outer s H E).out λ_=>E) body (tS E g)) :
  bj P w K mg base (cD P w) (k+1) f (OE name qual params body scope dV kV doc pm an J8 ct) ps (CB ps.length C (nM N.length g C)):=by
 refine t_ lk KC S (λvs H Q E h=>h.1) λA outer s H vs Q E hr hs=>⟨_,hb A outer s H E hr,?_⟩
 obtain⟨_,a,dx,us,Hs,H1,Lf,rfl,ha,hdx,LV,hH,sm,r,h⟩:=hs;have ne:∀ c u,H1 c=some u->c≠dx:=λc u e z=>by rw[z,hdx] at e;cases e
 have s0:aX H1 (upd H1 dx (.own a)):=λc u q=>by rw[av (ne c u q)];exact q
 have g0:bc Hs H1 Hs (upd H1 dx (.own a)):=⟨λ_ _ e=>e,s0,λc u q=>s0 c u (sm c u q),λ_ _ e _ _=>e⟩
 refine⟨Hs,_,Hs,_,SR.C_ (dx:=dx) g0.sub hN (by rw[av (O5 LV)];exact ha) r hH,(aq.bind h).imp (λo ho=>?_) λe he=>he.grow g0⟩;cases o with
 | rt p=>exact ho.elim
 | bk env=>exact ho.elim
 | ct env=>exact ho.elim
 | nx env =>
  intro σ J3 H' sr;have Lu:aq (zv a C env) _ _:=ho;unfold zv at Lu
  split at Lu
  .rename_i b D fs ex;obtain⟨⟨rfl,rfl⟩,hp⟩:=aq.cp Lu;obtain⟨ML,ws,h1,h2,h3,h4,h5⟩:=sr.bd 0 _ _ fs ex;exact hp ML ws J3 H' (g0.trans sr.gr) h2 h3 h5
  .exact Lu.elim
def bZ(C:Addr)(sem:Addr->List PV->M (List (Str×PV)))(Ld:List PV)(ps:List PV):M PV:=(El λa=>sem a (ps++Ld)).bind λfs=>M.ok (.obj C fs)
section
variable{ns:List Str}{sem:Addr->List PV->M (List (Str×PV))}{x:Str}{p:Pos}{fs:ae->M (List PV)}
theorem Al(Mk:Mk X.K C f)(F:bj X.prog X.w X.K X.mg X.base (cD X.prog X.w) k f fd ns (CB n C sem))(hr:bR (k+1) X.A)(hg:Gl X x)(hm:X.mg x=some (.ref C))(hb:Binds X.K fd ns ds)(hd:Vals Kw ds)(hdp:∀ H,aE H Ld Kw)(O:d_ X E)
  (hl:∀ a ps,sem a (ps++Ld)≠none->ps.length+Ld.length+1=n)
  (ha:PA X (e::es) (tL E fs)) (KA:autoParam ((x==("__debug__" : Str))=false) aD._auto_1) (he:autoParam (starEach (e::es) X.env=(false,eval e X.env)::starEach es X.env) aR._auto_1) (Ka:autoParam ((backTo pos (starEach es X.env)).any (·.1)=false) aR._auto_1) :
  PE X (.Call (.Name x p) (e::es) [] pos) (tE E (aj (bZ C sem Ld) fs)):=by
 refine(yw Mk F hr hg hm hb hd O ha KA he Ka).imp fun σ H Q q=>dP (K:=g_ Q) g_.g q λB H₀ Hs H1 env Lf v sr rp hp=>?_;intro a dx ha hdx LV;have r2:aE Hs (Lf++Ld) (v++Kw):=rp.append (hdp Hs);have My:=(aq.bind hp).El a;have hn:sem a (Lf++Ld)≠none:=λz=>by
  rw[z] at My;exact My
 refine⟨?_,a,dx,v++Kw,Hs,H1,Lf++Ld,rfl,ha,hdx,LV,rfl,sr.gr.sub,r2,My.imp (λfl hfl ML ws J3 H' g hw Nf Lj=>⟨rfl,?_⟩) λe he=>he⟩
 .show (v++Kw).length+1=n;rw[<- r2.length,NO];exact hl a Lf hn
 .have ne:∀ c u,J3 c=some u->c≠a:=λc u q z=>by rw[z,Nf] at q;cases q
  have Kx:aX J3 (upd J3 a (.ins C ML ws)):=λc u q=>by rw[av (ne c u q)];exact q
  refine hfl (.ref a) (upd J3 a (.ins C ML ws)) H' ⟨λc u q=>Kx c u (g.st c u q),g.al,λc u q=>?_,λc u q1 q2 q3=>?_⟩ (.obj az (Lj.mono Kx))
  .by_cases z:c=a
   .subst z;rw[az] at q;cases q;exact hw
   .rw[av z] at q;exact g.sub c u q
  .have z:c≠a:=λz=>by rw[z,ha] at q2;cases q2
   rw[av z];exact g.nw c u q1 q2 q3
end
section
variable{a b c:Expr}{f g h:ae->M PV}
theorem kN{m:Nat}(h:n.log2<m):n<2^m:=by
 by_cases z:n=0
 .subst z;exact Nat.two_pow_pos m
 .exact(Uy z).mp h
theorem aE.rep{H:Hp}{xs:List PV}{vs:List V}(r:aE H xs vs):∀ k:Nat,aE H (Nv k xs).flatten (Nv k vs).flatten
 | 0=>.nil
 | k+1=>by rw[Oo,Oo,OX,OX];exact r.append (r.rep k)
def bH:PV->PV->M PV
 | .int i,.int j=>cp (i.natAbs.log2<67108864/\j.natAbs.log2<67108864) (M.ok (.int (i*j)))
 | .tup xs,.int k=>cp (xs.isEmpty=false/\-(2^63)<=k/\k<2^63/\xs.length*k.toNat<=sizeLine) (M.ok (.tup (Nv k.toNat xs).flatten))
 | .lst xs,.int k=>cp (-(2^63)<=k/\k<2^63/\xs.length*k.toNat<=sizeLine) (M.ok (.lst (Nv k.toNat xs).flatten))
 | _,_=>none
def B3(K:Nr):R2:=λx y H Q=>(rI (λi j=>IntMulOk i j) λi j=>.int (i*j)) x y H Q\/CC K x y H Q\/GP x y H Q
theorem Bx:fD X (binaryOp .Mult) (B3 X.K):=fD.or BF (fD.or A7 DM)
theorem CU{K:Nr}:jI E (B3 K) bH:=by
 intro σ Hs H p q v u Q s rp rq h;cases rp with
 | int i=>cases rq with
  | int j =>
   obtain⟨hz,h⟩:=aq.cp h;exact .inl ⟨i,j,rfl,rfl,xB (kN hz.1) (kN hz.2) (NC _),cT.flat h s (.int _)⟩
  | _=>exact h.elim
 | @tup a xs vs ha hx=>cases rq with
  | int k =>
   obtain⟨⟨h0,h1,h2,h3⟩,h⟩:=aq.cp h;have n1:vs≠[]:=λz=>by
    have:=hx.length;rw[z] at this;cases xs with
    | nil=>cases h0
    | cons _ _=>cases this
   refine .inr (.inl ⟨a,k,vs,rfl,rfl,ff.of (s _ _ ha),n1,h1,h2,by rw[<- hx.length];exact h3,λz=>?_,λz=>cT.tup h s (hx.rep _)⟩);subst z;rw[show (1:Int).toNat=1 from rfl,Oo,List.replicate_zero,OX,List.flatten_nil,Og] at h;exact cT.flat h s (.tup ha hx)
  | _=>exact h.elim
 | @lst a xs vs ha hx=>cases rq with
  | int k =>
   obtain⟨⟨h1,h2,h3⟩,h⟩:=aq.cp h;exact .inr (.inr ⟨a,k,vs,rfl,rfl,s _ _ ha,h1,h2,by rw[<- hx.length];exact h3,cT.lst h s (hx.rep _)⟩)
  | _=>exact h.elim
 | _=>exact h.elim
theorem A4:jI E (rI xf λi j=>.int (i.fdiv j)) (ui (λ_ j=>decide (j≠0/\j.natAbs.log2<9000)) λi j=>i.fdiv j):=t8 λi j z=>(of_decide_eq_true z:j≠0/\j.natAbs.log2<9000)
theorem Dh:jI E (rI (λ_ j=>j≠0) λi j=>.int (i.fmod j)) (ui (λ_ j=>decide (j≠0)) λi j=>i.fmod j):=t8 λi j z=>of_decide_eq_true z
theorem DO:jI E (rI E3 λi j=>.int (i^j.toNat)) (ui (λi j=>decide (0<=j/\j<=1000000/\i.natAbs<2^64)) λi j=>i^j.toNat):=t8 λi j z=>(of_decide_eq_true z:0<=j/\j<=1000000/\i.natAbs<2^64)
def F2:PV->M PV
 | .int i=>M.ok (.int (-i))
 | _=>none
def kD(f:ae->M PV):ae->M PV:=λenv=>(f env).bind F2
theorem EE(ha:PE X a (tE E f)):PE X (.UnaryOp .USub a pos) (tE E (kD f)) :=
 (FX C5 ha).imp fun σ H Q q=>FN q λHs H1 p v s rp h=>by
  cases rp with
  | int i=>exact⟨i,rfl,cT.flat h s (.int _)⟩
  | _=>exact h.elim
def uz:PV->Bool
 | .bz=>true
 | _=>false
theorem yK(r:Rep H p v):decide (v=.bz)=uz p:=by
 cases r <;> rfl
def zq:PV->PV->M PV
 | p,.bz=>M.ok (.bl (uz p))
 | _,_=>none
theorem zf:jI E (λx y H Q=>y=.bz/\Q (.bl (decide (x=.bz))) H) zq:=by
 intro σ Hs H p q v u Q s rp rq h;cases rq with
 | bz =>
  have h':aq (M.ok (PV.bl (uz p))) (cT Hs H Q) (XW (E σ) Hs H):=by cases p <;> exact h
  exact⟨rfl,by rw[yK rp];exact cT.flat h' s (.bl _)⟩
 | _=>cases p <;> exact h.elim
def jr(o o':PV->PV->M PV)(f g h:ae->M PV):ae->M PV:=λenv=>(f env).bind λp=>(g env).bind λq=>(o p q).bind λz=>(tN z).bind λk=>if k=true then (h env).bind λr=>o' q r else M.ok (.bl false)
theorem zB{r r':R2}{o o':PV->PV->M PV}(hv:jI E r o)(Ng:jI E r' o'){Q:VK}(q:tE E (jr o o' f g h) σ H Q):zM r r' (tE E f) (tE E g) (tE E h) σ H Q:=by
 refine bD (K:=g_ Q) g_.g q λB H₀ Hs H1 env p v sr rp hp=>?_;refine⟨B,H₀,Hs,env,sr,(aq.bind hp).imp (λq hq u J5 H2 g2 ru=>?_) λe he=>he⟩;have Kg:=sr.grow g2;refine hv σ J5 H2 p q v u _ Kg.gr.sub (rp.mono g2.st) ru ((aq.bind hq).imp (λz hz w Lb H3 g3 Lj=>?_) λe he=>he.grow g2);obtain⟨k,ek,hk⟩:=aq.G3 (aq.bind hz);subst ek;cases Lj;refine⟨k,rfl,?_⟩;have LB:=Kg.grow g3;cases k with
 | false=>exact hk _ _ _ (g2.trans g3) (.bl _)
 | true =>
  have M6:aq ((h env).bind λr=>o' q r) (g_ Q Hs H1) (XW (E σ) Hs H1):=hk;refine⟨B,H₀,Lb,env,LB,(aq.bind M6).imp (λr hr w Hs4 H4 g4 rw4=>?_) λe he=>he.grow (g2.trans g3)⟩;exact Ng σ Hs4 H4 q r u w Q (LB.grow g4).gr.sub ((ru.mono g3.st).mono g4.st) rw4 (hr.imp (λz hz w' Mm H5 g5 r5=>hz w' Mm H5 ((g2.trans g3).trans (g4.trans g5)) r5) λe he=>he.grow ((g2.trans g3).trans g4))
theorem rT{MI:CmpOp}{r r':R2}{o o':PV->PV->M PV}(ho:fD X (compareOp op) r)(hv:jI E r o)(Lu:fD X (compareOp MI) r')(Ng:jI E r' o')(ha:PE X a (tE E f))(hb:PE X b (tE E g))(hc:PE X c (tE E h))
  (hm:autoParam (lastMarks [op,MI] [b,c]=false) aU._auto_1):PE X (.Compare a [op,MI] [b,c] pos) (tE E (jr o o' f g h)) :=
 (xr ho Lu ha hb hc hm).imp fun σ H Q q=>zB hv Ng q
def cy(u:ae->M Bool)(b:ae->M Out):Nat->ae->M Out
 | 0,_=>none
 | n+1,env=>(u env).bind λt=>if t=true then (b env).bind λo=>match o with
   | .nx J2=>cy u b n J2
   | .ct J2=>cy u b n J2
   | .bk J2=>M.ok (.nx J2)
   | .rt p=>M.ok (.rt p)
  else M.ok (.nx env)
theorem wm{E:XK}{u:ae->M Bool}{g:ae->M Out}(n:ae->Nat)(O:d_ X λ_=>E)(hc:PT X c (tT (λ_=>E) u))(hb:iG X body (tS E g)):PS X (.While c body [] pos) (tS E λenv=>cy u g (n env) env):=by
 refine(zH O.own hc hb).imp λD σ H q=>?_;obtain⟨B,H₀,Hs,env,sr,q⟩:=q;refine⟨λm σ H=>∃ Hs env,SR B H₀ Hs H σ env/\aq (cy u g m env) (KS D B H₀) (XW E B H₀),⟨n env,Hs,env,sr,q⟩,?_⟩;rintro m σ1 H1 ⟨J6,env1,MK,q1⟩;cases m with
 | zero=>exact q1.elim
 | succ m =>
  refine⟨B,H₀,J6,env1,MK,(aq.bind q1).imp (λt ht J5 H2 g2=>?_) λe he=>he.grow MK.gr⟩;have Kg:=MK.grow g2;cases t with
  | false=>exact ht σ1 J5 H2 Kg
  | true =>
   refine⟨fun σ' H'=>∃ J3 J2,SR B H₀ J3 H' σ' J2/\aq (cy u g m J2) (KS D B H₀) (XW E B H₀),fun σ' H' z=>⟨m,O3 m,z⟩,B,H₀,J5,env1,Kg,(aq.bind ht).imp (λo ho=>?_) λe he=>he⟩;cases o with
   | nx J2=>exact fun σ' J3 H' K5=>⟨J3,J2,K5,ho⟩
   | ct J2=>exact fun σ' J3 H' K5=>⟨J3,J2,K5,ho⟩
   | bk J2=>exact ho
   | rt p=>exact ho
theorem gR{u:ae->M Bool}{g:ae->M Out}:∀ (n k:Nat) (env:ae),cy u g n env≠none->cy u g (n+k) env=cy u g n env
 | 0,_,_,h=>(h rfl).elim
 | n+1,k,env,h=>by
  rw[show n+1+k=(n+k)+1 by lia];unfold cy at h ⊢;cases hu:u env with
  | none=>rfl
  | some z =>
   cases z with
   | error e=>rfl
   | ok t =>
    rw[hu] at h;cases t with
    | false=>rfl
    | true =>
     show M.bind (g env) _=M.bind (g env) _;have h':M.bind (g env) (λo=>match o with
      | .nx J2=>cy u g n J2
      | .ct J2=>cy u g n J2
      | .bk J2=>M.ok (.nx J2)
      | .rt p=>M.ok (.rt p))≠none:=h
     cases hg:g env with
     | none=>rfl
     | some z =>
      cases z with
      | error e=>rfl
      | ok o =>
       rw[hg] at h';cases o with
       | nx J2=>exact gR n k J2 h'
       | ct J2=>exact gR n k J2 h'
       | bk J2=>rfl
       | rt p=>rfl
def jw(u:ae->M Bool)(b:ae->M Out)(env:ae):M Out:=open Classical in cy u b (if h:∃ n,cy u b n env≠none then h.choose else 0) env
theorem vn{u:ae->M Bool}{b:ae->M Out}{env:ae}(h:cy u b n env≠none):jw u b env=cy u b n env:=by
 have hx:∃ n,cy u b n env≠none:=⟨n,h⟩
 unfold jw;rw[dif_pos hx];have h1:=hx.choose_spec;rw[<- gR _ n env h1,<- gR n hx.choose env h,T7]
theorem rG{E:XK}{u:ae->M Bool}{g:ae->M Out}(O:d_ X λ_=>E)(hc:PT X c (tT (λ_=>E) u))(hb:iG X body (tS E g)):PS X (.While c body [] pos) (tS E (jw u g)) :=
 wm (λenv=>open Classical in if h:∃ n,cy u g n env≠none then h.choose else 0) O hc hb
end
def Cv:PV->Option String
 | .bz=>some "NoneType"
 | .bl _=>some "bool"
 | .int _=>some "int"
 | .str _=>some "str"
 | .lst _=>some "list"
 | .iw _=>some "list"
 | .tup _=>some "tuple"
 | .emp=>some "dict"
 | _=>none
def nJ(a t:String):Bool:=a==t||(a == "bool" && t == "int")
theorem k6(K:Nr):NI K (.type "NoneType") (.type "int")=some false:=by with_unfolding_all kernel_rfl
theorem qU(K:Nr):NI K (.type "bool") (.type "int")=some true:=by with_unfolding_all kernel_rfl
def tys:List String:=["int", "bool", "str", "list", "tuple"]
theorem F0(K:Nr){a t:String}(ha:Cv p=some a)(ht:t∈tys):NI K (.type a) (.type t)=some (nJ a t):=by
 have ht2:t = "int" \/ t = "bool" \/ t = "str" \/ t = "list" \/ t = "tuple" := by simpa [tys] using ht
 cases p <;> cases ha <;> rcases ht2 with rfl | rfl | rfl | rfl | rfl <;> first
  | exact k6 K
  | exact kt_NoneType_bool K
  | exact kt_NoneType_str K
  | exact kt_NoneType_list K
  | exact kt_NoneType_tuple K
  | exact qU K
  | exact kt_bool_bool K
  | exact kt_bool_str K
  | exact kt_bool_list K
  | exact kt_bool_tuple K
  | exact kt_int_int K
  | exact kt_int_bool K
  | exact kt_int_str K
  | exact kt_int_list K
  | exact kt_int_tuple K
  | exact kt_str_int K
  | exact kt_str_bool K
  | exact kt_str_str K
  | exact kt_str_list K
  | exact kt_str_tuple K
  | exact kt_list_int K
  | exact kt_list_bool K
  | exact kt_list_str K
  | exact kt_list_list K
  | exact kt_list_tuple K
  | exact kt_tuple_int K
  | exact kt_tuple_bool K
  | exact kt_tuple_str K
  | exact kt_tuple_list K
  | exact kt_tuple_tuple K
  | exact kt_dict_int K
  | exact kt_dict_bool K
  | exact kt_dict_str K
  | exact kt_dict_list K
  | exact kt_dict_tuple K
theorem tR{K:Nr}{a:String}(s:aX Hs H)(r:Rep Hs p v)(ha:Cv p=some a):hX K H v (.type a):=by
 cases r with
 | bz=>cases ha;exact .bz
 | bl b=>cases ha;exact .bl b
 | int i=>cases ha;exact .int i
 | str x=>cases ha;exact .str x
 | tup h _=>cases ha;exact .tup (s _ _ h)
 | lst h _=>cases ha;exact .lst (s _ _ h)
 | iw h _=>cases ha;exact .ny (s _ _ h)
 | emp h=>cases ha;exact .dK (s _ _ h)
 | _=>cases ha
theorem uO(K:Nr){p:PV}{a:String}(ha:Cv p=some a):∀ {Ts:List String},(∀ t∈Ts,t∈tys)->RP K (.type a) (Ts.map OW)=some (Ts.any λt=>nJ a t)
 | [],_=>rfl
 | t::r,h=>by
  have h1:=F0 K ha (h t NU);have h2:=uO K ha (Ts:=r) λt q=>h t (NH _ q);simp only[NX,RP,h1,List.any_cons];cases nJ a t with
  | true=>rfl
  | false=>exact h2
structure tf (K:Nr) (C:Addr):Prop where
 cls:j4 K C
 ha:N1 K (.ref C) "__class__" = some (some (.builtin "object.__class__"))
 hn:QN K (.builtin "object.__class__") "__get__" = some (some (.builtin "getset_descriptor.__get__"))
 Fj:Ro K (.builtin "object.__class__")=some true
 hm:R5 K C (.type "object")=some true
def zR(b:String->Bool)(ob oe:Addr->Option Bool):PV->M PV
 | .obj C _=>eM ((ob C).map .bl)
 | .exc C _=>eM ((oe C).map .bl)
 | p=>eM ((Cv p).map λa=>.bl (b a))
section
variable{p pt:Pos}{f:ae->M PV}{T:String}{x:Str}{ob oe:Addr->Option Bool}
theorem sM{fo:Option (List (Str×PV))}(s:aX Hs H)(r:Rep Hs (.exc C fo) v):∃ a MA,v=.ref a/\ExcAt H a C MA:=by
 cases r with
 | @qe a _ h=>exact⟨a,none,rfl,s _ _ h⟩
 | @og a _ d _ vs h h2 _=>exact⟨a,some vs,rfl,d,s _ _ h,s _ _ h2⟩
def qA(b:String->Bool)(ob oe:Addr->Option Bool)(f:ae->M PV):ae->M PV:=λenv=>(f env).bind (zR b ob oe)
theorem l5{b:String->Bool}{p:PV}{Q:PV->Prop}{F:EX->Prop}(h:aq (zR b ob oe p) Q F):(∃ a,Cv p=some a/\Q (.bl (b a)))\/(∃ C fs k,p=.obj C fs/\ob C=some k/\Q (.bl k))\/∃ C fo k,p=.exc C fo/\oe C=some k/\Q (.bl k):=by
 cases p with
 | obj C fs =>
  obtain⟨z,e,q⟩:=aq.opt h;obtain⟨k,e2,rfl⟩:=NS.mp e;exact .inr (.inl ⟨C,fs,k,rfl,e2,q⟩)
 | exc C fo =>
  obtain⟨z,e,q⟩:=aq.opt h;obtain⟨k,e2,rfl⟩:=NS.mp e;exact .inr (.inr ⟨C,fo,k,rfl,e2,q⟩)
 | bz=>exact .inl ⟨_,rfl,h⟩
 | bl _=>exact .inl ⟨_,rfl,h⟩
 | int _=>exact .inl ⟨_,rfl,h⟩
 | str _=>exact .inl ⟨_,rfl,h⟩
 | tup _=>exact .inl ⟨_,rfl,h⟩
 | lst _=>exact .inl ⟨_,rfl,h⟩
 | iw _=>exact .inl ⟨_,rfl,h⟩
 | emp=>exact .inl ⟨_,rfl,h⟩
 | wg _=>exact h.elim
theorem t5{K:Nr}{fs:List (Str×PV)}(s:aX Hs H)(r:Rep Hs (.obj C fs) v)(c:tf K C):hX K H v (.ref C):=by
 cases r with
 | obj h _=>exact .ins (s _ _ h) c.cls c.ha c.hn c.Fj c.hm
theorem t7(hg:Gl X "isinstance")(hm:X.mg "isinstance" = none)(hT:PE X (.Name x pt) (tC (.ty T)))(ht:T∈tys)(Mx:∀ C b,ob C=some b->tf X.K C/\NI X.K (.ref C) (.type T)=some b)(KU:∀ C b,oe C=some b->dk X.K C/\NI X.K (.ref C) (.type T)=some b)(he:PE X e (tE E f))
  (h1:autoParam (starEach [e,.Name x pt] X.env=(false,eval e X.env)::starEach [.Name x pt] X.env) aR._auto_1) (h2:autoParam (starEach [.Name x pt] X.env=(false,eval (.Name x pt) X.env)::starEach [] X.env) aR._auto_1) (Ka:autoParam ((backTo pos (starEach [.Name x pt] X.env)).any (·.1)=false) aR._auto_1) :
  PE X (.Call (.Name "isinstance" p) [e,.Name x pt] [] pos) (tE E (qA (λa=>nJ a T) ob oe f)):=by
 refine(il (cL.or qY mD) hg hm qw (c_ he (c_ hT iF h2) h1) (by decide) (by decide) h1 Ka).imp fun σ H Q q=>bD (K:=g_ Q) g_.g q λB H₀ Hs H1 env p v sr rp hp=>?_;rcases l5 hp with ⟨a,ha,q⟩ | ⟨C,fs,k,rfl,e,q⟩ | ⟨C,fo,k,rfl,e,q⟩
 .exact .inl ⟨v,T,_,_,rfl,tR sr.gr.sub rp ha,F0 X.K ha ht,cT.flat q sr.gr.sub (.bl _)⟩
 .exact .inl ⟨v,T,_,_,rfl,t5 sr.gr.sub rp (Mx C k e).1,(Mx C k e).2,cT.flat q sr.gr.sub (.bl _)⟩
 .obtain⟨a,MA,rfl,hx⟩:=sM sr.gr.sub rp;exact .inr ⟨a,C,MA,k,(KU C k e).1,hx,.inl ⟨T,rfl,(KU C k e).2⟩,cT.flat q sr.gr.sub (.bl _)⟩
theorem Et(hg:Gl X "isinstance")(hm:X.mg "isinstance" = none)(hT:PE X (.Name x pt) (tC (.ref D)))(hk:∀ p a,Cv p=some a->NI X.K (.type a) (.ref D)=some false)(Mx:∀ C b,ob C=some b->tf X.K C/\NI X.K (.ref C) (.ref D)=some b)(KU:∀ C b,oe C=some b->dk X.K C/\NI X.K (.ref C) (.ref D)=some b)(he:PE X e (tE E f))
  (h1:autoParam (starEach [e,.Name x pt] X.env=(false,eval e X.env)::starEach [.Name x pt] X.env) aR._auto_1) (h2:autoParam (starEach [.Name x pt] X.env=(false,eval (.Name x pt) X.env)::starEach [] X.env) aR._auto_1) (Ka:autoParam ((backTo pos (starEach [.Name x pt] X.env)).any (·.1)=false) aR._auto_1) :
  PE X (.Call (.Name "isinstance" p) [e,.Name x pt] [] pos) (tE E (qA (λ_=>false) ob oe f)):=by
 refine(il (cL.or yk mD) hg hm qw (c_ he (c_ hT iF h2) h1) (by decide) (by decide) h1 Ka).imp fun σ H Q q=>bD (K:=g_ Q) g_.g q λB H₀ Hs H1 env p v sr rp hp=>?_;rcases l5 hp with ⟨a,ha,q⟩ | ⟨C,fs,k,rfl,e,q⟩ | ⟨C,fo,k,rfl,e,q⟩
 .exact .inl ⟨v,D,_,_,rfl,tR sr.gr.sub rp ha,hk p a ha,cT.flat q sr.gr.sub (.bl _)⟩
 .exact .inl ⟨v,D,_,_,rfl,t5 sr.gr.sub rp (Mx C k e).1,(Mx C k e).2,cT.flat q sr.gr.sub (.bl _)⟩
 .obtain⟨a,MA,rfl,hx⟩:=sM sr.gr.sub rp;exact .inr ⟨a,C,MA,k,(KU C k e).1,hx,.inr ⟨D,rfl,(KU C k e).2⟩,cT.flat q sr.gr.sub (.bl _)⟩
theorem Bs{e2:Expr}{t2:TE}{Ts:List String}(hg:Gl X "isinstance")(hm:X.mg "isinstance" = none)(hT:PE X e2 t2)(ht2:∀ σ H R,(∀ p,H p=none->R (.ref p) (upd H p (.tup (Ts.map V.ty))))->t2 σ H R)(ht:∀ t∈Ts,t∈tys)(Mx:∀ C b,ob C=some b->tf X.K C/\RP X.K (.ref C) (Ts.map OW)=some b)(he:PE X e (tE E f))
  (h1:autoParam (starEach [e,e2] X.env=(false,eval e X.env)::starEach [e2] X.env) aR._auto_1) (h2:autoParam (starEach [e2] X.env=(false,eval e2 X.env)::starEach [] X.env) aR._auto_1) (Ka:autoParam ((backTo pos (starEach [e2] X.env)).any (·.1)=false) aR._auto_1) :
  PE X (.Call (.Name "isinstance" p) [e,e2] [] pos) (tE E (qA (λa=>Ts.any λt=>nJ a t) ob (λ_=>none) f)):=by
 refine(il vq hg hm qw (c_ he (c_ hT iF h2) h1) (by decide) (by decide) h1 Ka).imp fun σ H Q q=>bD (K:=g_ Q) g_.g q λB H₀ Hs H1 env p v sr rp hp=>?_;refine ht2 σ H1 _ λtp hn=>?_;have g:=bc.new (o:=.tup (Ts.map V.ty)) sr.gr.sub hn;rcases l5 hp with ⟨a,ha,q⟩ | ⟨C,fs,k,rfl,e,q⟩ | ⟨C,fo,k,rfl,e,q⟩
 .exact⟨v,tp,Ts,_,_,rfl,az,tR g.sub (rp.mono g.st) ha,uO X.K ha ht,q _ _ _ g (.bl _)⟩
 .exact⟨v,tp,Ts,_,_,rfl,az,t5 g.sub (rp.mono g.st) (Mx C k e).1,(Mx C k e).2,q _ _ _ g (.bl _)⟩
 .cases e
end
section
open PySem.SeqAt (shaped noMix noMixAll)
mutual
def dat:PV->Option PyData
 | .bz=>some .none
 | .bl b=>some (.bool b)
 | .int i=>some (.int i)
 | .str x=>some (.str x)
 | .tup xs=>(kh xs).map .tuple
 | .lst xs=>(kh xs).map .list
 | .iw xs=>(kh xs).map .list
 | .obj _ _=>none
 | .exc _ _=>none
 | .emp=>none
 | .wg _=>none
def kh:List PV->Option (List PyData)
 | []=>some []
 | p::r=>(dat p).bind λd=>(kh r).map (d::·)
end
mutual
theorem Rep.reads{Hs:Hp}(I:Inv X J0 σ H s)(sm:aX Hs H):∀ {p:PV} {v:V} {u:Value} {d:PyData},Rep Hs p v->RelV v u->dat p=some d->∃ as,Reads s.heap u d as
 | _,_,u,d,.bz,r,e=>by
  cases e;cases (show u=Ob from r);exact⟨_,.none⟩
 | _,_,u,d,.bl b,r,e=>by
  cases e;cases (show u=Pk b from r);exact⟨_,.bool b⟩
 | _,_,u,d,.int i,r,e=>by
  cases e;obtain⟨t,rfl⟩:=(show ∃ t,u=R9 i t from r);exact⟨_,.int i t⟩
 | _,_,u,d,.str i,r,e=>by
  cases e;obtain⟨t,rfl⟩:=(show ∃ t,u=R_ i t from r);exact⟨_,.str i t⟩
 | _,_,u,d,.tup (a:=a) ha hx,r,e=>by
  obtain⟨ds,e2,rfl⟩:=NS.mp (show (kh _).map PyData.tuple=some d from e);cases (show u=NB a from r);obtain⟨J4,r1,⟨o,ho,hc,n,hd⟩,_⟩:=I.tuple (ff.of (sm _ _ ha));obtain⟨as,ra⟩:=aE.reads I sm hx r1 e2;exact⟨_,.tuple ho hc hd (by simpa using ra)⟩
 | _,_,u,d,.lst (a:=a) ha hx,r,e=>by
  obtain⟨ds,e2,rfl⟩:=NS.mp (show (kh _).map U5=some d from e);cases (show u=NB a from r);obtain⟨J4,r1,⟨o,n,ho,hc,_,hd⟩,_⟩:=I.list (gc.of (sm _ _ ha));obtain⟨as,ra⟩:=aE.reads I sm hx r1 e2;exact⟨_,.list ho hc hd (by simpa using ra)⟩
 | _,_,u,d,.iw (a:=a) (o:=ob) ha hx,r,e=>by
  obtain⟨ds,e2,rfl⟩:=NS.mp (show (kh _).map U5=some d from e);cases (show u=NB a from r);obtain⟨J4,r1,⟨o,n,ho,hc,_,hd⟩,_⟩:=I.list (.inl (.inr ⟨ob,sm _ _ ha⟩));obtain⟨as,ra⟩:=aE.reads I sm hx r1 e2;exact⟨_,.list ho hc hd (by simpa using ra)⟩
 | _,_,u,d,.obj _ _,r,e=>by cases e
 | _,_,u,d,.qe _,r,e=>by cases e
 | _,_,u,d,.og _ _ _,r,e=>by cases e
 | _,_,u,d,.emp _,r,e=>by cases e
 | _,_,u,d,.wg _ _,r,e=>by cases e
theorem aE.reads{Hs:Hp}(I:Inv X J0 σ H s)(sm:aX Hs H):∀ {p:List PV} {v:List V} {u:List Value} {d:List PyData},aE Hs p v->Vals v u->kh p=some d->∃ as,ReadsAll s.heap u d as
 | _,_,_,_,.nil,.nil,e=>by cases e;exact⟨_,.nil⟩
 | _,_,_,d,.cons (p:=p) (ps:=ps) h hr,.cons r rr,e=>by
  obtain⟨d1,e1,e2⟩:=QK.mp (show (dat p).bind (λd=>(kh ps).map (d::·))=some d from e);obtain⟨ds,e3,rfl⟩:=NS.mp e2;obtain⟨as,ra⟩:=Rep.reads I sm h r e1;obtain⟨bs,rb⟩:=aE.reads I sm hr rr e3;exact⟨_,.cons ra rb⟩
end
def DI(d e:PyData):M Bool:=cp (shaped d=true/\shaped e=true/\noMix d e=true) (M.ok (same d e))
def n9(o:Bool->PV)(p q:PV):M PV:=match dat p,dat q with
 | some d,some e=>(DI d e).bind λb=>M.ok (o b)
 | _,_=>none
def rg:PV->PV->M PV:=n9 λb=>.bl b
def pG:PV->PV->M PV:=n9 λb=>.bl (!b)
def zd(o:Bool->Bool):R2:=λx y H Q=>∃ Hs p q d e,aX Hs H/\Rep Hs p x/\Rep Hs q y/\dat p=some d/\dat q=some e/\shaped d=true/\shaped e=true/\noMix d e=true/\Q (.bl (o (same d e))) H
theorem zJ(hu:X.A.units+64<cLine):fD X (compareOp .Eq) (zd id):=by
 intro J0 s σ H x y v u Q I rx ry h;obtain⟨Hs,p,q,d,e,sm,rp,rq,hd,he,h1,h2,h3,hq⟩:=h;obtain⟨as,ra⟩:=Rep.reads I sm rp rx hd;obtain⟨bs,rb⟩:=Rep.reads I sm rq ry he;exact eq_dataH_same ra rb h1 h2 hu h3 (jo I hq rfl)
theorem z6(hu:X.A.units+64<cLine):fD X (compareOp .NotEq) (zd not):=by
 intro J0 s σ H x y v u Q I rx ry h;obtain⟨Hs,p,q,d,e,sm,rp,rq,hd,he,h1,h2,h3,hq⟩:=h;obtain⟨as,ra⟩:=Rep.reads I sm rp rx hd;obtain⟨bs,rb⟩:=Rep.reads I sm rq ry he;exact ne_dataH_same ra rb h1 h2 hu h3 (jo I hq rfl)
theorem yg{o:Bool->Bool}:jI E (zd o) (n9 λb=>.bl (o b)):=by
 intro σ Hs H p q v u Q s rp rq h;unfold n9 at h
 split at h
 .rename_i d e hd he;have h':=aq.bind h;obtain⟨⟨h1,h2,h3⟩,h⟩:=aq.cp h';exact⟨Hs,p,q,d,e,s,rp,rq,hd,he,h1,h2,h3,cT.flat h s (.bl _)⟩
 .exact h.elim
theorem CD:jI E (zd id) rg:=yg
theorem B5:jI E (zd not) pG:=yg
def i7(xs:List PV)(lo hi:Option Int):List PV:=(xs.drop (HT.cS xs.length 0 lo)).take (HT.cS xs.length xs.length hi-HT.cS xs.length 0 lo)
theorem aE.cut(r:aE H xs vs)(lo hi:Option Int):aE H (i7 xs lo hi) (rJ vs lo hi):=by
 unfold i7 rJ;rw[r.length];exact(r.drop _).take _
abbrev FH(Q:Option Int->Hp->Prop):Hp->Hp->Option Int->Prop:=λHs H k=>∀ J3 H',bc Hs H J3 H'->Q k H'
def G7(E:St->XK)(g:ae->M (Option Int)):TO:=fun σ H Q=>tG E g (FH Q) σ H
theorem PO.imp{e:Option Expr}{t t':TO}(h:PO X e t)(i:∀ σ H Q,t' σ H Q->t σ H Q):PO X e t':=λJ0 s σ H Q I q=>h J0 s σ H Q I (i σ H Q q)
def uk:PV->M (Option Int)
 | .int i=>M.ok (some i)
 | _=>none
def ix:ae->M (Option Int):=λ_=>M.ok none
def cz(f:ae->M PV):ae->M (Option Int):=λenv=>(f env).bind uk
section
variable{lo hi:Option Expr}{p2:Pos}{f:ae->M PV}{gl gh:ae->M (Option Int)}
theorem FH.g{Q:Option Int->Hp->Prop}:KG (FH Q):=λHs H J3 H' b k g J5 H2 g2=>k J5 H2 (g.trans g2)
theorem dM:PO X none (G7 E ix):=Bw.imp fun σ H Q q=>by
 obtain⟨B,H₀,Hs,env,sr,q⟩:=q;exact q Hs H (.refl sr.gr.sub)
theorem dc(he:PE X e (tE E f)):PO X (some e) (G7 E (cz f)):=(Bc he).imp fun σ H Q q=>bD (K:=FH Q) FH.g q λB H₀ Hs H1 env p v sr rp hp=>by
 cases rp with
 | int i=>exact⟨i,rfl,hp Hs H1 (.refl sr.gr.sub)⟩
 | _=>exact hp.elim
end
def fX(xs:List PV):List PV:=xs.mapIdx λi x=>.tup [.int (i:Nat),x]
section
variable{K:Nr}{fs:ae->M (List PV)}
theorem om(hq:∀ J3 H',aX J6 J3->aX J3 H'->gc K H' a vs)(hr:aE J6 xs vs):jk (E_ K a) J6 (fX xs) where
 stop:=λi Hs H s1 s2 hi=>by
  unfold fX at hi;rw[Pq,hr.length] at hi;exact⟨vs,hq Hs H s1 s2,hi⟩
 go:=λi Hs H s1 s2 hi=>by
  unfold fX at hi;rw[Pq] at hi;obtain⟨v,e,_⟩:=hr.get (Nt hi);exact⟨vs,v,hq Hs H s1 s2,e⟩
 tU:=λi Hs H x H2 s1 s2 hi y=>by
  unfold fX at hi;rw[Pq] at hi;obtain⟨v,e,r⟩:=hr.get (Nt hi);obtain⟨pa,v',hn,rfl,rfl,y1⟩:=y;have z1:=y1 vs (hq Hs H s1 s2);rw[e] at z1;cases z1;have gr:=bc.new (o:=.tup [.int (i:Nat),v]) s2 hn;refine⟨.tup [.int (i:Nat),xs[i]],_,?_,gr,.tup az (.cons (.int _) (.cons ((r.mono s1).mono gr.st) .nil))⟩;unfold fX;rw[SW,Nt hi];rfl
end
end
section
variable{K:Nr}{fs:ae->M (List PV)}
theorem aE.three{q r:PV}(h:aE H [p,q,r] vs):∃ v u w,vs=[v,u,w]/\Rep H p v/\Rep H q u/\Rep H r w:=by
 cases h with
 | cons h r=>obtain⟨u,w,rfl,h2,h3⟩:=r.two;exact⟨_,_,_,rfl,h,h2,h3⟩
end
def hV:List PV->List PV->List PV->List PV
 | x::xs,y::ys,z::zs=>.tup [x,y,z]::hV xs ys zs
 | _,_,_=>[]
theorem oP:∀ {xs ys zs:List PV} {i:Nat} (h1:i<xs.length) (h2:i<ys.length) (h3:i<zs.length),(hV xs ys zs)[i]?=some (.tup [xs[i],ys[i],zs[i]])
 | x::xs,y::ys,z::zs,0,_,_,_=>rfl
 | x::xs,y::ys,z::zs,i+1,h1,h2,h3=>by
  show (hV xs ys zs)[i]?=_;exact oP (xs:=xs) (ys:=ys) (zs:=zs) (i:=i) (by simpa using h1) (by simpa using h2) (by simpa using h3)
 | [],_,_,_,h1,_,_=>by simp at h1
 | _::_,[],_,_,_,h2,_=>by simp at h2
 | _::_,_::_,[],_,_,_,h3=>by simp at h3
theorem iU:∀ {xs ys zs:List PV},(hV xs ys zs).length=min xs.length (min ys.length zs.length)
 | x::xs,y::ys,z::zs=>by
  show (hV xs ys zs).length+1=_;rw[iU];simp only[OQ];lia
 | [],_,_=>by simp[hV]
 | _::_,[],_=>by simp[hV]
 | _::_,_::_,[]=>by simp[hV]
def qE:List PV->M (List PV)
 | [p,q,r]=>match aW p,aW q,aW r with
  | some xs,some ys,some zs=>M.ok (hV xs ys zs)
  | _,_,_=>none
 | _=>none
section
variable{K:Nr}{fs:ae->M (List PV)}
theorem wG{b1 b2 b3:Bool}{a1 a2 a3:Addr}{ys zs:List PV}{us ws:List V}(Km:∀ J3 H',aX J6 J3->aX J3 H'->i6 K H' b1 a1 vs)(LR:aE J6 xs vs)(Kn:∀ J3 H',aX J6 J3->aX J3 H'->i6 K H' b2 a2 us)(Mb:aE J6 ys us)
  (Ly:∀ J3 H',aX J6 J3->aX J3 H'->i6 K H' b3 a3 ws) (Nc:aE J6 zs ws):jk (Hi K b1 b2 b3 a1 a2 a3) J6 (hV xs ys zs) where
 stop:=λi Hs H s1 s2 hi=>by
  rw[iU,LR.length,Mb.length,Nc.length] at hi;exact⟨vs,us,ws,Km Hs H s1 s2,Kn Hs H s1 s2,Ly Hs H s1 s2,by lia⟩
 go:=λi Hs H s1 s2 hi=>by
  rw[iU] at hi;obtain⟨v,e,_⟩:=LR.get (Nt (show i<xs.length by lia));obtain⟨u,e',_⟩:=Mb.get (Nt (show i<ys.length by lia));obtain⟨w,e'',_⟩:=Nc.get (Nt (show i<zs.length by lia));exact⟨vs,us,ws,v,u,w,Km Hs H s1 s2,Kn Hs H s1 s2,Ly Hs H s1 s2,e,e',e''⟩
 tU:=λi Hs H x H2 s1 s2 hi y=>by
  rw[iU] at hi;have l1:i<xs.length:=by lia
  have l2:i<ys.length:=by lia
  have l3:i<zs.length:=by lia
  obtain⟨v,e,r⟩:=LR.get (Nt l1);obtain⟨u,e',r'⟩:=Mb.get (Nt l2);obtain⟨w,e'',r''⟩:=Nc.get (Nt l3);obtain⟨pa,v',u',w',hn,rfl,rfl,y1,y2,y3⟩:=y;have z1:=y1 vs (Km Hs H s1 s2);have z2:=y2 us (Kn Hs H s1 s2);have z3:=y3 ws (Ly Hs H s1 s2);rw[e] at z1;cases z1;rw[e'] at z2;cases z2;rw[e''] at z3;cases z3;have gr:=bc.new (o:=.tup [v,u,w]) s2 hn;exact⟨_,_,oP l1 l2 l3,gr,.tup az (.cons ((r.mono s1).mono gr.st) (.cons ((r'.mono s1).mono gr.st) (.cons ((r''.mono s1).mono gr.st) .nil)))⟩
theorem vY{ps:List PV}{Q:List PV->Prop}{F:EX->Prop}(h:aq (qE ps) Q F):∃ p q r xs ys zs,ps=[p,q,r]/\aW p=some xs/\aW q=some ys/\aW r=some zs/\Q (hV xs ys zs):=by
 unfold qE at h
 split at h
 .split at h
  .exact⟨_,_,_,_,_,_,rfl,by assumption,by assumption,by assumption,h⟩
  .exact h.elim
 .exact h.elim
theorem qX:zG E (Cc K (tL E fs)) (lJ qE fs):=by
 intro σ H R q;refine dP (K:=KI R) KI.g q λB H₀ Hs H1 env ps v sr rp hp=>?_;obtain⟨p,q,r,xs,ys,zs,rfl,e1,e2,e3,hp⟩:=vY hp;obtain⟨w,u,z,rfl,Lj,ru,rz⟩:=rp.three;obtain⟨b1,a1,vs,rfl,Km,LR⟩:=iI (K:=K) sr.gr.sub Lj e1;obtain⟨b2,a2,us,rfl,Kn,Mb⟩:=iI (K:=K) sr.gr.sub ru e2;obtain⟨b3,a3,ws,rfl,Ly,Nc⟩:=iI (K:=K) sr.gr.sub rz e3;exact⟨b1,b2,b3,a1,a2,a3,rfl,⟨vs,Km Hs H1 (λ_ _ z=>z) sr.gr.sub⟩,⟨us,Kn Hs H1 (λ_ _ z=>z) sr.gr.sub⟩,⟨ws,Ly Hs H1 (λ_ _ z=>z) sr.gr.sub⟩,hp _ Hs H1 (.refl sr.gr.sub) (wG Km LR Kn Mb Ly Nc)⟩
end
def mz(i j k:Nat):PV->ae->M ae
 | .tup [p,q,r],env=>M.ok (((env.set i (some (.sh p))).set j (some (.sh q))).set k (some (.sh r)))
 | _,_=>none
theorem u0{E:XK}{K:Nr}:wJ E (fy K 3 (bp (aL i) (bp (aL j) (bp (aL k) fF)))) (mz i j k):=by
 intro B H₀ Hs H σ env p v Q Z sr r h;cases r with
 | @tup a xs vs ha hx =>
  match xs,hx with
  | [p,q,r],hx =>
   obtain⟨v,u,w,rfl,rp,rq,rr⟩:=hx.three;exact⟨a,[v,u,w],rfl,ff.of (sr.gr.sub _ _ ha),rfl,v,[u,w],rfl,u,[w],rfl,w,[],rfl,rfl,h _ (((sr.set rp).set rq).set rr)⟩
  | [],_=>exact h.elim
  | [_],_=>exact h.elim
  | [_,_],_=>exact h.elim
  | _::_::_::_::_,_=>exact h.elim
 | _=>exact h.elim
theorem lT:kT (mz i j k):=λp env e h n=>by
 unfold mz at h
 split at h
 .cases h;exact gH (gH (gH n))
 .cases h
def Bj(set:PV->ae->M ae)(f:ae->M PV):ae->M Out:=λenv=>(f env).bind λp=>(set p env).bind λJ2=>M.ok (.nx J2)
section
variable{E:XK}{fs:ae->M (List PV)}{f h:ae->M PV}{x:Str}
theorem xy{g:TG}{set:PV->ae->M ae}(hg:PG X tg g)(LU:wJ E g set)(he:PE X e (tE (λ_=>E) f))(hs:autoParam (swapsWithSole [tg] e pos.line X.env=pure false) aR._auto_1)(hw:autoParam (swappedStores [tg] e X.env=pure none) aR._auto_1)
  (h1:autoParam ((assignEach [tg] X.env).map (·.2)=[assign tg X.env]) aR._auto_1):PS X (.Assign [tg] e pos) (tS E (Bj set f)):=by
 refine(yR he hg hs hw h1).imp λD σ H q=>gq q λB H₀ Hs H1 env p v sr rp hp=>?_;exact LU B H₀ Hs H1 σ env p v _ _ sr rp ((aq.bind hp).imp (λJ2 he' σ' K5=>he' σ' Hs H1 K5) λ_ z=>z)
def ownAt(i:Nat)(env:ae):M (List PV):=match env[i]? with
 | some (some (.ow xs))=>M.ok xs
 | _=>none
theorem aq.own{env:ae}{Q:List PV->Prop}{F:EX->Prop}(h:aq (ownAt i env) Q F):∃ xs,env[i]?=some (some (.ow xs))/\Q xs:=by
 unfold ownAt at h
 split at h
 .exact⟨_,by assumption,h⟩
 .exact h.elim
def Ck(i:Nat)(xs:List PV)(p:PV)(env:ae):PV->M Out
 | .int n=>match wH xs.length n with
  | some j=>M.ok (.nx (env.set i (some (.ow (xs.set j p)))))
  | none=>none
 | _=>none
def IM(i:Nat)(g f:ae->M PV):ae->M Out:=λenv=>(f env).bind λp=>(ownAt i env).bind λxs=>(g env).bind (Ck i xs p env)
theorem Gw{ie:Expr}(hi:X.N[i]?=some x)(hv:z8 X.env.scope x)(hk:PE X ie (tE (λ_=>E) h))(he:PE X e (tE (λ_=>E) f))(hd:autoParam ((x==("__debug__" : Str))=false) aD._auto_1)(KC:autoParam ((x==("__classdict__" : Str))=false) aD._auto_1)
  (ha:autoParam (∀ v,assign (.Subscript (.Name x px) ie pos') X.env v=(do
   let ov <- holding [v] (eval (.Name x px) X.env)
   let iv <- holding [v,ov] (eval ie X.env)
   standAt pos'
   holding [v,ov,iv] (setItem ov iv v)
   release [v,ov,iv] [])) aI._auto_1)
  (hs:autoParam (swapsWithSole [.Subscript (.Name x px) ie pos'] e pos.line X.env=pure false) aR._auto_1) (hw:autoParam (swappedStores [.Subscript (.Name x px) ie pos'] e X.env=pure none) aR._auto_1)
  (h1:autoParam ((assignEach [.Subscript (.Name x px) ie pos'] X.env).map (·.2)=[assign (.Subscript (.Name x px) ie pos') X.env]) aR._auto_1):PS X (.Assign [.Subscript (.Name x px) ie pos'] e pos) (tS E (IM i h f)):=by
 refine(yR he (DP (ji hi hv hd KC) hk set_list ha) hs hw h1).imp λD σ H q=>gq q λB H₀ Hs H1 env p v sr rp hp=>?_;obtain⟨xs,ex,hp⟩:=aq.own (aq.bind hp);obtain⟨a,vs,h1,h2,h3,h4,h5⟩:=sr.ow i xs ex;refine⟨.ref a,h1,B,H₀,Hs,env,sr,(aq.bind hp).imp (λk hk w J5 H2 g2 rk=>?_) λe he=>he.grow sr.gr⟩;have Kg:=sr.grow g2;cases rk with
 | int n =>
  have M6:aq (match wH xs.length n with | some j=>M.ok (Out.nx (env.set i (some (.ow (xs.set j p))))) | none=>none) (KS D B H₀) (XW E B H₀):=hk
  split at M6
  .rename_i j ej;exact⟨a,vs,n,j,rfl,rfl,g2.al _ _ h2,by rw[<- h5.length];exact ej,M6 σ J5 _ (Kg.put ex h1 ((h5.mono g2.st).set (rp.mono g2.st) j))⟩
  .exact M6.elim
 | _=>exact hk.elim
end
theorem KO.gr{Q:VK}:KG (KO Q):=λHs H J3 H' b k g vs p J5 H2 g2 r n=>k vs p J5 H2 (g.trans g2) r n
section
variable{sem:List PV->M (List PV)}{p:Pos}{o:Expr}{fs:ae->M (List PV)}{g:ae->M PV}
end
mutual
def rm:PV->Bool
 | .bz=>true
 | .bl _=>true
 | .int _=>true
 | .str _=>true
 | .tup xs=>pq xs
 | _=>false
def pq:List PV->Bool
 | []=>true
 | p::r=>rm p&&pq r
end
mutual
theorem Rep.away{Hs:Hp}{a:Addr}{ws:List V}(ha:Hs a=some (.lst ws)):∀ {p:PV} {v:V},Rep Hs p v->rm p=true->Rep (rem Hs a) p v
 | _,_,.bz,_=>.bz
 | _,_,.bl b,_=>.bl b
 | _,_,.int b,_=>.int b
 | _,_,.str b,_=>.str b
 | _,_,.tup (a:=c) h r,n=>by
  have nc:c≠a:=λz=>by subst z;rw[ha] at h;cases h
  exact .tup (by unfold rem;rw[if_neg nc];exact h) (r.away ha n)
 | _,_,.lst _ _,n=>by cases n
 | _,_,.iw _ _,n=>by cases n
 | _,_,.obj _ _,n=>by cases n
 | _,_,.qe _,n=>by cases n
 | _,_,.og _ _ _,n=>by cases n
 | _,_,.emp _,n=>by cases n
 | _,_,.wg _ _,n=>by cases n
theorem aE.away{Hs:Hp}{a:Addr}{ws:List V}(ha:Hs a=some (.lst ws)):∀ {p:List PV} {v:List V},aE Hs p v->pq p=true->aE (rem Hs a) p v
 | _,_,.nil,_=>.nil
 | _,_,.cons h r,n=>by
  have n':=OU.mp (show (rm _&&pq _)=true from n);exact .cons (h.away ha n'.1) (r.away ha n'.2)
end
def yQ:M PV->M PV
 | some (.ok p)=>cp (rm p=true) (M.ok p)
 | _=>none
def xZ:M Bool->M Bool
 | some (.ok p)=>M.ok p
 | _=>none
theorem aq.yQ{r:M PV}{Q:PV->Prop}{E:EX->Prop}(h:aq (L2.yQ r) Q E):aq r (λp=>rm p=true/\Q p) (λ_=>False):=by
 cases r with
 | none=>exact h
 | some r=>cases r with
  | error e=>exact h
  | ok p =>
   obtain⟨n,h⟩:=aq.cp h;exact⟨n,h⟩
theorem aq.xZ{r:M Bool}{Q:Bool->Prop}{E:EX->Prop}(h:aq (L2.xZ r) Q E):aq r Q (λ_=>False):=by
 cases r with
 | none=>exact h
 | some r=>cases r with
  | error e=>exact h
  | ok p=>exact h
theorem bc.back{J3 H':Hp}{ws:List V}(h1:Hs a=none)(hH:H a=some (.lst ws))(s:aX Hs H)(g:bc (upd Hs a (.lst ws)) H J3 H'):bc Hs H (rem J3 a) H'/\J3 a=some (.lst ws):=by
 have e:J3 a=some (.lst ws):=g.st _ _ az;refine⟨⟨λc u q=>?_,g.al,λc u q=>?_,λc u q1 q2 q3=>?_⟩,e⟩
 .have nc:c≠a:=λz=>by subst z;rw[h1] at q;cases q
  unfold rem;rw[if_neg nc];exact g.st c u (by rw[av nc];exact q)
 .unfold rem at q
  split at q
  .cases q
  .exact g.sub c u q
 .unfold rem
  by_cases nc:c=a
  .rw[if_pos nc]
  .rw[if_neg nc];exact g.nw c u (by rw[av nc];exact q1) q2 q3
theorem SR.lend{B:Hp}{env:ae}(r:SR B H₀ Hs H σ env)(e:env[i]?=some (some (.ow xs))):∃ a vs,Hs a=none/\H a=some (.lst vs)/\SR B H₀ (upd Hs a (.lst vs)) H σ (lX i env):=by
 obtain⟨a,vs,h1,h2,h3,_⟩:=r.Ft e;unfold lX;rw[e];exact⟨a,vs,h1,h2,h3⟩
def yS(i:Nat)(f:ae->M PV):ae->M PV:=λenv=>(ownAt i env).bind λ_=>yQ (f (lX i env))
section
variable{f:ae->M PV}{u:ae->M Bool}
theorem AE(i:Nat)(he:PE X e (tE E f)):PE X e (tE E (yS i f)):=he.imp fun σ H Q q=>by
 obtain⟨B,H₀,Hs,env,sr,q⟩:=q;obtain⟨xs,ex,q⟩:=aq.own (aq.bind q);obtain⟨a,vs,h3,h2,Kg⟩:=sr.lend ex;refine⟨B,H₀,_,_,Kg,(aq.yQ q).imp (λp hp v J3 H' g r=>?_) λ_ z=>z.elim⟩;obtain⟨g2,ea⟩:=bc.back h3 h2 sr.gr.sub g;exact hp.2 v _ _ g2 (r.away ea hp.1)
end
def cN:PV->PV->M PV:=ui (λ_ j=>decide (j≠0/\j.natAbs.log2<9000)) λi j=>i.fdiv j
def bT:PV->PV->M PV:=ui (λ_ j=>decide (j≠0)) λi j=>i.fmod j
def vJ:PV->PV->M PV:=ui (λi j=>decide (0<=j/\j<=1000000/\i.natAbs<2^64)) λi j=>i^j.toNat
def B1:PV->PV->M PV:=xu λi j=>decide (i<j)
def AB:PV->PV->M PV:=xu λi j=>decide (i<=j)
def Bn:PV->PV->M PV:=xu λi j=>decide (j<i)
def Cu:PV->PV->M PV:=xu λi j=>decide (j<=i)
theorem xm:jI E (rI xf λi j=>.int (i.fdiv j)) cN:=A4
theorem BK:jI E (rI (λ_ j=>j≠0) λi j=>.int (i.fmod j)) bT:=Dh
theorem BS:jI E (rI E3 λi j=>.int (i^j.toNat)) vJ:=DO
theorem sI:jI E (uV λi j=>.bl (decide (i<j))) B1:=ql
theorem lK:jI E (uV λi j=>.bl (decide (i<=j))) AB:=ql
theorem ya:jI E (uV λi j=>.bl (decide (j<i))) Bn:=ql
theorem zW:jI E (uV λi j=>.bl (decide (j<=i))) Cu:=ql
def bX(n:Nat)(s:List PV->M PV):List PV->M PV:=λps=>cp (ps.length=n) (s ps)
theorem mG{s:List PV->M PV}{ps:List PV}(h:bX n s ps≠none):ps.length=n:=by
 unfold bX cp at h
 split at h
 .assumption
 .exact(h rfl).elim
variable{dv:Value}
section
variable{K:Nr}
theorem yF{s:List PV->M PV}(F:bj P w K mg base (cD P w) k f fd ps (fE n s)):bj P w K mg base (cD P w) k f fd ps (fE n (bX n s)) where
 len:=λvs H Q E h=>by
  obtain⟨h0,Hs,qs,sm,r,h⟩:=h;exact F.len vs H Q E ⟨h0,Hs,qs,sm,r,(aq.cp h).2⟩
 run:=λA outer s H args us vs Q E hr e hb rv h=>by
  obtain⟨h0,Hs,qs,sm,r,h⟩:=h;exact F.run A outer s H args us vs Q E hr e hb rv ⟨h0,Hs,qs,sm,r,(aq.cp h).2⟩
structure gZ (P:Program) (w:World) (K:Nr) (mg:Str->Option Value) (base:Heap) (n:Nat) (x:Str) (m:Nat) (sem:List PV->M PV):Prop where
 ex:∃ (f:Addr) (fd:FuncData) (ps:List Str),mg x=some (.ref f)/\Oi K (.ref f)=true/\ps.length=m/\Binds K fd ps []/\bj P w K mg base (cD P w) n f fd ps (fE m (bX m sem))
theorem bK.JR{x:Str}{st:Stmt}{g:ae->M Out}(F:bK K x qual st dv f fd)(S:bx N ps (aC st))
  (hb:∀ (J8:Value) (A:Around) (outer:List Env) (s:Shared) (H:Hp) (E:XK),bR k (A.deeper (envOfC qual (aC st) s.heap.objs.size f J8))->d_ ((jh (cD P w) P w K mg base N qual (aC st) f J8 A outer s H E).out λ_=>E) (λ_=>E)->iG ((jh (cD P w) P w K mg base N qual (aC st) f J8 A outer s H E).out λ_=>E) (de st) (tS E g)) :
  bj P w K mg base (cD P w) (k+1) f fd ps (fE ps.length (bX ps.length (ba N.length g))):=by
 obtain⟨oc,od,kV,doc,pm,an,J8,ct,LW,rfl,lk,KC⟩:=F.ex;exact yF (Dj lk KC S λA outer s H E hr=>hb J8 A outer s H E hr (xj rfl rfl))
end
section
variable{m:Nat}{x:Str}{sem:List PV->M PV}{fs:ae->M (List PV)}{p:Pos}
theorem gZ.call(F:gZ X.prog X.w X.K X.mg X.base n x m sem)(hr:bR k X.A)(hn:n<=k)(hg:Gl X x)(O:d_ X E)(ha:PA X (e::es) (tL E fs))(KA:autoParam ((x==("__debug__" : Str))=false) aD._auto_1)(he:autoParam (starEach (e::es) X.env=(false,eval e X.env)::starEach es X.env) aR._auto_1)(Ka:autoParam ((backTo pos (starEach es X.env)).any (·.1)=false) aR._auto_1) :
  PE X (.Call (.Name x p) (e::es) [] pos) (tE E (aj (bX m sem) fs)):=by
 obtain⟨f,fd,ps,h1,h2,h3,h4,h5⟩:=F.ex;have:=As (p:=p) (Ld:=[]) h5 (hr.mono hn) hg h1 h2 h4 .nil (λ_=>.nil) O (λLf hp=>by rw[Og] at hp;exact mG hp) ha KA he Ka;refine this.imp fun σ H Q q=>?_;have e:(λps=>bX m sem (ps++[]))=bX m sem:=by funext ps;rw[Og]
 rw[e];exact q
structure ym (P:Program) (w:World) (K:Nr) (mg:Str->Option Value) (base:Heap) (C:Addr) (n:Nat) (x:Str) (m:Nat) (sem:List PV->M PV):Prop where
 ex:∃ (f:Addr) (fd:FuncData) (ps:List Str),j4 K C/\Meth K C x f/\Binds K fd ps []/\bj P w K mg base (cD P w) n f fd ps (fE m (bX m sem))
theorem ym.call{o:Expr}{g:ae->M PV}(F:ym X.prog X.w X.K X.mg X.base C n x m sem)(hr:bR k X.A)(hn:n<=k)(O:d_ X E)(ho:PE X o (tE E g))(ha:PA X (e::es) (tL E fs))
  (Kx:autoParam (starEach (e::es) X.env=(false,eval e X.env)::starEach es X.env) aR._auto_1) (Ka:autoParam ((backTo pos (starEach es X.env)).any (·.1)=false) aR._auto_1)
  (ht:autoParam (eval (.Call (.Attribute o x apos) (e::es) [] pos) X.env=(do
   let ov <- eval o X.env
   standAt apos.atName
   let (f,first) <- holding [ov] (getMethod ov x pl)
   callWith pos f first (backTo pos (starEach (e::es) X.env)) (backToKw pos (keywordEach [] X.env)))) aR._auto_1) :
  PE X (.Call (.Attribute o x apos) (e::es) [] pos) (tE E (dF C x (bX m sem) g fs)):=by
 obtain⟨f,fd,ps,h1,h2,h3,h4⟩:=F.ex;exact Ak ho h1 h2 h4 (hr.mono hn) h3 O (λLf hp=>mG hp) ha Kx Ka ht
theorem ym.F4{o:Expr}{g:ae->M PV}(F:ym X.prog X.w X.K X.mg X.base C n x m sem)(hr:bR k X.A)(hn:n<=k)(O:d_ X E)(ho:PE X o (tE E g))
  (ht:autoParam (eval (.Call (.Attribute o x apos) [] [] pos) X.env=(do
   let ov <- eval o X.env
   standAt apos.atName
   let (f,first) <- holding [ov] (getMethod ov x pl)
   callWith pos f first (backTo pos (starEach [] X.env)) (backToKw pos (keywordEach [] X.env)))) aR._auto_1) :
  PE X (.Call (.Attribute o x apos) [] [] pos) (tE E (dF C x (bX m sem) g ao)):=by
 obtain⟨f,fd,ps,h1,h2,h3,h4⟩:=F.ex;exact wN ho h1 h2 h4 (hr.mono hn) h3 O (λLf hp=>mG hp) ht
end
structure Cz (P:Program) (w:World) (K:Nr) (mg:Str->Option Value) (base:Heap) (C:Addr) (n:Nat) (x:Str) (m:Nat) (Ld:List PV) (sem:Addr->List PV->M (List (Str×PV))):Prop where
 ex:∃ (f:Addr) (fd:FuncData) (ps:List Str) (ds:List Value) (Kw:List V),mg x=some (.ref C)/\Mk K C f/\Binds K fd ps ds/\Vals Kw ds/\(∀ H,aE H Ld Kw)/\bj P w K mg base (cD P w) n f fd ps (CB m C sem)
def ku(m:Nat)(sem:Addr->List PV->M (List (Str×PV))):Addr->List PV->M (List (Str×PV)):=λa ps=>cp (ps.length+1=m) (sem a ps)
theorem wy{K:Nr}{s:Addr->List PV->M (List (Str×PV))}(F:bj P w K mg base (cD P w) k f fd ps (CB n C s)):bj P w K mg base (cD P w) k f fd ps (CB n C (ku n s)) where
 len:=λvs H Q E h=>by
  obtain⟨h0,a,dx,us,Hs,H1,qs,e1,e2,e3,e4,e5,sm,r,h⟩:=h;exact F.len vs H Q E ⟨h0,a,dx,us,Hs,H1,qs,e1,e2,e3,e4,e5,sm,r,(aq.cp h).2⟩
 run:=λA outer s H args us vs Q E hr e hb rv h=>by
  obtain⟨h0,a,dx,us',Hs,H1,qs,e1,e2,e3,e4,e5,sm,r,h⟩:=h;exact F.run A outer s H args us vs Q E hr e hb rv ⟨h0,a,dx,us',Hs,H1,qs,e1,e2,e3,e4,e5,sm,r,(aq.cp h).2⟩
theorem bK.Jm{K:Nr}{x:Str}{st:Stmt}{g:ae->M Out}(F:bK K x qual st dv f fd)(S:bx N ps (aC st))(hN:0<N.length)
  (hb:∀ (J8:Value) (A:Around) (outer:List Env) (s:Shared) (H:Hp) (E:XK),bR k (A.deeper (envOfC qual (aC st) s.heap.objs.size f J8))->d_ ((jh (cD P w) P w K mg base N qual (aC st) f J8 A outer s H E).out λ_=>E) (λ_=>E)->iG ((jh (cD P w) P w K mg base N qual (aC st) f J8 A outer s H E).out λ_=>E) (de st) (tS E g)) :
  bj P w K mg base (cD P w) (k+1) f fd ps (CB ps.length C (ku ps.length (nM N.length g C))):=by
 obtain⟨oc,od,kV,doc,pm,an,J8,ct,LW,rfl,lk,KC⟩:=F.ex;exact wy <| Az lk KC S hN λA outer s H E hr=>hb J8 A outer s H E hr (xj rfl rfl)
section
variable{m:Nat}{x:Str}{fs:ae->M (List PV)}{p:Pos}
theorem Cz.make{sem:Addr->List PV->M (List (Str×PV))}(F:Cz X.prog X.w X.K X.mg X.base C n x m Ld (ku m sem))(hr:bR k X.A)(hn:n+1<=k)(hg:Gl X x)(O:d_ X E)(ha:PA X (e::es) (tL E fs))(KA:autoParam ((x==("__debug__" : Str))=false) aD._auto_1)(he:autoParam (starEach (e::es) X.env=(false,eval e X.env)::starEach es X.env) aR._auto_1)(Ka:autoParam ((backTo pos (starEach es X.env)).any (·.1)=false) aR._auto_1) :
  PE X (.Call (.Name x p) (e::es) [] pos) (tE E (aj (bZ C (ku m sem) Ld) fs)):=by
 obtain⟨f,fd,ps,ds,Kw,h1,h2,h4,h5,h6,h7⟩:=F.ex;refine Al (p:=p) h2 h7 (hr.mono hn) hg h1 h4 h5 h6 O (λa Lf hp=>?_) ha KA he Ka;unfold ku cp at hp
 split at hp
 .rename_i h;rwa [NO] at h
 .exact(hp rfl).elim
theorem u7{f:ae->M PV}(hg:Gl X "list")(hm:X.mg "list" = none)(he:PE X e (tE E f))(h1:autoParam (starEach [e] X.env=(false,eval e X.env)::starEach [] X.env) aR._auto_1)(Ka:autoParam ((backTo pos (starEach [] X.env)).any (·.1)=false) aR._auto_1) :
  PE X (.Call (.Name "list" p) [e] [] pos) (tO E (o3 f)):=by
 refine(oZ pd hg hm uT (c_ he iF h1) (by decide) (by decide) h1 Ka).imp fun σ H Q q=>bD (K:=KO Q) KO.gr q λB H₀ Hs H1 env p v sr rp hp=>?_;cases hs:aW p with
 | none=>rw[hs] at hp;exact hp.elim
 | some xs =>
  rw[hs] at hp;obtain⟨a,us,rfl,hq,hx⟩:=xa (K:=X.K) sr.gr.sub rp hs;exact⟨a,us,rfl,hq,λl n=>hp us l Hs H1 (.refl sr.gr.sub) hx n⟩
end
def ub:Addr->Option Bool:=λ_=>none
theorem ug{P:Addr->Bool->Prop}:∀ C b,ub C=some b->P C b:=λ_ _ h=>by cases h
theorem vr{x:Str}(i:Nat)(hN:autoParam (X.N[i]?=some x) aR._auto_1)(hv:z8 X.env.scope x:=by first | exact .inl rfl | exact .inr (.inl rfl) | exact .inr (.inr rfl))(hd:autoParam ((x==("__debug__" : Str))=false) aD._auto_1)(KC:autoParam ((x==("__classdict__" : Str))=false) aD._auto_1):PE X (.Name x pos) (tE E (ah i)):=Dm hN hv hd KC
theorem Cn{env:Env}(h:(match e with | .Starred ..=>true | _=>false)=false):starEach (e::es) env=(false,eval e env)::starEach es env:=by
 cases e <;> first | rfl | cases h
def iH:List Expr->Option (List Int)
 | []=>some []
 | .Constant (.int i) _ _::r=>(iH r).map (i::·)
 | _=>none
theorem vd:∀ {es:List Expr} {ns:List Int},iH es=some ns->PA X es (tL E λ_=>M.ok (ns.map PV.int))
 | [],_,h=>by cases h;exact zw
 | e::r,ns,h=>by
  obtain⟨i,j,p,rfl,h⟩:∃ i j p,e=.Constant (.int i) j p/\(iH r).map (i::·)=some ns:=by
   cases e <;> first
    | (cases h;done)
    | (rename_i c j p;cases c <;> first | (cases h;done) | exact⟨_,_,_,rfl,h⟩)
  obtain⟨ms,h1,rfl⟩:=NS.mp h;exact uI yj (vd h1) (Cn rfl)
theorem pW(ns:List Int)(h:autoParam (iH es=some ns) aR._auto_1)(hz:autoParam (ns.length<=1000) aD._auto_1):PE X (.List es pos) (tE E λ_=>M.ok (.lst (ns.map PV.int))):=by
 refine(zY (E:=E) (vd h)).imp fun σ H Q q=>?_;have e:(cO λ_=>M.ok (ns.map PV.int))=λ_=>M.ok (.lst (ns.map PV.int)):=by
  funext env
  show cp _ _=_;unfold cp;rw[if_pos (by rw[Nu];exact NZ hz (by decide))]
 rw[e];exact q
section
variable{a b:Expr}{f g:ae->M PV}
end
structure zp (K:Nr) (mg:Str->Option Value) (C:Addr) (x:Str):Prop where
 hc:Rb K C eg "ValueError.__new__" = true
 c:dk K C
 ht:Qi K (.ref C)=some (.type "type")
 kp:Oi K (.ref C)=true
 m:mg x=some (.ref C)
structure mK (P:Program) (w:World) (K:Nr) (mg:Str->Option Value) (base:Heap) (C:Addr) (x fl:Str):Prop where
 ex:∃ (f:Addr) (fd:FuncData) (ps:List Str),mB K C "ValueError.__new__" f=true/\P1 K (.ref f)=true/\bj P w K mg base (cD P w) 1 f fd ps (sT K C fl)/\Binds K fd ps []
 c:dk K C
 ht:Qi K (.ref C)=some (.type "type")
 kp:Oi K (.ref C)=true
 m:mg x=some (.ref C)
section
variable{E:XK}{p:Pos}{x fl:Str}{fs:ae->M (List PV)}
theorem zp.raise(F:zp X.K X.mg C x)(O:d_ X λ_=>E)(J7:X.calm=true)(hg:Gl X x)(ha:PA X (e::es) (tL (λ_=>E) fs))
  (KA:autoParam ((x==("__debug__" : Str))=false) aD._auto_1) (he:autoParam (starEach (e::es) X.env=(false,eval e X.env)::starEach es X.env) aR._auto_1) (Ka:autoParam ((backTo J9 (starEach es X.env)).any (·.1)=false) aR._auto_1) :
  PS X (.Raise (some (.Call (.Name x p) (e::es) [] J9)) none pos) (tS E (iE C fs)):=wF O J7 F.hc F.c F.ht F.kp hg F.m ha KA he Ka
theorem mK.raise(F:mK X.prog X.w X.K X.mg X.base C x fl)(hr:bR k X.A)(hn:2<=k)(O:d_ X λ_=>E)(J7:X.calm=true)(hg:Gl X x)(ha:PA X [e] (tL (λ_=>E) fs))
  (KA:autoParam ((x==("__debug__" : Str))=false) aD._auto_1) (he:autoParam (starEach [e] X.env=(false,eval e X.env)::starEach [] X.env) aR._auto_1) (Ka:autoParam ((backTo J9 (starEach [] X.env)).any (·.1)=false) aR._auto_1) :
  PS X (.Raise (some (.Call (.Name x p) [e] [] J9)) none pos) (tS E (cV C fl fs)):=by
 obtain⟨f,fd,ps,h1,h2,h3,h4⟩:=F.ex;exact vG O J7 h1 h2 F.c F.ht F.kp h3 (hr.mono hn) h4 hg F.m ha KA he Ka
end
def FE(i j:Nat)(env:ae):List PV->M Out
 | [p,q]=>M.ok (.nx ((env.set i (some (.sh p))).set j (some (.sh q))))
 | _=>none
def Dg(i j:Nat)(fs:ae->M (List PV)):ae->M Out:=λenv=>(fs env).bind (FE i j env)
theorem EM{E:XK}{x:Str}{a b:Expr}{fs:ae->M (List PV)}{py pt:Pos}{kt:Nat}{MJ:Pos}(hc:X.calm=true)(hN:X.N.Nodup)(hi:X.N[i]?=some x)(hj:X.N[j]?=some y)(hij:i≠j)
  (hx:X.env.scope.names.lookup x=some .local) (hy:X.env.scope.names.lookup y=some .local) (ha:PA X [a,b] (tL (λ_=>E) fs))
  (hw:swappedStores [.Tuple [.Name x px,.Name y py] kt pt] (.Tuple [a,b] k2 MJ) X.env=pure (some [x,y]))
  (hs:autoParam (swapsWithSole [.Tuple [.Name x px,.Name y py] kt pt] (.Tuple [a,b] k2 MJ) pos.line X.env=pure false) aR._auto_1) :
  PS X (.Assign [.Tuple [.Name x px,.Name y py] kt pt] (.Tuple [a,b] k2 MJ) pos) (tS E (Dg i j fs)):=by
 refine(D5 hc hN hi hj hij hx hy ha hw hs).imp λD σ H q=>lM q λB H₀ Hs H1 env ps v sr rp hp=>?_
 match ps,rp,hp with
 | [],_,hp=>exact hp.elim
 | [_],_,hp=>exact hp.elim
 | _::_::_::_,_,hp=>exact hp.elim
 | [p,q],rp,hp =>
  obtain⟨v,u,rfl,r1,r2⟩:=rp.two;exact⟨v,u,rfl,hp _ Hs H1 ((sr.set r1).set r2)⟩
theorem cT.emp{Hs H:Hp}{Q:VK}(h:cT Hs H Q .emp)(s:aX Hs H):∀ p,H p=none->Q (.ref p) (upd H p (.dK [])) :=
 λp n=>h _ (upd Hs p (.dK [])) _ (bc.new s n) (.emp az)
theorem EC:PE X (.Dict [] [] pos) (tE E λ_=>M.ok .emp):=by
 refine zF.imp fun σ H Q q=>?_;obtain⟨B,H₀,Hs,env,sr,q⟩:=q;exact cT.emp q sr.gr.sub
section
variable{c:Expr}{cl:List (Str×Addr)}{wi:TI}{it:ae->M (List PV)}{g:TG}{set:PV->ae->M ae}{f:ae->M PV}{fs:List Str}
variable{E:XK}{py Lz:Pos}
theorem Av(J7:X.calm=true)
  (Kq:closureFor scope X.env=pure cl) (hk:scope.kind=.function) (nc:gk scope.names=true) (lo:iW scope.names=true) (fh:iZ cl scope.names=true) (ag:eP X cl) (fr:iq X scope cl fs js)
  (hi:PI X tg iter wi) (hv:zG (λ_=>E) wi it) (hg:∀ C s₀ H₀ ex J0,PG (sA X scope cl (ts++fs) C s₀ H₀ ex J0) tg g) (LU:∀ E,wJ E g set) (so:kT set) (he:∀ C s₀ H₀ ex J0,PE (sA X scope cl (ts++fs) C s₀ H₀ ex J0) elt (tE EF f))
  (hN:X.N.Nodup) (hiy:X.N[i]?=some y) (hy:Loc X.env.scope y)
  (hs:autoParam (∀ x,foldedSetIterable iter X.env x=pure x) aI._auto_1) (Nf:autoParam (swapsWith (.ListComp elt [⟨tg,iter,[],0⟩] scope pos) (some (.Name y py)) Lz.line X.env=pure true) aR._auto_1)
  (hf:autoParam (X.fn y=true\/X.env.scope.names.lookup y=some .local) aF._auto_1) :
  PS X (.Assign [.Name y py] (.ListComp elt [⟨tg,iter,[],0⟩] scope pos) Lz) (tS E (cq i (cM (dn it set none f ts.length js)))):=by
 refine(uH hN hiy hy J7 Kq hk nc lo fh ag fr hi hg he hs Nf hf).imp λD σ H q=>?_;refine qF hv LU so ?_;obtain⟨B,H₀,Hs,env,sr,q⟩:=q;refine⟨B,H₀,Hs,env,sr,(aq.bind (aq.bind q)).imp (λps hp vs p J3 H' g r n=>?_) λe he=>he.grow sr.gr⟩;have gn:=bc.new (o:=.lst vs) g.sub n;exact hp _ _ _ ((sr.grow (g.trans gn)).set (.lst az (r.mono gn.st)))
end
section
variable{a:Expr}{ta:TA}{p:Pos}
end
section
variable{fs:ae->M (List PV)}{a:Expr}{p p2 pos2:Pos}
end
section
open AutoSeq1 (wpAny_loadPart')
theorem vQ(l:Addr)(items:Array Value)(n:Nat)(wg:Option Addr)(sl:Array (Option Value)) :
  Meets (Builtin.«enumerate.__new__» ⟨[.type "enumerate", .ref l],[]⟩) (λ_ R s=>s.heap.get? l=some { cls:=.type "tuple", dict:=wg,data:=.seq items n,slots:=sl } ∧
   R (.ok (.ret (.ref (s.heap.push { cls:=.type "tuple_iterator", data:=.fields #[.ref l,.int 0 0] }).objs.size)))
    { s with heap:=(s.heap.push { cls:=.type "tuple_iterator", data:=.fields #[.ref l,.int 0 0] }).push { cls:=.type "enumerate", data:=.fields #[.none,.bool false,.ref s.heap.objs.size,rawInt 0,.none,.none] } }) :=
 .of_wp λprog w A R s h=>by
  obtain⟨hp,g,d,tk,os⟩:=s;obtain⟨hl,h⟩:=h;have Nd:=sub_enumerate;have hL:Heap.IsTuple (Rj ⟨hp,g,d,tk,os⟩) l items:=⟨_,hl,rfl,n,rfl⟩
  wp_walk using Ru hl
  refine wpAny_stack_any λst=>Nx ?_
  split
  .rename_i c _ _ _ _ _;cases (c==OW "enumerate")
   .wp_walk using Ru hl,P4 hL
    exact⟨_,rfl,h⟩
   .wp_walk using Ru hl,P4 hL
    exact⟨_,rfl,h⟩
  .wp_walk using Ru hl,P4 hL
   exact⟨_,rfl,h⟩
section
variable{E:Value->Shared->Prop}
theorem uf(hL:s.heap.IsTuple l items)
  (h:∀ h',IsEnum h' (s.heap.objs.size+1) s.heap.objs.size 0 .none->h'.IsTupleIter s.heap.objs.size l 0->h'.objs.size=s.heap.objs.size+2 ->
   (∀ b o,s.heap.get? b=some o->h'.get? b=some o)->Q (.ref (s.heap.objs.size+1)) { s with heap:=h' }) :
  wpAny (model prog w) A (call (.type "enumerate") [.ref l]) Q E s:=by
 obtain⟨⟨c,wg,dt,sl⟩,hl,hc,n,hd⟩:=hL
 replace hc:c=.type "tuple" := hc
 replace hd:dt=.seq items n:=hd
 subst hc hd;refine T8 F.called_enumerate (by decide) (F.typeCall_enumerate_1 _) (F.newCall_enumerate_1 _) (λobj=>F.args_object_init_2 obj _) F.entry_enumerate_new
  (vQ l items n wg sl) ⟨hl,?_⟩
 have hz:(s.heap.push { cls:=.type "tuple_iterator", data:=.fields #[.ref l,.int 0 0] }).objs.size=s.heap.objs.size+1:=NY ..;show _/\_;rw[hz];have he:IsEnum ((s.heap.push { cls:=.type "tuple_iterator", data:=.fields #[.ref l,.int 0 0] }).push
   { cls:=.type "enumerate", data:=.fields #[.none,.bool false,.ref s.heap.objs.size,rawInt 0,.none,.none] }) (s.heap.objs.size+1) s.heap.objs.size 0 .none:=by
  have:=Ny (s.heap.push { cls:=.type "tuple_iterator", data:=.fields #[.ref l,.int 0 0] })
   (o:={ cls:=.type "enumerate", data:=.fields #[.none,.bool false,.ref s.heap.objs.size,rawInt 0,.none,.none] }) rfl
  rw[hz] at this;exact this
 refine⟨⟨_,he,rfl⟩,h _ he ⟨_,Nq _ (Ny _ rfl),rfl,rfl⟩ (by rw[NY,hz]) λb o x=>Nq _ (Nq _ x)⟩
end
theorem C2(hh:A.handled=none)(it t:Addr)(items:Array Value) :
  Draws prog w A it [it,t] items.size (λi v=>items[i]?=some v) (λi h=>h.IsTupleIter it t i/\h.IsTuple t items) where
 live:=λ_ _ st=>let ⟨⟨o,ho,_⟩,_⟩:=st;⟨o,ho⟩
 frame:=λ_ _ _ st hk=>by
  obtain⟨⟨o,ho,r⟩,⟨o2,LQ,r2⟩⟩:=st;exact⟨⟨o,hk it (by simp) o ho,r⟩,⟨o2,hk t (by simp) o2 LQ,r2⟩⟩
 item:=λi s Q E hi st hQ=>by
  obtain⟨st,tt⟩:=st;refine fI st tt (x:=items[i]) (by simp[hi]) λh' MD MN=>?_;refine hQ _ h' s.toks (by simp[hi]) ⟨MD,?_⟩ MN;obtain⟨o,ho,c1,_⟩:=st;obtain⟨o2,LQ,c2,r2⟩:=tt;refine⟨o2,(MN.2 t λz=>?_).trans LQ,c2,r2⟩;rw[z,ho] at LQ;cases LQ;rw[c1] at c2;exact absurd c2 (by decide)
 done:=λs Q E st hE=>ef hh st.1 st.2 (by simp) hE
def Df (K : Nr) (a : Addr) : It :=
  ⟨λi H => ∃ xs x, ff K H a xs /\ xs[i]? = some x,
   λi H y H' => ∃ p x, H p = none /\ y = .ref p /\ H' = upd H p (.tup [.int i, x]) /\ ∀ xs, ff K H a xs -> xs[i]? = some x,
   λi H => ∃ xs, ff K H a xs /\ xs.length <= i⟩
theorem tM{K:Nr}{tp:Pos}(a e it:Addr)(LV:e≠it):Turn P w K (.Tuple elts x1 tp) (Df K a) [e,it] e (λi h=>(∃ old,IsEnum h e it i old)/\h.IsTupleIter it a i) where
 mem:=by simp
 obj:=λi h st b hb=>by
  obtain⟨⟨old,he⟩,⟨o,e1,c,d⟩⟩:=st;rcases NJ.mp hb with z | z
  .subst z;exact⟨_,he,λv z=>by cases z⟩
  .have z':b=it:=by simpa using z
   subst z';exact⟨o,e1,λv z=>by rw[d] at z;cases z⟩
 keep:=λi h h' st k=>by
  obtain⟨⟨old,he⟩,⟨o,ho,r⟩⟩:=st;exact⟨⟨old,k e (by simp) _ he⟩,⟨o,k it (by simp) o ho,r⟩⟩
 item:=by
  intro X hP hw hK hc i J0 s σ H E I hf st hg;subst hP hw hK;obtain⟨xs,x,hq,hx⟩:=hg;obtain⟨J4,rv,p,hz⟩:=I.tuple hq;obtain⟨u,hu,ru⟩:=rv.get hx;obtain⟨⟨old,he⟩,hit⟩:=st;have L7:e<s.heap.objs.size:=Nz he;have MC:it<s.heap.objs.size:=by obtain⟨_,z,_⟩:=hit;exact Nz z
  have hea:e ∉ [it,a]:=λz=>by
   rcases NJ.mp z with z | z
   .exact LV z
   .obtain⟨o,ho,c,_⟩:=p;rw[<- N6.mp z,he] at ho;cases ho;exact absurd (show OW "enumerate" = OW "tuple" from c) (by decide)
  have hi':i<J4.toArray.size:=by
   have:=(N8.mp hu).1;simpa using this
  refine wpAny_pyNext_enum_itemD (C2 (A:=X.A.in1) (I.ok.hd hc) it a J4.toArray) he ⟨hit,p⟩ hi' LV hea λu' h' tk hu' ho Kx hT K7 hk=>⟨_,rfl,?_⟩
  have eu:u'=u:=by
   rw[List.getElem?_toArray,hu] at hu';exact(NQ hu').symm
  subst eu;refine RN (s:={ s with heap:=h',toks:=tk+1 }) ho λh2 he2 Li=>?_;have Me:∀ b o,b ∉ [e,it]->s.heap.get? b=some o->h2.get? b=some o:=λb o hb q=>by
   have n1:b≠e:=λz=>hb (by simp[z]);have n2:b≠it:=λz=>hb (by simp[z]);exact(Li.2 b n1).trans (hk b o n1 n2 q)
  have Mn:h2.get? s.heap.objs.size=some { cls:=.type "tuple", data:=.seq #[.int i tk,u'] }:=(Li.2 _ (Pd L7)).trans hT;have I2:Inv X J0 σ (upd H s.heap.objs.size (.tup [.int i,x])) { s with heap:=h2,toks:=tk+1 } :=
   I.iX (ch:=[e,it]) Me hf (NC _) (λb hb=>by
    rcases NJ.mp hb with z | z
    .subst z;exact⟨_,he⟩
    .have z':b=it:=by simpa using z
     subst z';obtain⟨o,z,_⟩:=hit;exact⟨o,z⟩)
    ⟨by show 2<=sizeLine;decide,[.int i tk,u'],.cons ⟨_,rfl⟩ (.cons ru .nil),⟨_,Mn,rfl,_,rfl⟩⟩
  have K4:H s.heap.objs.size=none:=I.bw.fresh (NC _);obtain⟨oi,hoi,ri⟩:=Kx.1;refine⟨.ref s.heap.objs.size,_,I2,rfl,⟨_,x,K4,rfl,rfl,λys hy=>by rw[I.kH hy hq];exact hx⟩,⟨⟨u',by simpa using he2⟩,⟨oi,(Li.2 it (O5 LV)).trans hoi,ri⟩⟩,λb hb=>?_⟩;have nb:b≠s.heap.objs.size:=by
   rcases NJ.mp hb with z | z
   .rw[z];exact NP L7
   .have z':b=it:=by simpa using z
    rw[z'];exact NP MC
  rw[av nb];exact(hf b hb).1
 done:=by
  intro X hP hw hK hc i J0 s σ H E I hf st hg;subst hP hw hK;obtain⟨xs,hq,hx⟩:=hg;obtain⟨J4,rv,p,hz⟩:=I.tuple hq;have hl:=rv.length;obtain⟨⟨old,he⟩,hit⟩:=st;obtain⟨f0,f1,f2,f3,f4,f5⟩:=hf it (by simp);have hT:s.TypeIs (.ref e) "enumerate" := ⟨_,he,rfl⟩
  unfold pyNext;refine Np (Qc (Of (name:=NF "__next__") hT F.slot_enumerate_next
   (OS F.slot_enumerate_next hT F.entry_enumerate_next ?_ (F.args_enumerate_next_1 _))))
  show wpAny _ _ (field (.ref e) 2 >>= _) _ _ _;refine Np (NV he rfl (x:=.ref it) rfl ?_);refine Np (ef (I.ok.hd hc) hit p (by simp;lia) λh' x he' hx'=>?_);obtain⟨o,ho,Mp⟩:=hx';refine Np (Sd (T := "StopIteration") (b:=true) ⟨o,ho,Mp⟩ SO ?_);exact Nx ⟨rfl,I.turned (t':=s.toks) (λb o hb e=>he' b o hb e) f0 f1 f3 f4 f5⟩
 self:=λ_ _ _ _ _ st h=>by
  obtain⟨⟨old,he⟩,_⟩:=st;exact QW he h
def FT(K:Nr)(tl:TA):TI:=fun σ H R=>tl σ H λvs H1=>∃ a,vs=[.ref a]/\(((∃ xs,gc K H1 a xs)/\R (E_ K a) H1)\/((∃ xs,ff K H1 a xs)/\R (Df K a) H1))
theorem gT{tp:Pos}{l:Expr}{p:Pos}(hg:Gl X "enumerate")(hm:X.mg "enumerate" = none)(hl:PA X [l] tl)(hs:autoParam (starEach [l] X.env=[(false,eval l X.env)]) aR._auto_1) :
  PI X (.Tuple elts x1 tp) (.Call (.Name "enumerate" p) [l] [] pos) (FT X.K tl):=by
 intro J0 s σ H R I h;refine Call_ (jf I hg hm PyProof.Rows.boot_enumerate (OV (cA (hl pos J0 s σ H _ I h) λus s1 ⟨vs,H1,I1,r1,q1⟩=>?_) hs rfl));obtain⟨a,e,q⟩:=q1;subst e;cases r1 with
 | cons r rr =>
  cases rr;cases (show _=NB a from r);have fp:∀ b∈[s1.heap.objs.size+1,s1.heap.objs.size],jZ X J0 H1 b:=λb hb=>by
   rcases NJ.mp hb with z | z
   .subst z;exact I1.rf (Rh _) (I1.bw.fresh (Rh _))
   .have z':b=s1.heap.objs.size:=by simpa using z
    subst z';exact I1.rf (NC _) (I1.bw.fresh (NC _))
  rcases q with ⟨⟨xs,hq⟩,q⟩ | ⟨⟨xs,hq⟩,q⟩
  .obtain⟨J4,rv,pl,hz⟩:=I1.list hq;refine call_enumerate_list pl.isList λh' he hit K7 hk=>?_;refine QW (s:={ s1 with heap:=h' }) he ?_;exact⟨s1.heap.objs.size+1,[s1.heap.objs.size+1,s1.heap.objs.size],_,_,H1,rfl,I1.kept (t':=s1.toks) hk,vF a _ _ (Uq _),⟨⟨_,he⟩,hit⟩,fp,q⟩
  .obtain⟨J4,rv,pl,hz⟩:=I1.tuple hq;refine uf pl λh' he hit K7 hk=>?_;refine QW (s:={ s1 with heap:=h' }) he ?_;exact⟨s1.heap.objs.size+1,[s1.heap.objs.size+1,s1.heap.objs.size],_,_,H1,rfl,I1.kept (t':=s1.toks) hk,tM a _ _ (Uq _),⟨⟨_,he⟩,hit⟩,fp,q⟩
def Ij(p:PV):M (List PV):=match aW p with
 | some xs=>M.ok (fX xs)
 | none=>none
def uv:List PV->M (List PV)
 | [p]=>Ij p
 | _=>none
section
variable{K:Nr}{fs:ae->M (List PV)}
theorem wQ(hq:∀ J3 H',aX J6 J3->aX J3 H'->ff K H' a vs)(hr:aE J6 xs vs):jk (Df K a) J6 (fX xs) where
 stop:=λi Hs H s1 s2 hi=>by
  unfold fX at hi;rw[Pq,hr.length] at hi;exact⟨vs,hq Hs H s1 s2,hi⟩
 go:=λi Hs H s1 s2 hi=>by
  unfold fX at hi;rw[Pq] at hi;obtain⟨v,e,_⟩:=hr.get (Nt hi);exact⟨vs,v,hq Hs H s1 s2,e⟩
 tU:=λi Hs H x H2 s1 s2 hi y=>by
  unfold fX at hi;rw[Pq] at hi;obtain⟨v,e,r⟩:=hr.get (Nt hi);obtain⟨pa,v',hn,rfl,rfl,y1⟩:=y;have z1:=y1 vs (hq Hs H s1 s2);rw[e] at z1;cases z1;have gr:=bc.new (o:=.tup [.int (i:Nat),v]) s2 hn;refine⟨.tup [.int (i:Nat),xs[i]],_,?_,gr,.tup az (.cons (.int _) (.cons ((r.mono s1).mono gr.st) .nil))⟩;unfold fX;rw[SW,Nt hi];rfl
theorem fc:zG E (FT K (tL E fs)) (lJ uv fs):=by
 intro σ H R q;refine dP (K:=KI R) KI.g q λB H₀ Hs H1 env ps v sr rp hp=>?_
 match ps,rp,hp with
 | [],_,hp=>exact hp.elim
 | _::_::_,_,hp=>exact hp.elim
 | [p],rp,hp =>
  obtain⟨w,rfl,Lj⟩:=rp.one;cases Lj with
  | lst ha hx=>exact⟨_,rfl,.inl ⟨⟨_,gc.of (sr.gr.sub _ _ ha)⟩,hp _ Hs H1 (.refl sr.gr.sub) (om (λJ3 H' s1 s2=>gc.of (s2 _ _ (s1 _ _ ha))) hx)⟩⟩
  | iw ha hx=>exact⟨_,rfl,.inl ⟨⟨_,.inl (.inr ⟨_,sr.gr.sub _ _ ha⟩)⟩,hp _ Hs H1 (.refl sr.gr.sub) (om (λJ3 H' s1 s2=>.inl (.inr ⟨_,s2 _ _ (s1 _ _ ha)⟩)) hx)⟩⟩
  | tup ha hx=>exact⟨_,rfl,.inr ⟨⟨_,ff.of (sr.gr.sub _ _ ha)⟩,hp _ Hs H1 (.refl sr.gr.sub) (wQ (λJ3 H' s1 s2=>ff.of (s2 _ _ (s1 _ _ ha))) hx)⟩⟩
  | _=>exact hp.elim
end
end
def Il(E:St->XK)(f:ae->M Out):TS:=λD σ H=>∃ B H₀ Hs env,SR B H₀ Hs H σ env/\aq (f env) (KS D B H₀) (XW (E σ) Hs H)
theorem vA{f:ae->M PV}{g:ae->PV->M Out}{D:Ends}{R:VK}(h:Il E (λenv=>(f env).bind (g env)) D σ H)
  (k:∀ B H₀ Hs H1 env p v,SR B H₀ Hs H1 σ env->Rep Hs p v->aq (g env p) (KS D B H₀) (λ_=>True)->R v H1):tE E f σ H R:=by
 obtain⟨B,H₀,Hs,env,sr,h⟩:=h;refine⟨B,H₀,Hs,env,sr,(aq.bind h).imp (λp hp v J3 H' g r=>?_) λe he=>he⟩;exact k B H₀ J3 H' env p v (sr.grow g) r (hp.imp (λ_ z=>z) λ_ _=>trivial)
section
variable{f:ae->M PV}{x:Str}
theorem BM(he:PE X e (tE E f))(hs:autoParam (swapsWith e none pos.line X.env=pure false) aR._auto_1):iG X [.Expr e pos] (Il E (jA f)):=by
 intro J0 s σ H D I q;exact gz (lF he hs) qp J0 s σ H D I (vA q λB H₀ Hs H1 env p v sr rp hp=>hp σ Hs H1 sr)
end
theorem SR.unset{B:Hp}{env:ae}(r:SR B H₀ Hs H σ env):SR B H₀ Hs H (σ.set i none) (env.set i none) :=
 r.chg r.gr (λ_ _ q=>q) (λ_ e=>nomatch e) (λ_ _ _ _ _ _ _ _ h1 h2 _=>⟨h1,h2⟩) λ_ e=>nomatch e
section
variable{f:ae->M PV}{x:Str}
end
abbrev Cx.mj(X:Cx)(pn:List (Addr×Obj)):Cx:={ X with pn:=pn }
abbrev Cx.hand(X:Cx)(ea:Addr):Cx:={ X with A:=X.A.mark (some (.ref ea)),calm:=false,xe:=λ_ _=>False }
section
variable{Lp:List (Addr×Obj)}{ea:Addr}
theorem Cx.Ok.mj(ok:X.Ok)(pn:List (Addr×Obj)):(X.mj pn).Ok:=⟨ok.mod,ok.kind,ok.glob,ok.blt,ok.above,ok.inj,ok.has,ok.CH,ok.hd,ok.frames,ok.DN,ok.Fp,ok.bs,ok.wI,ok.pL,ok.sd,ok.i5,ok.zS⟩
theorem Cx.Ok.mQ{pn:List (Addr×Obj)}(ok:(X.mj pn).Ok):X.Ok:=⟨ok.mod,ok.kind,ok.glob,ok.blt,ok.above,ok.inj,ok.has,ok.CH,ok.hd,ok.frames,ok.DN,ok.Fp,ok.bs,ok.wI,ok.pL,ok.sd,ok.i5,ok.zS⟩
theorem Cx.Ok.hand(ok:X.Ok)(ea:Addr):(X.hand ea).Ok:=⟨ok.mod,ok.kind,ok.glob,ok.blt,ok.above,ok.inj,ok.has,ok.CH,(λz=>nomatch z),ok.frames,ok.DN,ok.Fp,ok.bs,ok.wI,ok.pL,ok.sd,ok.i5,ok.zS⟩
theorem Inv.mj(I:Inv X J0 σ H s):Inv (X.mj (X.pn++J0)) [] σ H s:=⟨I.ok.mj _,I.os,I.bare,I.base,I.loc,I.cell,I.free,I.eQ,(λp hp=>I.pin p (by rw[Og] at hp;exact hp)),I.bw,I.len⟩
theorem Inv.mQ(I:Inv (X.mj (X.pn++J0)) Lp σ H s):Inv X J0 σ H s:=⟨I.ok.mQ,I.os,I.bare,I.base,I.loc,I.cell,I.free,I.eQ,(λp hp=>I.pin p (Rc _ hp)),I.bw,I.len⟩
theorem Inv.hand(I:Inv X J0 σ H s)(ea:Addr):Inv (X.hand ea) J0 σ H s:=⟨I.ok.hand ea,I.os,I.bare,I.base,I.loc,I.cell,I.free,I.eQ,I.pin,I.bw,I.len⟩
theorem Inv.gi(I:Inv (X.hand ea) J0 σ H s)(ok:X.Ok):Inv X J0 σ H s:=⟨ok,I.os,I.bare,I.base,I.loc,I.cell,I.free,I.eQ,I.pin,I.bw,I.len⟩
theorem Inv.yA(I:Inv X J0 σ (kB Hc ea T C dd fl) s)(h1:Hc ea=some (fG C dd ea))(h2:Hc T=none)(h3:T≠ea):Inv X J0 σ Hc s:=by
 have no:∀ b,kB Hc ea T C dd fl b=none->Hc b=none:=λb e=>by
  by_cases z:b=ea
  .rw[z,lO] at e;cases e
  .by_cases z2:b=T
   .rw[z2];exact h2
   .rw[gU z z2] at e;exact e
 have so:∀ b o,kB Hc ea T C dd fl b=some o->(∀ φ,o≠.ext φ)->Hc b=some o:=λb o e n=>by
  by_cases z:b=ea
  .rw[z,lO] at e;cases e;exact absurd rfl (n _)
  .by_cases z2:b=T
   .rw[z2,mw h3] at e;cases e;exact absurd rfl (n _)
   .rw[gU z z2] at e;exact e
 refine⟨I.ok,I.os,I.bare,⟨I.base.keep,I.base.slot,λb o e n hx=>no b (I.base.free b o e n hx),I.base.there,λb xs e=>so b _ (I.base.mi b xs e) (λ_ z=>nomatch z),λb o u e=>so b _ (I.base.jj b o u e) (λ_ z=>nomatch z),λb ps e=>?_⟩,I.loc,I.cell,no _ I.free,λx c e=>no _ (I.eQ x c e),λp hp=>?_,λb o e=>?_,I.len⟩
 .obtain⟨more,q⟩:=I.base.mV b ps e;exact⟨more,so b _ q λ_ z=>nomatch z⟩
 .obtain⟨e,n,r⟩:=I.pin p hp;exact⟨e,no _ n,r⟩
 .by_cases z:b=ea
  .subst z;rw[h1] at e;cases e;obtain⟨vs,_,_,hx,_⟩:=I.vj h3;exact AG hx
  .by_cases z2:b=T
   .rw[z2,h2] at e;cases e
   .refine(I.bw b o (by rw[gU z z2];exact e)).jK (λ_ _ _ q=>q) (λc q=>so c _ q λ_ z=>nomatch z) λc xs q=>so c _ q λ_ z=>nomatch z
theorem Inv.gone{E:Value->Shared->Prop}{n:Str}{Q:Unit->Shared->Prop}(I:Inv X J0 σ H s)(hN:X.N.Nodup)(hi:X.N[i]?=some n)(hx:X.env.scope.names.lookup n=some .local)
  (h:∀ s',Inv X J0 (σ.set i none) H s'->Q () s'):wpAny (model X.prog X.w) A (do bindName X.env n .none;unbindBehindTheSuite X.env n pos) Q E s:=by
 obtain⟨m,hn,hl⟩:=id I.loc;have wZ:=I.wZ;refine wpAny_nameGoes_keeps hx hn (by rw[I.ok.kind];rfl) λh' v M8 hs=>?_;obtain⟨oL,_,_,hoL,_⟩:=id hn;have tracked:j9 X.prog X.w H h':=λb ob e=>by
  refine(I.bw b ob e).jK (λc w' hc q=>(hs.2 c ?_).trans q) (λ_ q=>q) λ_ _ q=>q;rintro rfl;rcases hc with z | hc
  .rw[<- z,I.free] at e;cases e
  .rw[I.free] at hc;cases hc
 refine h _ ⟨I.ok,I.os,I.bare,⟨λb o e n hb hx=>?_,λb o e n hb hx=>?_,I.base.free,λb o e hx=>?_,I.base.mi,I.base.jj,I.base.mV⟩,⟨_,M8,λj y v' e1 e2 e3=>?_⟩,λy c e=>?_,I.free,I.eQ,λp hp=>?_,tracked,by simpa using I.len⟩
 .exact(hs.2 b (NP (NG (Nz e) I.ok.above))).trans (I.base.keep b o e n hb hx)
 .obtain⟨sl,e1⟩:=I.base.slot b o e n hb hx;exact⟨sl,(hs.2 b (NP (NG (Nz e) I.ok.above))).trans e1⟩
 .obtain⟨o',e1⟩:=I.base.there b o e hx;exact⟨o',(hs.2 b (NP (NG (Nz e) I.ok.above))).trans e1⟩
 .have hj:i≠j:=λz=>by
   subst z;rw[N5,if_pos rfl] at e2
   split at e2 <;> cases e2
  rw[Rf hj] at e2;obtain⟨u',r',q⟩:=hl j y v' e1 e2 e3;refine⟨u',r',?_⟩;rcases q with ⟨k,e⟩ | ⟨k,c,e,z⟩
  .refine .inl ⟨k,?_⟩;have:y≠n:=λe=>hj (ni hN hi (e▸e1));simp[this,e]
  .exact .inr ⟨k,c,e,z.sameBut hs (wZ y c e)⟩
 .obtain⟨w',z⟩:=I.cell y c e;exact⟨w',z.sameBut hs (wZ y c e)⟩
 .obtain⟨e,n,ne,nf,d⟩:=I.pin p hp;exact⟨(hs.2 p.1 ne).trans e,n,ne,nf,d⟩
end
abbrev Hd:=(Addr->Option Bool)×Option Nat×(ae->M Out)
def yH(i:Nat):Out->Out
 | .nx e=>.nx (e.set i none)
 | .bk e=>.bk (e.set i none)
 | .ct e=>.ct (e.set i none)
 | .rt p=>.rt p
def tF(o:Option Nat)(h:ae->M Out)(x:EX)(env:ae):M Out:=match o with
 | none=>Aa (h env)
 | some i=>(Aa (h (env.set i (some (.sh (.exc x.1 x.2)))))).bind λout=>M.ok (yH i out)
def ur(b:Option Bool)(x y:M Out):M Out:=match b with
 | some true=>x
 | some false=>y
 | none=>none
def fS:List Hd->EX->ae->M Out
 | [],_,_=>none
 | (t,o,h)::r,x,env=>ur (t x.1) (tF o h x env) (fS r x env)
def mq(r:M Out)(k:EX->M Out):M Out:=match r with
 | some (.error x)=>k x
 | r=>r
def sW(f:ae->M Out)(hs:List Hd):ae->M Out:=λenv=>mq (f env) λx=>fS hs x env
inductive B8 (X:Cx) (E:XK):List ExceptHandler->List Hd->Prop where
 | nil:B8 X E [] []
 | F5 {x:Str} {np pos:Pos} {b₀:Stmt} {La:List Stmt} {rest:List ExceptHandler} {t:Addr->Option Bool} {h:ae->M Out} {hs:List Hd} {D:Addr} (hg:Gl X x) (hm:X.mg x=some (.ref D)) (hd:(x==("__debug__" : Str))=false)
   (ht:∀ C b,t C=some b->PZ X.K (.ref C) (.ref D)=some b) (hb:∀ ea,iG (X.hand ea) (b₀::La) (tS E h)) (r:B8 X E rest hs):B8 X E (.ExceptHandler (some (.Name x np)) none (b₀::La) pos::rest) ((t,none,h)::hs)
 | uR {x n:Str} {i:Nat} {np pos:Pos} {b₀:Stmt} {La:List Stmt} {rest:List ExceptHandler} {t:Addr->Option Bool} {h:ae->M Out} {hs:List Hd} {D:Addr} (hg:Gl X x) (hm:X.mg x=some (.ref D)) (hd:(x==("__debug__" : Str))=false)
   (hN:X.N.Nodup) (hi:X.N[i]?=some n) (hx:X.env.scope.names.lookup n=some .local)
   (ht:∀ C b,t C=some b->PZ X.K (.ref C) (.ref D)=some b) (hb:∀ ea,iG (X.hand ea) (b₀::La) (tS E h)) (r:B8 X E rest hs):B8 X E (.ExceptHandler (some (.Name x np)) (some n) (b₀::La) pos::rest) ((t,some i,h)::hs)
variable{hd:List Hd}{hls:List ExceptHandler}
section
variable{B:Hp}{ea:Addr}{E:XK}{env:ae}{fo:Option (List (Str×PV))}{D:Ends}{F:Value->Shared->Prop}
theorem SP.gi{D:Ends}{f:Flow}{s':Shared}(h:SP (X.hand ea) J0 D f s')(ok:X.Ok):SP X J0 D f s':=by
 cases f with
 | next=>obtain⟨σ',H',I,q⟩:=h;exact⟨σ',H',I.gi ok,q⟩
 | brk=>obtain⟨σ',H',I,q⟩:=h;exact⟨σ',H',I.gi ok,q⟩
 | cont=>obtain⟨σ',H',I,q⟩:=h;exact⟨σ',H',I.gi ok,q⟩
 | ret u=>obtain⟨v,σ',H',I,r,q⟩:=h;exact⟨v,σ',H',I.gi ok,r,q⟩
theorem aq.err{r:M α}{Q:α->Prop}(h:aq r Q (λ_=>False)):aq r Q E':=h.imp (λ_ z=>z) λ_ z=>z.elim
def Ends.gone(D:Ends)(i:Nat):Ends:=⟨fun σ H=>D.nx (σ.set i none) H,D.rt,fun σ H=>D.bk (σ.set i none) H,fun σ H=>D.ct (σ.set i none) H⟩
theorem KS.gone{i:Nat}{o:Out}(h:KS D B H₀ (yH i o)):KS (D.gone i) B H₀ o:=by
 cases o with
 | nx e=>exact fun σ Hs H sr=>h _ Hs H sr.unset
 | bk e=>exact fun σ Hs H sr=>h _ Hs H sr.unset
 | ct e=>exact fun σ Hs H sr=>h _ Hs H sr.unset
 | rt p=>exact h
theorem zL{M:Model}{o:Obj}(hx:s.heap.get? ea=some o):QA M s.heap (typeOf (.ref ea)) o.cls:=by
 intro A Q E s' k q;exact yi (k _ _ hx) q
theorem B8.run(hh:B8 X E hls hd):∀ {s:Shared},Inv X J0 σ (kB Hc ea T C dd .none) s->Hc ea=some (fG C dd ea)->Hc T=none->T≠ea->SR B H₀ Hs Hc σ env->Rep Hs (.exc C fo) (.ref ea) ->
  aq (fS hd (C,fo) env) (KS D B H₀) Z->wpAny (model X.prog X.w) X.A (handleBy (.ref ea) X.env hls) (SP X J0 D) F s:=by
 induction hh with
 | nil=>intro s I h1 h2 h3 sr rp q;exact q.elim
 | @F5 x np pos b₀ La rest t h hs Dc hg hm hd ht hb r ih =>
  intro s I h1 h2 h3 sr rp q;obtain⟨vs,oT,ts,hx,_⟩:=I.vj h3;refine S8 (SH (gY (I.hand ea) hg hm ?_ hd)) (λq=>nomatch q);have LT:=zL (M:=model X.prog X.w) hx;cases e:t C with
  | none=>simp only[fS,e,ur] at q;exact q.elim
  | some b =>
   refine(UE I.gC LT (ht C b e)).here ?_;cases b with
   | false =>
    simp only[fS,e,ur] at q;exact ih I h1 h2 h3 sr rp q
   | true =>
    simp only[fS,e,ur,tF] at q;refine codeAny_handlers_suite ((I.hand ea).mR (fr:=none) h3 λh' I2=>?_);refine OP (hb ea J0 _ σ Hc D (I2.yA h1 h2 h3) ⟨B,H₀,Hs,env,sr,(aq.Aa q).err⟩) (λf s' z=>z.gi I.ok) λ_ _ z=>z.elim
 | @uR x n i np pos b₀ La rest t h hs Dc hg hm hd hN hi hxn ht hb r ih =>
  intro s I h1 h2 h3 sr rp q;obtain⟨vs,oT,ts,hx,_⟩:=I.vj h3;refine S8 (SH (gY (I.hand ea) hg hm ?_ hd)) (λq=>nomatch q);have LT:=zL (M:=model X.prog X.w) hx;cases e:t C with
  | none=>simp only[fS,e,ur] at q;exact q.elim
  | some b =>
   refine(UE I.gC LT (ht C b e)).here ?_;cases b with
   | false =>
    simp only[fS,e,ur] at q;exact ih I h1 h2 h3 sr rp q
   | true =>
    simp only[fS,e,ur,tF] at q;refine codeAny_handlers_suite_as ((I.hand ea).mR (fr:=none) h3 λh' I2=>?_);refine iB (X:=X.hand ea) (v:=.ref ea) (i:=i) (I2.yA h1 h2 h3) hN hi (.inl hxn) rfl (λs3 I3=>?_) (.inr hxn);refine OP (hb ea J0 _ _ Hc (D.gone i) I3 ⟨B,H₀,Hs,_,sr.set rp,(aq.Aa (E:=Z) ?_).err⟩) (λf s' z=>?_) λ_ _ z=>z.elim
    .exact(aq.bind q).imp (λo z=>KS.gone z) λ_ z=>z
    .cases f with
     | next=>obtain⟨σ',H',I4,d⟩:=z;exact(I4.gi I.ok).gone hN hi hxn λs5 I5=>⟨_,H',I5,d⟩
     | brk=>obtain⟨σ',H',I4,d⟩:=z;exact(I4.gi I.ok).gone hN hi hxn λs5 I5=>⟨_,H',I5,d⟩
     | cont=>obtain⟨σ',H',I4,d⟩:=z;exact(I4.gi I.ok).gone hN hi hxn λs5 I5=>⟨_,H',I5,d⟩
     | ret u=>obtain⟨v,σ',H',I4,rv,d⟩:=z;exact(I4.gi I.ok).gone hN hi hxn λs5 I5=>⟨v,_,H',I5,rv,d⟩
theorem ET{h₀:ExceptHandler}{f:ae->M Out}(Kx:X.stack=X.env::X.outer)(hf:X.env.frame=some X.env.locals)
  (hb:∀ (pn:List (Addr×Obj)) (E2:St->XK),d_ ((X.mj pn).out E2) E2->iG ((X.mj pn).out E2) body (Il E2 f)) (hh:B8 X E (h₀::hls) hd):PS X (.Try body (h₀::hls) [] [] pos) (tS E (sW f hd)):=by
 intro J0 s σ H D I q;obtain⟨B,H₀,Hs,env,sr,q⟩:=q;refine wpAny_Try_except ?_
 let E2:St->XK:=fun σ v _ Hc=>∃ Hs C fo ea,v=.ref ea/\SR B H₀ Hs Hc σ env/\Rep Hs (.exc C fo) (.ref ea)/\aq (fS hd (C,fo) env) (KS D B H₀) (XW E B H₀)
 have q1:aq (f env) (KS D B H₀) (XW (E2 σ) Hs H):=by
  unfold sW at q;cases e:f env with
  | none=>rw[e] at q;exact q
  | some r =>
   rw[e] at q;cases r with
   | ok o=>exact q
   | error x=>exact λea J3 H' g rp=>⟨J3,x.1,x.2,ea,rfl,sr.grow g,rp,q⟩
 refine OP (hb (X.pn++J0) E2 (xj Kx hf) [] s σ H D (I.mj.lW _) ⟨B,H₀,Hs,env,sr,q1⟩) (λfl s1 hq=>?_) (λe s1 z=>?_)
 .cases fl with
  | next=>obtain⟨σ',H',I',d⟩:=hq;exact QD ⟨σ',H',I'.dN.mQ,d⟩
  | brk=>obtain⟨σ',H',I',d⟩:=hq;exact⟨σ',H',I'.dN.mQ,d⟩
  | cont=>obtain⟨σ',H',I',d⟩:=hq;exact⟨σ',H',I'.dN.mQ,d⟩
  | ret u=>obtain⟨v,σ',H',I',r,d⟩:=hq;exact⟨v,σ',H',I'.dN.mQ,r,d⟩
 .refine Zx.note (X:=X.mj (X.pn++J0)) z Kx hf λs' ea C dd Lp σ' Hc T he I2 h1 h2 h3 h4=>?_;subst he;refine I2.mR (fr:=none) h3 λh' I3=>?_;obtain⟨J3,C',fo,ea',ee,K5,rp,hp⟩:=h4;cases ee;have I4:=I3.yA h1 h2 h3;have eC:C'=C:=by
   obtain⟨vs,hx⟩:=I4.lL h1;cases rp with
   | qe hr =>
    obtain⟨vs2,K8⟩:=I4.lL (K5.gr.sub _ _ hr);rw[hx] at K8;injection K8 with K8;injection K8 with K8;injection K8 with K8;exact K8.symm
   | og hr _ _ =>
    obtain⟨vs2,K8⟩:=I4.lL (K5.gr.sub _ _ hr);rw[hx] at K8;injection K8 with K8;injection K8 with K8;injection K8 with K8;exact K8.symm
  subst eC;exact hh.run I3.mQ h1 h2 h3 K5 rp hp
end
def ka(ys ns:List Addr)(C:Addr):Option Bool:=if ys.contains C=true then some true else if ns.contains C=true then some false else none
variable{ns:List Addr}
theorem lY{ys:List Addr}(h:ka ys ns C=some b):(b=true/\C∈ys)\/(b=false/\C∈ns):=by
 unfold ka at h
 by_cases h1:ys.contains C=true
 .rw[if_pos h1] at h;cases h;exact .inl ⟨rfl,by simpa using h1⟩
 .rw[if_neg h1] at h
  by_cases h2:ns.contains C=true
  .rw[if_pos h2] at h;cases h;exact .inr ⟨rfl,by simpa using h2⟩
  .rw[if_neg h2] at h;cases h
def sC(f:Addr->Option Bool)(ys ns:List Addr):Bool:=ys.all (λC=>f C==some true)&&ns.all λC=>f C==some false
theorem t9{f:Addr->Option Bool}{ys:List Addr}(h:sC f ys ns=true)(e:ka ys ns C=some b):f C=some b:=by
 unfold sC at h;rw[Ou,Oh,Oh] at h;rcases lY e with ⟨rfl,m⟩ | ⟨rfl,m⟩
 .exact eq_of_beq (h.1 C m)
 .exact eq_of_beq (h.2 C m)
structure Gy (K:Nr) (mg:Str->Option Value) (x:Str) (D:Addr) (ys ns:List Addr):Prop where
 mg:mg x=some (.ref D)
 ok:∀ C b,ka ys ns C=some b->PZ K (.ref C) (.ref D)=some b
theorem Gy.of{K:Nr}{x:Str}{ys:List Addr}(h1:mg x=some (.ref D))(h2:sC (λC=>PZ K (.ref C) (.ref D)) ys ns=true):Gy K mg x D ys ns:=⟨h1,λ_ _ e=>t9 h2 e⟩
theorem nI:bootBuiltins "ValueError" = some (.type "ValueError"):=by decide +kernel
theorem h9{p:α->Prop}:∀ x∈([]:List α),p x:=λ_ h=>nomatch h
theorem ja{p:α->Prop}{a:α}{l:List α}(h:p a)(r:∀ x∈l,p x):∀ x∈a::l,p x:=λx m=>by
 rcases NJ.mp m with rfl | m
 .exact h
 .exact r x m
def vO:List String:=["NoneType", "bool", "int", "str", "tuple", "list", "dict"]
theorem Bt{a:String}(h:Cv p=some a):a∈vO:=by
 cases p <;> first | (cases h;decide) | cases h
structure Cf (K:Nr) (mg:Str->Option Value) (x:Str) (D:Addr) (ys ns yo no:List Addr):Prop where
 mg:mg x=some (.ref D)
 ty:∀ p a,Cv p=some a->NI K (.type a) (.ref D)=some false
 ob:∀ C b,ka yo no C=some b->tf K C/\NI K (.ref C) (.ref D)=some b
 oe:∀ C b,ka ys ns C=some b->dk K C/\NI K (.ref C) (.ref D)=some b
theorem Cf.of{K:Nr}{x:Str}{ys yo no:List Addr}(h1:mg x=some (.ref D))(h2:(vO.all λa=>NI K (.type a) (.ref D)==some false)=true)
  (h3:sC (λC=>NI K (.ref C) (.ref D)) yo no=true) (h4:sC (λC=>NI K (.ref C) (.ref D)) ys ns=true) (o1:∀ C∈yo,tf K C) (o2:∀ C∈no,tf K C) (e1:∀ C∈ys,dk K C) (e2:∀ C∈ns,dk K C):Cf K mg x D ys ns yo no where
 mg:=h1
 ty:=λp a h=>by
  rw[Oh] at h2;exact eq_of_beq (h2 a (Bt h))
 ob:=λC b h=>⟨by rcases lY h with ⟨_,m⟩ | ⟨_,m⟩ <;> first | exact o1 C m | exact o2 C m,t9 h3 h⟩
 oe:=λC b h=>⟨by rcases lY h with ⟨_,m⟩ | ⟨_,m⟩ <;> first | exact e1 C m | exact e2 C m,t9 h4 h⟩
section
variable{p pt:Pos}{f:ae->M PV}{x:Str}{ys yo no:List Addr}
theorem Cf.is(c:Cf X.K X.mg x D ys ns yo no)(hg:Gl X "isinstance")(hm:X.mg "isinstance" = none)(hx:Gl X x)(he:PE X e (tE E f))(hd:autoParam ((x==("__debug__" : Str))=false) aD._auto_1)
  (h1:autoParam (starEach [e,.Name x pt] X.env=(false,eval e X.env)::starEach [.Name x pt] X.env) aR._auto_1) (h2:autoParam (starEach [.Name x pt] X.env=(false,eval (.Name x pt) X.env)::starEach [] X.env) aR._auto_1) (Ka:autoParam ((backTo pos (starEach [.Name x pt] X.env)).any (·.1)=false) aR._auto_1) :
  PE X (.Call (.Name "isinstance" p) [e,.Name x pt] [] pos) (tE E (qA (λ_=>false) (ka yo no) (ka ys ns) f)) :=
 Et hg hm (uZ hx c.mg rfl hd) c.ty c.ob c.oe he h1 h2 Ka
def Hn(ys:List Addr):PV->M PV
 | .exc C _=>cp (ys.contains C=true) (M.ok (.bl true))
 | _=>none
def FL(ys:List Addr)(f:ae->M PV):ae->M PV:=λenv=>(f env).bind (Hn ys)
theorem AZ(hg:Gl X "isinstance")(hm:X.mg "isinstance" = none)(hT:PE X (.Name x pt) (tC (.ty "ValueError")))(KU:∀ C∈ys,dk X.K C/\NI X.K (.ref C) (.type "ValueError")=some true)(he:PE X e (tE E f))
  (h1:autoParam (starEach [e,.Name x pt] X.env=(false,eval e X.env)::starEach [.Name x pt] X.env) aR._auto_1) (h2:autoParam (starEach [.Name x pt] X.env=(false,eval (.Name x pt) X.env)::starEach [] X.env) aR._auto_1) (Ka:autoParam ((backTo pos (starEach [.Name x pt] X.env)).any (·.1)=false) aR._auto_1) :
  PE X (.Call (.Name "isinstance" p) [e,.Name x pt] [] pos) (tE E (FL ys f)):=by
 refine(il (cL.or qY mD) hg hm qw (c_ he (c_ hT iF h2) h1) (by decide) (by decide) h1 Ka).imp fun σ H Q q=>bD (K:=g_ Q) g_.g q λB H₀ Hs H1 env p v sr rp hp=>?_;cases p with
 | exc C fo =>
  obtain⟨m,q⟩:=aq.cp hp;obtain⟨a,MA,rfl,hx⟩:=sM sr.gr.sub rp;have m':C∈ys:=by simpa using m
  exact .inr ⟨a,C,MA,true,(KU C m').1,hx,.inl ⟨"ValueError", rfl,(KU C m').2⟩,cT.flat q sr.gr.sub (.bl _)⟩
 | _=>exact hp.elim
end
section
variable{o:Expr}{f g:ae->M PV}
def CI:List V->Hp->VK->Prop:=λxs H Q=>∃ b,xs=[.bl b]/\Q (.int (if b then 1 else 0)) H
theorem vy:cL X (.type "int") CI:=by
 intro J0 s σ H xs us Q I r h;obtain⟨b,rfl,q⟩:=h;obtain⟨u,rfl,rx⟩:=vals1 r;cases rx;exact call_int_bool ⟨.int _,H,I.kept (t':=s.toks+1) λ_ _ z=>z,⟨_,rfl⟩,q⟩
def FO:PV->M PV
 | .bl b=>M.ok (.int (if b then 1 else 0))
 | _=>none
def uJ:List PV->M PV
 | [p]=>FO p
 | _=>none
theorem AX:jH E CI uJ:=by
 intro σ Hs H ps vs Q s rp h
 match ps,rp,h with
 | [],_,h=>exact h.elim
 | _::_::_,_,h=>exact h.elim
 | [p],rp,h =>
  obtain⟨w,rfl,Lj⟩:=rp.one;cases Lj with
  | bl b=>exact⟨b,rfl,cT.flat h s (.int _)⟩
  | _=>exact h.elim
end
section
open PySem PySem.Spec PyProof.Rows _root_.HT
section
variable{E:Value->Shared->Prop}
theorem jM{t sl:Addr}{vl vu:Value}{lo hi:Option Int}(ht:IsTup s.heap t items)(hs:s.heap.IsSliceOf sl vl vu .none)(pl:IsPart vl lo)(pu:IsPart vu hi)
  (hw:cS items.size 0 lo=0/\cS items.size items.size hi=items.size) (h:Q (.ref t) s):wpAny (model prog w) A (getItem (.ref t) (.ref sl)) Q E s:=by
 obtain⟨os,MF,hcs,M1⟩:=id hs;have hTs:s.TypeIs (.ref sl) "slice" := ⟨os,MF,hcs⟩
 unfold getItem
 try with_reducible refine O6 ?_
 first | refine Np (Nx ?_) | skip
 refine Np (T3 ht.typeIs (by decide) ?_);refine Np (Of (name:=NF "__getitem__") ht.typeIs Ol
  (OS Ol ht.typeIs S4 ?_ (Tj _ _)))
 show wpAny _ _ (RK (.ref t) >>= _) _ _ s;refine Np (tupleItemsOf_ ht ?_);refine Np (T4 hTs ?_);rw[if_pos (by decide)];refine Np (gA hs pl pu ?_);have hyes:(((cS items.size 0 lo:Nat):Int)==0&&(1:Int)==1&&(cS items.size items.size hi-cS items.size 0 lo)==items.size)=true:=by
  rw[hw.1,hw.2];simp
 show wpAny _ _ (if (((cS items.size 0 lo:Nat):Int)==0&&(1:Int)==1&&(cS items.size items.size hi-cS items.size 0 lo)==items.size)=true then _ else _) _ _ s;rw[if_pos hyes];unfold Builtin.Tuple.tupleIsExact;refine Np (Np (T4 ht.typeIs (Nx ?_)));rw[if_pos (show ((OW "tuple" == OW "tuple")=true) from beq_self_eq_true _)];refine Np (Qg ?_)
 first
  | exact Np (Nx (Nx ⟨_,rfl,Nx h⟩))
  | exact Np (Nx ⟨_,rfl,Nx h⟩)
  | exact Nx ⟨_,rfl,Nx h⟩
end
section
variable{lo hi:Option Expr}{p2:Pos}{f:ae->M PV}{gl gh:ae->M (Option Int)}
def Ia(K:Nr):V->Option Int->Option Int->Hp->VK->Prop:=λx lo hi H Q=>∃ a xs,x=.ref a/\ff K H a xs/\(cS xs.length 0 lo=0/\cS xs.length xs.length hi=xs.length)/\Q (.ref a) H
theorem AF:z_ X (Ia X.K):=by
 intro J0 s σ H x v vl vu lo hi sl Q I rx hs pl pu h;obtain⟨a,xs,rfl,hx,hw,q⟩:=h;cases rx;obtain⟨J4,r,ht,hz⟩:=I.tuple hx;have hlen:J4.toArray.size=xs.length:=by rw[ND];exact r.length.symm
 refine⟨"tuple", _,Ol.lookup,ht.typeIs,?_⟩;exact jM ht hs pl pu (by rw[hlen];exact hw) ⟨.ref a,H,I,rfl,q⟩
def sx(p:PV)(lo hi:Option Int):M PV:=match p with
 | .tup xs=>M.ok (.tup (i7 xs lo hi))
 | .lst xs=>M.ok (.lst (i7 xs lo hi))
 | .iw xs=>M.ok (.lst (i7 xs lo hi))
 | _=>none
def cK(f:ae->M PV)(lo hi:ae->M (Option Int)):ae->M PV:=λenv=>(f env).bind λp=>(lo env).bind λl=>(hi env).bind λh=>sx p l h
theorem bY(he:PE X e (tE E f))(hl:PO X lo (G7 E gl))(hh:PO X hi (G7 E gh)):PE X (.Subscript e (.Slice lo hi none p2) pos) (tE E (cK f gl gh)):=by
 refine(xi (z_.or E9 (z_.or AF Aq)) he hl hh).imp fun σ H Q q=>bD (K:=g_ Q) g_.g q λB H₀ Hs H1 env p v sr rp hp=>?_;refine⟨B,H₀,Hs,env,sr,(aq.bind hp).imp (λl hl J5 H2 g2=>?_) λe he=>he⟩;have Kg:=sr.grow g2;refine⟨B,H₀,J5,env,Kg,(aq.bind hl).imp (λh hh Lb H3 g3=>?_) λe he=>he.grow g2⟩;have LB:=Kg.grow g3;have hz:aq (sx p l h) (cT Lb H3 Q) (λ_=>True):=hh.imp (λz hz w Hs4 H4 g4 r=>hz w Hs4 H4 ((g2.trans g3).trans g4) r) λ_ _=>trivial;have rp3:=(rp.mono g2.st).mono g3.st;cases rp3 with
 | @tup a xs vs ha hx =>
  by_cases hn:cS xs.length 0 l=0/\cS xs.length xs.length h=xs.length
  .refine .inr (.inl ⟨_,_,rfl,ff.of (LB.gr.sub _ _ ha),by rw[<- hx.length];exact hn,?_⟩);have e:i7 xs l h=xs:=by
    unfold i7;rw[hn.1,hn.2,SX,Ua,Ur]
   have Mj:cT Lb H3 Q (.tup xs):=by
    have z:cT Lb H3 Q (.tup (i7 xs l h)):=hz;rw[e] at z;exact z
   exact cT.flat Mj LB.gr.sub (.tup ha hx)
  .exact .inl ⟨_,_,rfl,ff.of (LB.gr.sub _ _ ha),by rw[<- hx.length];exact hn,cT.tup hz LB.gr.sub (hx.cut l h)⟩
 | lst ha hx=>exact .inr (.inr ⟨_,_,rfl,gc.of (LB.gr.sub _ _ ha),cT.lst hz LB.gr.sub (hx.cut l h)⟩)
 | iw ha hx=>exact .inr (.inr ⟨_,_,rfl,.inl (.inr ⟨_,LB.gr.sub _ _ ha⟩),cT.lst hz LB.gr.sub (hx.cut l h)⟩)
 | _=>exact hz.elim
end
end
def JS(ys:List Addr)(f:Str):PV->M PV
 | .exc C (some fs)=>cp (ys.contains C=true) (eM (fs.lookup f))
 | _=>none
def Hb(ys:List Addr)(f:Str)(g:ae->M PV):ae->M PV:=λenv=>(g env).bind (JS ys f)
theorem Cr{g:ae->M PV}{ys:List Addr}{f:Str}(he:PE X e (tE E g))(hy:∀ C∈ys,dk X.K C/\bI X.K C f)(hb:attributeBase e f X.env (eval e X.env)=eval e X.env):PE X (.Attribute e f pos) (tE E (Hb ys f g)):=by
 refine(Ai he hb).imp fun σ H Q q=>bD (K:=g_ Q) g_.g q λB H₀ Hs H1 env p v sr rp hp=>?_;cases p with
 | exc C fo =>
  cases fo with
  | none=>exact hp.elim
  | some fs =>
   obtain⟨m,hp⟩:=aq.cp hp;obtain⟨x,ex,hp⟩:=aq.opt hp;have m':C∈ys:=by simpa using m
   cases rp with
   | @og a _ d _ vs h1 h2 h3 =>
    obtain⟨u,h4,h5⟩:=h3.look ex;exact⟨a,C,vs,u,rfl,⟨d,sr.gr.sub _ _ h1,sr.gr.sub _ _ h2⟩,(hy C m').1,(hy C m').2,h4,cT.flat hp sr.gr.sub h5⟩
 | _=>exact hp.elim
section
variable{o:Expr}{g:ae->M PV}{fs:ae->M (List PV)}{L:List (Addr×(List PV->M PV))}{K:Nr}
end
section
open PySem.SeqAt (shaped EqAt RcAt RcNeAt)
section
variable{b:Addr}
theorem pI(I:Inv X J0 σ H s)(e:H a=some (.dK [])):(a==sysModules)=false/\∀ (P:Program) (w:World),s.heap.DictOf (pB P w) a ([]:List (Key×Value)):=by
 obtain⟨_,h1,vs,kv,o,es,ep,ho,ex,hd,_,pr,_⟩:=(show bS X.prog X.w H s.heap a (.dK []) from I.bw a _ e)
 cases kv;have e0:es=#[]:=by
  have:es.toList=[]:=by cases h:es.toList with
   | nil=>rfl
   | cons x y=>rw[h] at pr;cases pr
  exact Array.toList_inj.mp this
 subst e0;exact⟨h1,λP w=>⟨o,#[],ep,ho,ex,hd,λe he=>absurd he (by simp),.nil,by simp⟩⟩
theorem zK(I:Inv X J0 σ H s)(ea:H a=some (.dK []))(eb:H b=some (.dK []))(hu:A.units<cLine):RcAt A s (.ref a) (.ref b) true:=λprog w E Q h =>
 PySem.W.keq_eq (pI I ea).1 (pI I eb).1 ((pI I ea).2 prog w) ((pI I eb).2 prog w) hu (λ_=>.nil) h
theorem DB(I:Inv X J0 σ H s)(ea:H a=some (.dK []))(eb:H b=some (.dK []))(hu:A.units<cLine):EqAt A s (.ref a) (.ref b) true:=by
 by_cases e:a=b
 .subst e;exact .same _
 .exact .of_refs e (zK I ea eb hu)
end
def C3(o:Bool->PV)(d e:PyData):M PV:=cp (shaped d=true/\shaped e=true) (M.ok (o (U8 d e)))
def wz(o:Bool->PV)(p q:PV):M PV:=match dat p,dat q with
 | some d,some e=>C3 o d e
 | _,_=>none
def uF:PV->Bool
 | .emp=>true
 | _=>false
def A9:PV->Option Str
 | .tup [.str x,p]=>if uF p then some x else none
 | _=>none
def Co(p q:PV):M PV:=if uF p=true/\uF q=true then M.ok (.bl true) else wz (λb=>.bl b) p q
def Fm(p q:PV):M PV:=match A9 p,A9 q with
 | some x,some y=>M.ok (.bl (!(x==y)))
 | _,_=>wz (λb=>.bl (!b)) p q
def Em(o:Bool->Bool):R2:=λx y H Q=>∃ Hs p q d e,aX Hs H/\Rep Hs p x/\Rep Hs q y/\dat p=some d/\dat q=some e/\shaped d=true/\shaped e=true/\Q (.bl (o (U8 d e))) H
def FJ:R2:=λx y H Q=>Em id x y H Q\/∃ a b,x=.ref a/\y=.ref b/\H a=some (.dK [])/\H b=some (.dK [])/\Q (.bl true) H
def Ge:R2:=λx y H Q=>Em not x y H Q\/∃ t u z z' a b,x=.ref t/\y=.ref u/\H t=some (.tup [.str z,.ref a])/\H u=some (.tup [.str z',.ref b])/\H a=some (.dK [])/\H b=some (.dK [])/\Q (.bl (!(z==z'))) H
theorem yM(hu:X.A.units+64<cLine):fD X (compareOp .Eq) FJ:=by
 intro J0 s σ H x y v u Q I rx ry h;rcases h with h | ⟨a,b,rfl,rfl,ea,eb,hq⟩
 .obtain⟨Hs,p,q,d,e,sm,rp,rq,hd,he,h1,h2,hq⟩:=h;obtain⟨as,ra⟩:=Rep.reads I sm rp rx hd;obtain⟨bs,rb⟩:=Rep.reads I sm rq ry he;exact PySem.SeqAt.compareEq_shaped ra rb h1 h2 hu (jo I hq rfl)
 .cases (show v=NB a from rx);cases (show u=NB b from ry);exact zK I ea eb (by lia) _ _ _ _ (jo I hq rfl)
theorem xP(hu:X.A.units+64<cLine):fD X (compareOp .NotEq) Ge:=by
 intro J0 s σ H x y v u Q I rx ry h;rcases h with h | ⟨t,t',z,z',a,b,rfl,rfl,et,et',ea,eb,hq⟩
 .obtain⟨Hs,p,q,d,e,sm,rp,rq,hd,he,h1,h2,hq⟩:=h;obtain⟨as,ra⟩:=Rep.reads I sm rp rx hd;obtain⟨bs,rb⟩:=Rep.reads I sm rq ry he;exact PySem.SeqAt.compareNe_shaped ra rb h1 h2 hu (jo I hq rfl)
 .cases (show v=NB t from rx);cases (show u=NB t' from ry);obtain⟨J4,r1,i1,_⟩:=I.tuple (ff.of et);obtain⟨its',r2,i2,_⟩:=I.tuple (ff.of et');have key:∀ {z:Str} {a:Addr} {J4:List Value},Vals [.str z,.ref a] J4->∃ tk,J4=[.str z tk,.ref a]:=λr=>by
   cases r with
   | cons p q=>cases q with
    | cons p' q' =>
     cases q';obtain⟨tk,rfl⟩:=p;cases p';exact⟨tk,rfl⟩
  obtain⟨k1,rfl⟩:=key r1;obtain⟨k2,rfl⟩:=key r2;have:=RcNeAt.tuples (A:=X.A) (e:=λj=>if j=0 then z==z' else true) i1 i2 (by lia) λj h1 h2=>by
   match j,h1 with
   | 0,_=>exact EqAt.str_str z k1 z' k2
   | 1,_=>exact DB I ea eb (by show X.A.units+1<cLine;lia)
  refine this _ _ _ _ (jo I hq ?_);simp[List.range_succ]
theorem uw{o:Bool->Bool}{q:PV}{u:V}{Q:VK}(s:aX Hs H)(rp:Rep Hs p v)(rq:Rep Hs q u)(h:aq (wz (λb=>.bl (o b)) p q) (cT Hs H Q) (XW (E σ) Hs H)):Em o v u H Q:=by
 unfold wz at h
 split at h
 .rename_i d e hd he;obtain⟨⟨h1,h2⟩,h⟩:=aq.cp h;exact⟨Hs,p,q,d,e,s,rp,rq,hd,he,h1,h2,cT.flat h s (.bl _)⟩
 .exact h.elim
theorem kn(r:Rep Hs p v)(h:uF p=true):∃ a,v=.ref a/\Hs a=some (.dK []):=by
 cases r with
 | emp e=>exact⟨_,rfl,e⟩
 | _=>cases h
theorem rY{x:Str}(r:Rep Hs p v)(h:A9 p=some x):∃ t a,v=.ref t/\Hs t=some (.tup [.str x,.ref a])/\Hs a=some (.dK []):=by
 unfold A9 at h
 split at h
 .split at h
  .rename_i hp;cases h;cases r with
   | tup ht hx=>cases hx with
    | cons h1 h2=>cases h2 with
     | cons h3 h4 =>
      cases h4;cases h1;obtain⟨a,rfl,ea⟩:=kn h3 hp;exact⟨_,a,rfl,ht,ea⟩
  .cases h
 .cases h
theorem zC:jI E FJ Co:=by
 intro σ Hs H p q v u Q s rp rq h;unfold Co at h
 split at h
 .rename_i hh;obtain⟨a,rfl,ea⟩:=kn rp hh.1;obtain⟨b,rfl,eb⟩:=kn rq hh.2;exact .inr ⟨a,b,rfl,rfl,s _ _ ea,s _ _ eb,cT.flat h s (.bl _)⟩
 .exact .inl (uw s rp rq h)
theorem xC:jI E Ge Fm:=by
 intro σ Hs H p q v u Q s rp rq h;unfold Fm at h
 split at h
 .rename_i x y hx hy;obtain⟨t,a,rfl,et,ea⟩:=rY rp hx;obtain⟨t',b,rfl,et',eb⟩:=rY rq hy;exact .inr ⟨t,t',x,y,a,b,rfl,rfl,s _ _ et,s _ _ et',s _ _ ea,s _ _ eb,cT.flat h s (.bl _)⟩
 .exact .inl (uw s rp rq h)
end
end L2
namespace HT
open PySem PyProof.Rows
variable{E:Value->Shared->Prop}{A:Around}{w:World}{prog:Program}
section
variable{a b v:Value}{k:Bool}{I S ax:Addr}{t:Shared}{n:Nat}{R:Result->Shared->Prop}
end
section
open PySem.SeqAt
open PySem.AutoSeq1 (wpAny_loadPart')
open PySem.MeetsSeq PySem.MeetsSeq2 PySem.MeetsSeq3
end
section
variable{s:Shared}
end
end HT
namespace L2
open PySem PySem.Spec PyProof.Rows
variable{E:St->XK}{X:Cx}
variable{js:List Nat}{f:ae->M PV}{it:ae->M (List PV)}{wi:TI}{pos:Pos}{scope:Scope}
variable{y:Str}{i:Nat}
section
variable{tg elt iter c:Expr}{cl:List (Str×Addr)}{g:TG}{set:PV->ae->M ae}{ts fs:List Str}
variable{E:XK}{py Lz:Pos}
end
section
variable{tg elt iter c:Expr}{cl:List (Str×Addr)}{g:TG}{set:PV->ae->M ae}{u:ae->M Bool}{ts fs:List Str}
variable{E:XK}{py Lz:Pos}
end
section
variable{o:Expr}{apos J9:Pos}
end
section
open PySem.SeqAt (shaped)
end
end L2
local macro_rules | `(tactic| walk_at "u1")=>`(tactic| unfold $(Lean.mkIdent (Lean.mkPrivateNameCore `PySem.Builtin.List.W1All `PySem.Builtin.gallop)):ident)
namespace Srt
open PySem PyProof.Rows
section
variable{prog:Program}{w:World}{A:Around}{E:Value->Shared->Prop}{s:Shared}{κ:KeyKind}{k:SortKind}
end
end Srt
namespace Srt
open PySem PyProof.Rows
variable{R:Keyed->Keyed->Prop}{tot A B A1 A2 out:List Keyed}
section
variable{prog:Program}{w:World}{A:Around}{E:Value->Shared->Prop}{s:Shared}{κ:KeyKind}{k:SortKind}
end
end Srt
local macro_rules | `(tactic| walk_at "u2")=>`(tactic| unfold $(Lean.mkIdent (Lean.mkPrivateNameCore `PySem.Builtin.List.W1All `PySem.Builtin.mergeLo)):ident)
namespace Srt
open PySem PyProof.Rows
section
variable{κ:KeyKind}{a b out:Array Keyed}{ia ib m:Nat}
end
section
variable{prog:Program}{w:World}{A:Around}{E:Value->Shared->Prop}{s:Shared}{κ:KeyKind}{k:SortKind}
end
end Srt
local macro_rules | `(tactic| walk_at "u3")=>`(tactic| unfold $(Lean.mkIdent (Lean.mkPrivateNameCore `PySem.Builtin.List.W1All `PySem.Builtin.mergeHi)):ident)
namespace Srt
open PySem PyProof.Rows
section
variable{κ:KeyKind}{a b out:Array Keyed}{na nb m:Nat}
end
section
variable{prog:Program}{w:World}{A:Around}{E:Value->Shared->Prop}{s:Shared}{κ:KeyKind}{k:SortKind}
end
end Srt
local macro_rules | `(tactic| walk_at "u4")=>`(tactic| unfold $(Lean.mkIdent (Lean.mkPrivateNameCore `PySem.Builtin.List.W1All `PySem.Builtin.countRun)):ident)
local macro_rules | `(tactic| walk_at "u5")=>`(tactic| unfold $(Lean.mkIdent (Lean.mkPrivateNameCore `PySem.Builtin.List.W1All `PySem.Builtin.binarySort)):ident)
namespace Srt
open PySem PyProof.Rows
section
variable{κ:KeyKind}{st Mv LS:SortSt}{lo hi:Nat}
end
section
variable{prog:Program}{w:World}{A:Around}{E:Value->Shared->Prop}{s:Shared}{κ:KeyKind}{k:SortKind}
end
end Srt
local macro_rules | `(tactic| walk_at "u6")=>`(tactic| unfold $(Lean.mkIdent (Lean.mkPrivateNameCore `PySem.Builtin.List.W1All `PySem.Builtin.mergeAt)):ident)
namespace Srt
open PySem PyProof.Rows
section
variable{prog:Program}{w:World}{A:Around}{E:Value->Shared->Prop}{s:Shared}{κ:KeyKind}{k:SortKind}
end
end Srt
local macro_rules | `(tactic| walk_at "u7")=>`(tactic| unfold $(Lean.mkIdent (Lean.mkPrivateNameCore `PySem.Builtin.List.W1All `PySem.Builtin.sortRuns)):ident)
namespace Srt
open PySem PyProof.Rows
section
variable{κ:KeyKind}{a a':Array Keyed}
end
section
variable{prog:Program}{w:World}{A:Around}{E:Value->Shared->Prop}{s:Shared}{κ:KeyKind}{k:SortKind}{a0:Array Keyed}
end
end Srt
local macro_rules | `(tactic| walk_at "u8")=>`(tactic| unfold $(Lean.mkIdent (Lean.mkPrivateNameCore `PySem.Builtin.List.W1All `PySem.Builtin.keyLt)):ident)
namespace Srt
open PySem PyProof.Rows
section
variable{prog:Program}{w:World}{A:Around}{E:Value->Shared->Prop}{s:Shared}
end
end Srt
namespace Srt
open PySem PyProof.Rows
section
variable{prog:Program}{w:World}{A:Around}{E:Value->Shared->Prop}{s:Shared}
end
end Srt
namespace L2
open PySem PySem.Spec PyProof.Rows
variable{i:Nat}{f:ae->M PV}{pos:Pos}{e:Expr}{X:Cx}
section
variable{E:XK}{x:Str}
end
variable{es:Array DictEntry}{d:Addr}{s:Shared}{w:World}{prog:Program}
section
variable{A:Around}{E:Value->Shared->Prop}{it:Addr}{ep:Nat}
end
variable{σ:St}{Hs H:Hp}
theorem SR.forget{B H₀:Hp}{env:ae}(r:SR B H₀ Hs H σ env):SR B H₀ Hs H σ (env.set i none) :=
 r.mv r.gr (by rw[P9];exact r.len) (λ_ _ q=>q) λ_ _ e=>by
  rcases nv e with ⟨_,e⟩ | ⟨_,e,_⟩
  .exact⟨e,rfl,λ_ _ _ _ h1 h2 h3 _=>⟨h1,h2,h3⟩⟩
  .cases e
theorem SR.over{B H₀:Hp}{env:ae}{w:Option V}(r:SR B H₀ Hs H σ env)(n:env[i]?=some none):SR B H₀ Hs H (σ.set i w) env :=
 r.mv r.gr (by rw[P9];exact r.len) (λ_ _ q=>q) λj _ e=>⟨e,by rw[N5,if_neg (λz=>by rw[<- z,n] at e;cases e)],λ_ _ _ _ h1 h2 h3 _=>⟨h1,h2,h3⟩⟩
def zo(env:ae):Bool:=env.all λo=>match o with
 | some (.ow _)=>false
 | some (.bd _ _ _)=>false
 | some (.dw _)=>false
 | _=>true
theorem yf{env:ae}(h:zo env=true):i4 env:=λi x e=>by
 have:=Oh.mp h (some x) (SN e);cases x with
 | sh p=>exact⟨p,rfl⟩
 | ow xs=>cases this
 | bd a C fs=>cases this
 | dw _=>cases this
theorem rF{env:ae}(n:i4 env):i4 (env.set i none):=λj x e=>by
 rw[N5] at e
 by_cases z:i=j
 .rw[if_pos z] at e
  split at e <;> cases e
 .rw[if_neg z] at e;exact n j x e
variable{xs:List PV}{a:Addr}
section
variable{iL iS ic:Nat}{b0 b1:Addr}{B H₀:Hp}{env:ae}{ys:List PV}{vs ws:List V}
end
variable{it:ae->M (List PV)}{wi:TI}
section
variable{E:XK}{st1 LS:Stmt}{rest:List Stmt}{iL iS ic:Nat}{fi fv:ae->M PV}{g:ae->M Out}
end
abbrev ky(A:List Int):List Key:=A.map RY
section
variable{κ:Type}[DecidableEq κ]
end
section
variable(sm:List Int->List Int->List Int)(z r:List Int)
end
section
variable{p:Addr}{H':Hp}{Kf kvs':List (List Key×V)}{vs LX:List Int}
end
variable{E:St->XK}{sem:List PV->M PV}
section
variable{K:Nr}{sm:List Int->List Int->List Int}{S:List Int}
end
variable{base:Heap}{mg:Str->Option Value}{P:Program}
section
variable{K:Nr}
end
variable{px:Pos}
section
variable{a b:Expr}{g:ae->M PV}
end
section
variable{E:XK}{ie:Expr}{pos':Pos}{g h:ae->M PV}{x:Str}
end
section
variable{ie:Expr}{pos':Pos}{g h:ae->M PV}{x:Str}
end
variable{tg:Expr}
section
variable{x:Str}{p:Pos}
end
section
variable{A:Around}{E:Value->Shared->Prop}{ep:Nat}
end
section
variable{E:XK}{x:Str}{p1 p2 Nn:Pos}{j:Nat}
end
section
variable{E:XK}{st:Stmt}{rest:List Stmt}{f:ae->M Out}{g:ae->M (List PV)}
end
section
variable{E:XK}{st:List Stmt}{g:ae->M (List PV)}
end
variable{ps:List Str}{fd:FuncData}{k n:Nat}
section
variable{f:Addr}{sem:List PV->M (List PV)}{x:Str}{p:Pos}{es:List Expr}{fs:ae->M (List PV)}
end
def p6:List Nat->Cg
 | []=>fF
 | i::is=>bp (aL i) (p6 is)
def sQ:List Nat->List PV->ae->ae
 | i::is,p::ps,env=>sQ is ps (env.set i (some (.sh p)))
 | _,_,env=>env
theorem oQ{B H₀ Hs H:Hp}{Q:St->Hp->Prop}:∀ {is:List Nat} {ps:List PV} {vs:List V} {σ:St} {env:ae},SR B H₀ Hs H σ env->aE Hs ps vs->ps.length=is.length->(∀ σ',SR B H₀ Hs H σ' (sQ is ps env)->Q σ' H)->p6 is vs σ H Q
 | [],_,_,σ,_,sr,.nil,_,h=>⟨rfl,h σ sr⟩
 | i::is,_,_,σ,_,sr,.cons rp r,hl,h=>⟨_,_,rfl,oQ (is:=is) (sr.set rp) r (by simpa using hl) h⟩
section
variable{E:XK}{apos J9:Pos}{x:Str}
end
structure Js (K:Nr) (C:Addr) (m t:Str):Prop where
 c:dk K C
 ex:∃ (f:Addr) (fd:FuncData) (n qual:Str) (st:Stmt) (kc:Nat) (pos p2:Pos) (dv:Value),Meth K C m f/\Binds K fd [n] []/\bK K m qual st dv f fd/\bx [n] [n] (aC st)/\de st=[.Return (some (.Constant (.str t) kc p2)) pos]
def vh(K:Nr)(m:Str)(L:List (Addr×Str)):Prop:=∀ C t,L.lookup C=some t->Js K C m t
variable{m:Str}
theorem vh.nil{K:Nr}:vh K m []:=λC t h=>by cases h
variable{L:List (Addr×Str)}{C:Addr}
theorem vh.cons{K:Nr}{t:Str}(h:Js K C m t)(r:vh K m L):vh K m ((C,t)::L):=λC' t' e=>by
 rw[OD] at e
 by_cases z:C'=C
 .rw[z,beq_self_eq_true] at e;cases e;rw[z];exact h
 .rw[beq_false_of_ne z] at e;exact r C' t' e
def GH(L:List (Addr×Str))(m:Str):PV->M PV
 | .exc C fo=>cp ((fo.getD []).lookup m=none) (eM ((L.lookup C).map PV.str))
 | _=>none
def Cq(L:List (Addr×Str))(m:Str)(g:ae->M PV):ae->M PV:=λenv=>(g env).bind (GH L m)
theorem AH{ea:Addr}{o:Expr}{apos:Pos}{g:ae->M PV}{pl:Sem Bool}(hr:bR k X.A)(hk:1<=k)(W:vh X.K m L)(he:PE (X.hand ea) o (tE E g))
  (ht:autoParam (eval (.Call (.Attribute o m apos) [] [] pos) X.env=(do
   let ov <- eval o X.env
   standAt apos.atName
   let (f,first) <- holding [ov] (getMethod ov m pl)
   callWith pos f first (backTo pos (starEach [] X.env)) (backToKw pos (keywordEach [] X.env)))) aR._auto_1) :
  PE (X.hand ea) (.Call (.Attribute o m apos) [] [] pos) (tE E (Cq L m g)):=by
 intro J0 s σ H Q I h;have h':tE E g σ H λx H1=>∃ e C fo t,x=.ref e/\ExcAt H1 e C fo/\(∀ fs,fo=some fs->fs.lookup m=none)/\L.lookup C=some t/\Q (.str t) H1:=by
  refine bD (K:=g_ Q) g_.g h λB H₀ Hs H1 env p v sr rp hp=>?_;cases p with
  | exc C fo =>
   obtain⟨hn,hp⟩:=aq.cp hp;obtain⟨x,ex,hp⟩:=aq.opt hp;cases e:L.lookup C with
   | none=>rw[e] at ex;cases ex
   | some t =>
    rw[e] at ex;cases ex;have q:Q (.str t) H1:=cT.flat hp sr.gr.sub (.str t);cases rp with
    | @qe a _ h1=>exact⟨a,C,none,t,rfl,sr.gr.sub _ _ h1,λ_ z=>(by cases z),e,q⟩
    | @og a _ d fs vs h1 h2 h3=>exact⟨a,C,some vs,t,rfl,⟨d,sr.gr.sub _ _ h1,sr.gr.sub _ _ h2⟩,λ_ z=>(by cases z;exact h3.none hn),e,q⟩
  | _=>exact hp.elim
 refine Q5 (pl:=pl) (cA (he J0 s σ H _ I h') λu s1 ⟨x,H1,I1,rx,e,C,fo,t,ex,ha,hno,hl,q⟩=>?_) ht;subst ex;obtain rfl:u=NB e:=rx;obtain⟨c,f,fd,n,qual,st,kc,ps1,ps2,dv,hm,hb,F,S,hbd⟩:=W C t hl;obtain⟨ox,od,J,M_,hfo⟩:=I1.pE ha;have hs:Ul od m=some false:=by
  cases fo with
  | none=>rw[M_ rfl];rfl
  | some fs =>
   obtain⟨o',mA,rfl,hl,Nb⟩:=hfo fs rfl;have:mA m=none:=jm.none_of (by rw[<- hno fs rfl];exact Nb m);show (Qh m o').map (·.isSome)=some false;rw[hl,this];rfl
 refine yN c I1.gC J hm.at_ hm.fn hs ?_;refine S6 (first:=[.ref e]) I1.gC hm.kp ?_;obtain⟨oc,od',kV,doc,pm,an,J8,ct,LW,rfl,lk,KC⟩:=F.ex;have e0:rO X.prog X.w X.K X.mg X.base X.A X.stack s1 H1:=let z:=I1.jx;⟨z.frames,z.mod,z.bs,z.wI,z.i5,z.zS,z.bw,z.bare⟩
 have KX:=I1.gC;have lim:s1.heap.NoLimit:=e0.mod.nolimit.keeps λb o e=>(e0.bs b o e).1;have L9:∀ y∈[n].zip [NB e],(aC st).names.lookup y.1=some .local\/((aC st).names.lookup y.1=some .cell/\((cellsFrom (s1.heap.objs.size+1) (aC st).names []).lookup y.1).isSome=true):=λ⟨n',v⟩ hy=>by
  rcases S.par n' (O1 hy).1 with q | q
  .exact .inl q
  .exact .inr ⟨q,QT _ _ _ (.inl q)⟩
 have LR:bR 1 X.A:=hr.mono hk;refine Q9 (QV (R:=CR Hk X.stack X.prog X.w H1 s1 Q E0) (SE LR.depth (KX _ _ lk) rfl S.co S.gen rfl (Ti KX KC) (hb s1 [.ref e] KX rfl _ _ _ _ ?_)) λr s' hq=>?_)
 .refine RI S.kind L9 λenv he s2 x=>?_;subst he;refine⟨lim.keeps x.toInCall.keep,codeAny_func ?_⟩;have I2:=oV (CX:=Hk) (E:=E0) (us:=[.ref e]) (vs:=[.ref e]) S hr.hd e0 rfl (.cons rfl .nil) x;have I3:=I2.hand ea;have PB:=(show iG ((jh Hk X.prog X.w X.K X.mg X.base [n] qual (aC st) f J8 X.A X.stack s1 H1 E0).hand ea) (de st) _ by rw[hbd];exact va (wK yr))
  refine OP (PB [] s2 (start [n] [.ref e]) H1 { nx:=λ_ H'=>Q .bz H',rt:=Q } I3 q) (λfl s' hs=>?_) λe s' hs=>hs.elim;cases fl with
  | ret u =>
   obtain⟨v,σ',H',J,rv,q⟩:=hs;exact⟨v,H',J.os,J.bare,J.base,J.bw,rv,q⟩
  | next =>
   obtain⟨σ',H',J,q⟩:=hs;exact⟨.bz,H',J.os,J.bare,J.base,J.bw,rfl,q⟩
  | brk=>obtain⟨_,_,_,q⟩:=hs;exact OA q
  | cont=>obtain⟨_,_,_,q⟩:=hs;exact OA q
 .cases r with
  | error e=>exact hq.elim
  | ok fl =>
   cases fl with
   | ret u=>exact I1.after hq
   | next=>exact OA hq
   | brk=>exact OA hq
   | cont=>exact OA hq
def zV(is:List Nat):PV->ae->M ae
 | .tup ps,env=>cp (ps.length=is.length) (M.ok (sQ is ps env))
 | _,_=>none
theorem Ae{E:XK}{K:Nr}{is:List Nat}:wJ E (fy K is.length (p6 is)) (zV is):=by
 intro B H₀ Hs H σ env p v Q Z sr r h;cases r with
 | @tup a xs vs ha hx =>
  obtain⟨hl,h⟩:=aq.cp h;exact⟨a,vs,rfl,ff.of (sr.gr.sub _ _ ha),by rw[<- hx.length];exact hl,oQ sr hx hl h⟩
 | _=>exact h.elim
def Cb:PV->PV->M (List PV)
 | .lst xs,.lst ys=>cp (xs.length+ys.length<=sizeLine) (M.ok (xs++ys))
 | _,_=>none
def Ag(f g:ae->M PV):ae->M (List PV):=λenv=>(f env).bind λp=>(g env).bind λq=>Cb p q
theorem xq{a b:Expr}{g:ae->M PV}(ha:PE X a (tE E f))(hb:PE X b (tE E g)):PE X (.BinOp a .Add b pos) (tO E (Ag f g)):=by
 refine(CF yP ha hb).imp fun σ H Q q=>bD (K:=KO Q) KO.gr q λB H₀ Hs H1 env p v sr rp hp=>?_;refine⟨B,H₀,Hs,env,sr,(aq.bind hp).imp (λq hq u J3 H' g' ru=>?_) λe he=>he⟩;have K5:=sr.grow g';have rp':=rp.mono g'.st;cases rp' with
 | @lst l xs vs ha hx=>cases ru with
  | @lst l2 ys us hb hy =>
   obtain⟨h1,h⟩:=aq.cp hq;exact⟨l,l2,vs,us,rfl,rfl,K5.gr.sub _ _ ha,K5.gr.sub _ _ hb,by rw[<- hx.length,<- hy.length];exact h1,λp n=>h _ p J3 H' g' (hx.append hy) n⟩
  | _=>exact hq.elim
 | _=>exact hq.elim
mutual
def ng:PV->Bool
 | .bz=>true
 | .bl _=>true
 | .int _=>true
 | .str _=>true
 | .tup xs=>oB xs
 | .obj _ fs=>kL fs
 | _=>false
def oB:List PV->Bool
 | []=>true
 | p::r=>ng p&&oB r
def kL:List (Str×PV)->Bool
 | []=>true
 | p::r=>ng p.2&&kL r
end
def wu(H:Hp)(as:List Addr):Hp:=λa=>if a∈as then none else H a
def iA(Hs H:Hp)(as:List Addr):Hp:=λa=>if a∈as then H a else Hs a
theorem lB{as:List Addr}(h:a ∉ as):wu H as a=H a:=if_neg h
theorem eV{as:List Addr}(h:a∈as):iA Hs H as a=H a:=if_pos h
theorem eB{as:List Addr}(h:a ∉ as):iA Hs H as a=Hs a:=if_neg h
mutual
theorem Rep.jB{Hs:Hp}{as:List Addr}(ha:∀ a∈as,∃ ws,Hs a=some (.lst ws)):∀ {p:PV} {v:V},Rep Hs p v->ng p=true->Rep (wu Hs as) p v
 | _,_,.bz,_=>.bz
 | _,_,.bl b,_=>.bl b
 | _,_,.int b,_=>.int b
 | _,_,.str b,_=>.str b
 | _,_,.tup h r,n=>.tup (by rw[lB (λz=>by obtain⟨ws,e⟩:=ha _ z;rw[e] at h;cases h)];exact h) (r.jB ha n)
 | _,_,.obj h r,n=>.obj (by rw[lB (λz=>by obtain⟨ws,e⟩:=ha _ z;rw[e] at h;cases h)];exact h) (r.jB ha n)
 | _,_,.lst _ _,n=>by cases n
 | _,_,.iw _ _,n=>by cases n
 | _,_,.qe _,n=>by cases n
 | _,_,.og _ _ _,n=>by cases n
 | _,_,.emp _,n=>by cases n
 | _,_,.wg _ _,n=>by cases n
theorem aE.jB{Hs:Hp}{as:List Addr}(ha:∀ a∈as,∃ ws,Hs a=some (.lst ws)):∀ {p:List PV} {v:List V},aE Hs p v->oB p=true->aE (wu Hs as) p v
 | _,_,.nil,_=>.nil
 | _,_,.cons h r,n=>by
  have n':=OU.mp (show (ng _&&oB _)=true from n);exact .cons (h.jB ha n'.1) (r.jB ha n'.2)
theorem eT.jB{Hs:Hp}{as:List Addr}(ha:∀ a∈as,∃ ws,Hs a=some (.lst ws)):∀ {p:List (Str×PV)} {v:List (Str×V)},eT Hs p v->kL p=true->eT (wu Hs as) p v
 | _,_,.nil,_=>.nil
 | _,_,.cons h r,n=>by
  have n':=OU.mp (show (ng _&&kL _)=true from n);exact .cons (h.jB ha n'.1) (r.jB ha n'.2)
end
def sv(H₀ Hs H:Hp)(as:List Addr):Prop:=∀ a∈as,Hs a=none/\H₀ a=none/\∃ ws,H a=some (.lst ws)
section
variable{B H₀ J3 H':Hp}{env:ae}{as:List Addr}
theorem sv.same(k:sv H₀ Hs H as):aX Hs (iA Hs H as):=λc u e=>by
 rw[eB (λz=>by rw[(k c z).1] at e;cases e)];exact e
theorem sv.grow(k:sv H₀ Hs H as)(g:bc Hs H J3 H'):sv H₀ J3 H' as:=λa z=>by
 obtain⟨h1,h2,ws,h3⟩:=k a z;exact⟨g.nw _ _ h1 h3 (λ_=>nofun),h2,ws,g.al _ _ h3⟩
theorem sv.mono(k:sv H₀ Hs H as)(g:bc Hs H J3 H'):aX (iA Hs H as) (iA J3 H' as):=λc u e=>by
 by_cases z:c∈as
 .rw[eV z] at e ⊢;exact g.al _ _ e
 .rw[eB z] at e ⊢;exact g.st _ _ e
theorem sv.lay(r:SR B H₀ Hs H σ env)(n:i4 env)(k:sv H₀ Hs H as):SR B H₀ (iA Hs H as) H σ env :=
 r.mv ⟨λc u e=>k.same c u (r.gr.st c u e),r.gr.al,λc u e=>by
  by_cases z:c∈as
  .rw[eV z] at e;exact e
  .rw[eB z] at e;exact r.gr.sub c u e,λc u h1 h2 h3=>by
  by_cases z:c∈as
  .rw[(k c z).2.1] at h2;cases h2
  .rw[eB z];exact r.gr.nw c u h1 h2 h3⟩ r.len k.same λ_ _ e=>⟨e,rfl,λ_ _ o=>(n.no e o).elim⟩
theorem sv.back(k:sv H₀ Hs H as)(g:bc (iA Hs H as) H J3 H'):bc Hs H (wu J3 as) H'/\∀ a∈as,∃ ws,J3 a=some (.lst ws):=by
 refine⟨⟨λc u q=>?_,g.al,λc u q=>?_,λc u q1 q2 q3=>?_⟩,λa z=>?_⟩
 .have nc:c ∉ as:=λz=>by rw[(k c z).1] at q;cases q
  rw[lB nc];exact g.st c u (by rw[eB nc];exact q)
 .unfold wu at q
  split at q
  .cases q
  .exact g.sub c u q
 .by_cases z:c∈as
  .exact if_pos z
  .rw[lB z];exact g.nw c u (by rw[eB z];exact q1) q2 q3
 .obtain⟨_,_,ws,h⟩:=k a z;exact⟨ws,g.st _ _ (by rw[eV z];exact h)⟩
end
def Jo(set:PV->ae->M ae)(fo:ae->M (List PV))(Q:List PV->List V->List Addr->Hp->Hp->Addr->Prop)(J6 H1:Hp)(D:Addr)(xs:List PV)(i:Nat)(σ:St)(H:Hp):Prop :=
 ∃ Hs env ys vs as,SR J6 H1 Hs H σ env/\i4 env/\H D=some (.lst vs)/\Hs D=none/\D ∉ as/\sv H1 Hs H as/\aE (iA Hs H as) ys vs/\(∀ v∈vs,∃ a∈as,v=.ref a)/\ys.length<=i ∧
  aq (cb set none (cM fo) (xs.drop i) env) (λzs=>∀ LX LN J3 H',bc J6 H1 J3 (rem H' D)->H' D=some (.lst LX)->J3 D=none->D ∉ LN->sv H1 J3 H' LN->aE (iA J3 H' LN) (ys++zs) LX->(∀ v∈LX,∃ a∈LN,v=.ref a)->Q (ys++zs) LX LN J3 H' D) (λ_=>False)
variable{js:List Nat}{ts:List Str}
section
variable{g:TG}{set:PV->ae->M ae}{fo:ae->M (List PV)}{fs:List Str}
theorem yh{Q:VK}(hv:zG E wi it)(LU:∀ E,wJ E g set)(so:kT set){B H₀:Hp}{env:ae}(sr:SR B H₀ Hs H σ env)
  (q:aq (dn it set none (cM fo) ts.length js env) (λzs=>∀ vs as J3 H' D,bc Hs H J3 (rem H' D)->H D=none->H' D=some (.lst vs)->J3 D=none->D ∉ as->sv H J3 H' as->aE (iA J3 H' as) zs vs->(∀ v∈vs,∃ a∈as,v=.ref a)->Q (.ref D) H') (XW (E σ) Hs H)):mX wi g (tO EF fo) ts js σ H Q:=by
 refine hv σ H _ ⟨B,H₀,Hs,env,sr,(aq.bind q).imp (λxs hp J J6 H1 gr ok D hD=>?_) λe he=>he⟩;obtain⟨hz,hp⟩:=aq.cp hp;have hp:=aq.Aa hp;have MK:=sr.grow gr;have hDH:H D=none:=by
  cases z:H D with
  | none=>rfl
  | some o=>have:=gr.al _ _ z;rw[hD] at this;cases this
 have d0:J6 D=none:=by
  cases z:J6 D with
  | none=>rfl
  | some o=>have:=gr.sub _ _ z;rw[hD] at this;cases this
 let Qo:List PV->List V->List Addr->Hp->Hp->Addr->Prop:=λzs vs as J3 H' D=>Q (.ref D) H'
 refine⟨λi m σ H=>m=xs.length-i/\i<=xs.length/\Jo set fo Qo J6 H1 D xs i σ H,⟨xs.length,by simp,Om _,J6,_,[],[],[],MK.block hD,jg,az,d0,by simp,λa z=>(by cases z),.nil,λv z=>(by cases z),NC _,hp.imp (λzs hz vs as J5 H2 g2 h1 h2 h3 h4 h5 h6=>?_) λ_ z=>z⟩,?_⟩
 .refine hz vs as J5 H2 D (gr.trans g2) hDH h1 h2 h3 (λa za=>?_) h5 h6;obtain⟨p1,p2,p3⟩:=h4 a za;refine⟨p1,?_,p3⟩;cases z:H a with
  | none=>rfl
  | some o=>have:=gr.al _ _ z;rw[p2] at this;cases this
 rintro i m σ' H2 ⟨rfl,hi,J5,env2,ys,vs,as,Kg,n2,d1,d2,d3,k2,r2,v2,l2,h2⟩
 by_cases KW:i<xs.length
 .refine .inr ⟨ok.go i J5 H2 Kg.gr.st Kg.gr.sub KW,Jo set fo Qo J6 H1 D xs (i+1),fun σ3 H3 j=>⟨xs.length-(i+1),by lia,rfl,KW,j⟩,λx H3 y=>?_⟩;obtain⟨p,Lb,ep,g3,r3⟩:=ok.tU i J5 H2 x H3 Kg.gr.st Kg.gr.sub KW y;have hd:xs.drop i=p::xs.drop (i+1):=by
   rw[Py KW];rw[Nt KW] at ep;rw[NQ ep]
  rw[hd] at h2;have h3:=aq.bind h2;have LB:=Kg.grow g3;refine LU (λ_ _ _=>False) J6 H1 Lb H3 σ' env2 p x _ (λ_=>False) LB r3 ?_;cases hset:set p env2 with
  | none=>rw[hset] at h3;exact h3
  | some z=>cases z with
   | error e=>rw[hset] at h3;exact h3
   | ok e3 =>
    rw[hset] at h3;intro σ4 sr4;have n4:=so p env2 e3 hset n2;have h4:=aq.bind (show aq ((cM fo e3).bind λy=>(cb set none (cM fo) (xs.drop (i+1)) e3).bind λys=>M.ok (y::ys)) _ _ from h3);refine⟨J6,H1,Lb,e3,sr4,(aq.bind h4).imp (λps hy us a Mm H5 g5 r5 na=>?_) λ_ z=>z.elim⟩;have Mw:bc J5 H2 Mm H5:=g3.trans g5;have dD:H5 D=some (.lst vs):=Mw.al _ _ d1;have aD:a≠D:=λz=>by rw[z,dD] at na;cases na
    have na1:H1 a=none:=by
     cases z:H1 a with
     | none=>rfl
     | some o=>have:=Mw.al _ _ (Kg.gr.al _ _ z);rw[na] at this;cases this
    have naS:Mm a=none:=by
     cases z:Mm a with
     | none=>rfl
     | some o=>have:=g5.sub _ _ z;rw[na] at this;cases this
    have nas:a ∉ as:=λz=>by
     obtain⟨_,_,ws,e⟩:=(k2.grow Mw) a z;rw[na] at e;cases e
    refine⟨vs,by rw[av aD.symm];exact dD,by rw[<- r2.length];lia,Mm,e3,ys++[.lst ps],vs++[.ref a],a::as,((sr4.grow g5).lS n4 naS na1).lS n4 (Mw.nw _ _ d2 d1 (λ_=>nofun)) hD,n4,az,Mw.nw _ _ d2 d1 (λ_=>nofun),?_,?_,?_,?_,?_,?_⟩
    .intro z;rcases NJ.mp z with z | z
     .exact aD z.symm
     .exact d3 z
    .intro c z;rcases NJ.mp z with z | z
     .subst z;exact⟨naS,na1,us,by rw[av aD,az]⟩
     .obtain⟨q1,q2,ws,q3⟩:=(k2.grow Mw) c z;exact⟨q1,q2,ws,by rw[av (show c≠D from λy=>by rw[y] at z;exact d3 z),av (show c≠a from λy=>by rw[y] at z;exact nas z)];exact q3⟩
    .have sm:aX (iA Mm H5 as) (iA Mm (upd (upd H5 a (.lst us)) D (.lst (vs++[.ref a]))) (a::as)):=λc u e=>by
      by_cases z:c∈as
      .rw[eV z] at e;rw[eV (NH _ z),av (show c≠D from λy=>by rw[y] at z;exact d3 z),av (show c≠a from λy=>by rw[y] at z;exact nas z)];exact e
      .rw[eB z] at e;have nc:c≠a:=λy=>by rw[y,naS] at e;cases e
       rw[eB (λy=>(NJ.mp y).elim nc z)];exact e
     refine((r2.mono (k2.mono Mw)).mono sm).snoc (.lst (a:=a) (vs:=us) ?_ (r5.mono λc u e=>sm c u ((k2.grow Mw).same c u e)));rw[eV (NU ..),av aD,az]
    .intro v z;rcases O0.mp z with z | z
     .obtain⟨c,q1,q2⟩:=v2 v z;exact⟨c,NH _ q1,q2⟩
     .rw[N6] at z;exact⟨a,NU ..,z⟩
    .rw[NO];show ys.length+1<=i+1;lia
    .refine(aq.bind hy).imp (λzs hz=>?_) λ_ z=>z;intro LX LN J3 H' w1 w2 w3 w4 w5 w6 w7;have:=hz LX LN J3 H' w1 w2 w3 w4 w5 (by rw[PD] at w6;exact w6) w7;rw[PD];exact this
 .refine .inl ⟨ok.stop i J5 H2 Kg.gr.st Kg.gr.sub (by lia),?_⟩;rw[P7 (by lia)] at h2;have h3:∀ LX LN J3 H',bc J6 H1 J3 (rem H' D)->H' D=some (.lst LX)->J3 D=none->D ∉ LN->sv H1 J3 H' LN->aE (iA J3 H' LN) (ys++[]) LX->(∀ v∈LX,∃ a∈LN,v=.ref a)->Qo (ys++[]) LX LN J3 H' D:=h2;refine h3 vs as J5 H2 ⟨Kg.gr.st,λc u q=>?_,λc u q=>?_,Kg.gr.nw⟩ d1 d2 d3 k2 (by rw[Og];exact r2) v2
  .rw[mW (λz=>by rw[z,hD] at q;cases q)];exact Kg.gr.al c u q
  .rw[mW (λz=>by rw[z,d2] at q;cases q)];exact Kg.gr.sub c u q
end
def zZ:M PV->M PV
 | some (.ok p)=>cp (ng p=true) (M.ok p)
 | _=>none
theorem aq.zZ{r:M PV}{Q:PV->Prop}{E:EX->Prop}(h:aq (L2.zZ r) Q E):aq r (λp=>ng p=true/\Q p) (λ_=>False):=by
 cases r with
 | none=>exact h
 | some r=>cases r with
  | error e=>exact h
  | ok p =>
   obtain⟨n,h⟩:=aq.cp h;exact⟨n,h⟩
def xG:Out->M Out
 | .rt p=>M.ok (.rt p)
 | _=>none
def xY(ih ig:Nat)(it:ae->M (List PV))(set:PV->ae->M ae)(fo:ae->M (List PV))(n:Nat)(js:List Nat)(g2:ae->M PV)(u3:ae->M Bool)(fb rest:ae->M Out):ae->M Out:=λenv =>
 cp (zo env=true/\ih<env.length) ((dn it set none (cM fo) n js env).bind λzs =>
  (zZ (g2 ((env.set ih none).set ih (some (.sh (.lst zs)))))).bind λp =>
   (xZ (u3 (((env.set ih none).set ig (some (.sh p))).set ih (some (.sh (.lst zs)))))).bind λb =>
    if b=true then (fb ((env.set ih none).set ig (some (.sh p)))).bind xG else cp (zs≠[]) (rest ((env.set ih none).set ig (some (.sh p)))))
variable{α:Type}
theorem Ex{l:List α}{w:α}(h:l[i]?=some w):l.set i w=l:=by
 refine T_ λj=>?_;rw[N5]
 split
 .rename_i z;subst z;rw[h,if_pos (N8.mp h).1]
 .rfl
structure Ao (ih:Nat) (D:Addr) (as:List Addr) (zs:List PV) (vs:List V) (B H₀ Hs H:Hp) (σ:St) (env:ae):Prop where
 sr:SR B H₀ Hs H σ env
 no:i4 env
 sl:σ[ih]?=some (some (.ref D))
 nL:env[ih]?=some none
 k:sv H₀ Hs H (D::as)
 hD:H D=some (.lst vs)
 r:aE (iA Hs H (D::as)) zs vs
 v:∀ v∈vs,∃ a∈as,v=.ref a
section
variable{ih:Nat}{D:Addr}{as:List Addr}{zs:List PV}{vs:List V}{B H₀ J3 H':Hp}{env:ae}
theorem Ao.grow(h:Ao ih D as zs vs B H₀ Hs H σ env)(g:bc Hs H J3 H'):Ao ih D as zs vs B H₀ J3 H' σ env :=
 ⟨h.sr.grow g,h.no,h.sl,h.nL,h.k.grow g,g.al _ _ h.hD,h.r.mono (h.k.mono g),h.v⟩
theorem Ao.set{ig:Nat}{p:PV}{v:V}(h:Ao ih D as zs vs B H₀ Hs H σ env)(n:ig≠ih)(rp:Rep Hs p v):Ao ih D as zs vs B H₀ Hs H (σ.set ig (some v)) (env.set ig (some (.sh p))) :=
 ⟨h.sr.set rp,gH h.no,by rw[N5,if_neg n];exact h.sl,by rw[N5,if_neg n];exact h.nL,h.k,h.hD,h.r,h.v⟩
theorem Ao.lay(h:Ao ih D as zs vs B H₀ Hs H σ env):SR B H₀ (iA Hs H (D::as)) H σ (env.set ih (some (.sh (.lst zs)))):=by
 have:=(h.k.lay h.sr h.no).set (i:=ih) (p:=.lst zs) (v:=.ref D) (.lst (by rw[eV (NU ..)];exact h.hD) h.r)
 rwa [Ex h.sl] at this
end
section
variable{E:XK}{st1:Stmt}{e2 e3 e4:Expr}{rest body:List Stmt}{ih ig:Nat}{g:TG}{set:PV->ae->M ae}{fo:ae->M (List PV)}{g2:ae->M PV}{u3:ae->M Bool}{fb f:ae->M Out}{LS Mz st4:Stmt}
theorem zN(h1:PS X st1 (wb (mX wi g (tO EF fo) ts js) (aL ih)))(hv:zG (λ_=>E) wi it)(LU:∀ E,wJ E g set)(so:kT set)(h2:PS X LS (wb (tE (λ_=>E) g2) (aL ig)))(h3:PS X Mz (FU (tT (λ_=>E) u3) (tS E fb) B_))
  (h4:PS X st4 (B6 (Gd X.K "list" xx (Fn (Ic X.K) (FA ih) (tC (.int 0)))))) (n:ig≠ih) (h5:iG X rest (tS E f)):iG X (st1::LS::Mz::st4::rest) (tS E (xY ih ig it set fo ts.length js g2 u3 fb f)):=by
 refine(gz h1 (gz h2 (gz h3 (gz h4 h5)))).imp λD σ H q=>?_;obtain⟨B,H₀,Hs,env,sr,q⟩:=q;obtain⟨⟨no,lh⟩,q⟩:=aq.cp q;have no:=yf no;unfold Gi wb;refine yh hv LU so sr ((aq.bind q).imp (λzs hz vs as J3 H' Da gr hn hD sD nD k r hv2=>?_) λe he=>he.grow sr.gr);have gL:(env.set ih none)[ih]?=some none:=by rw[N5,if_pos rfl,if_pos lh]
 have sm:aX (iA J3 H' as) (iA J3 H' (Da::as)):=λc u e=>by
  by_cases z:c∈as
  .rw[eV z] at e;rw[eV (NH _ z)];exact e
  .rw[eB z] at e;have nc:c≠Da:=λy=>by rw[y,sD] at e;cases e
   rw[eB (λy=>(NJ.mp y).elim nc z)];exact e
 have h0:∀ c,H c=none->H₀ c=none:=λc h=>by
  cases z:H₀ c with
  | none=>rfl
  | some o=>have:=sr.gr.al _ _ z;rw[h] at this;cases this
 have s1:SR B H₀ J3 H' (σ.set ih (some (.ref Da))) (env.set ih none):=by
  have:=(((sr.forget (i:=ih)).over (w:=some (.ref Da)) gL).grow gr).lS (D:=Da) (o:=.lst vs) (rF no) sD (h0 _ hn)
  rwa [u9 hD] at this
 have t1:Ao ih Da as zs vs B H₀ J3 H' (σ.set ih (some (.ref Da))) (env.set ih none):=by
  refine⟨s1,rF no,by rw[N5,if_pos rfl,if_pos (by rw[sr.len];exact lh)],gL,λa z=>?_,hD,r.mono sm,hv2⟩;rcases NJ.mp z with z | z
  .subst z;exact⟨sD,h0 _ hn,vs,hD⟩
  .obtain⟨q1,q2,q3⟩:=k a z;exact⟨q1,h0 _ q2,q3⟩
 refine⟨B,H₀,_,_,t1.lay,(aq.zZ (aq.bind hz)).imp (λp hp v J5 H2 g' rp=>?_) λ_ z=>z.elim⟩;obtain⟨gb,hb⟩:=t1.k.back g';have t2:=(t1.grow gb).set n (rp.jB hb hp.1);refine⟨B,H₀,_,_,t2.lay,(aq.xZ (aq.bind hp.2)).imp (λb hb Lb H3 g3=>?_) λ_ z=>z.elim⟩;have t3:=t2.grow (t2.k.back g3).1;cases b with
 | true =>
  rw[if_pos rfl] at hb;refine⟨B,H₀,_,_,t3.sr,(aq.bind (show aq ((fb _).bind xG) _ _ from hb)).imp (λo ho=>?_) λe he=>he⟩;cases o with
  | rt p=>exact ho
  | _=>exact ho.elim
 | false =>
  rw[if_neg (by decide)] at hb;obtain⟨nz,hb⟩:=aq.cp hb;cases vs with
  | nil=>cases t3.r;exact absurd rfl nz
  | cons w ws =>
   obtain⟨a,ha,rfl⟩:=t3.v w (NU ..);obtain⟨q1,q2,us,q3⟩:=t3.k a (NH _ ha);exact⟨.ref Da,t3.sl,.inl ⟨Da,_,0,.ref a,rfl,rfl,gc.of t3.hD,lG (j:=0) rfl,.inl ⟨rfl,us,gc.of q3⟩,a,us,rfl,rfl,q3,B,H₀,_,_,t3.sr.lS t3.no q1 q2,hb⟩⟩
end
variable{β:Type}
variable{x0:Option SV}
variable{p:PV}
variable{b:ae->M Out}{u:ae->M Bool}
variable{j:Int}
variable{body:ae->M Out}
section
open PySem.SeqAt (shaped noMix noMixAll)
theorem M.aT(a:α)(f:α->M β):M.bind (M.ok a) f=f a:=N3 rfl rfl
theorem M.xR(e:EX)(f:α->M β):M.bind (some (Except.error e)) f=some (.error e):=N3 rfl rfl
theorem M.bind_none(f:α->M β):M.bind none f=none:=N3 rfl rfl
theorem M.bind_some(a:α)(f:α->M β):M.bind (some (Except.ok a)) f=f a:=N3 rfl rfl
theorem M.bind_assoc{γ:Type}(x:M α)(f:α->M β)(g:β->M γ):M.bind (M.bind x f) g=M.bind x λa=>M.bind (f a) g:=by
 cases x with
 | none=>rfl
 | some x=>cases x <;> rfl
theorem au{c:Prop}[Decidable c]{x:M α}(h:c):cp c x=x:=if_pos h
theorem Dx(a:α):Aa (M.ok a)=M.ok a:=N3 rfl rfl
theorem wC(x:PV):eM (some x)=M.ok x:=N3 rfl rfl
theorem qP(g:ae->M Out)(env:ae):xt g (.nx env)=g env:=N3 rfl rfl
theorem qL(g:ae->M Out)(p:PV):xt g (.rt p)=M.ok (.rt p):=N3 rfl rfl
theorem A3(b:Bool):tN (.bl b)=M.ok b:=N3 rfl rfl
theorem Ad(p:PV):Ei (.rt p)=M.ok p:=N3 rfl rfl
theorem BW(e:ae):Ei (.nx e)=M.ok .bz:=N3 rfl rfl
def tI(xs:List Int):PV:=.tup (xs.map PV.int)
def lI(xs:List Int):PV:=.lst (xs.map PV.int)
theorem Bh(xs:List Int):aW (tI xs)=some (xs.map PV.int):=N3 rfl rfl
theorem AQ(xs:List Int):aW (lI xs)=some (xs.map PV.int):=N3 rfl rfl
theorem xh(xs:List PV):aW (.tup xs)=some xs:=N3 rfl rfl
theorem yn(xs:List PV):aW (.lst xs)=some xs:=N3 rfl rfl
theorem wL(xs:List PV):aW (.iw xs)=some xs:=N3 rfl rfl
theorem Ay(xs:List Int):nW (tI xs)=M.ok (.int xs.length):=by simp[nW,tI,aW,eM]
theorem BO(xs:List Int):nW (lI xs)=M.ok (.int xs.length):=by simp[nW,lI,aW,eM]
theorem xU(xs:List PV):nW (.tup xs)=M.ok (.int xs.length):=N3 rfl rfl
theorem x8(xs:List PV):nW (.lst xs)=M.ok (.int xs.length):=N3 rfl rfl
theorem xp(xs:List PV):nW (.iw xs)=M.ok (.int xs.length):=N3 rfl rfl
theorem xO(xs:List Int):s_ [.lst (xs.map PV.int)]=M.ok (.int xs.sum):=by simp[s_,GR,oF,eM]
theorem qD(xs:List Bool):qx [.lst (xs.map PV.bl)]=M.ok (.bl (xs.all id)):=by simp[qx,all1,rZ,eM]
theorem je{inj h:α->PV}{rest:ae}(xs:List α)(H:∀ a∈xs,f (some (.sh (inj a))::rest)=M.ok (h a)):cb (e6 0) none f (xs.map inj) (x0::rest)=M.ok (xs.map h):=by
 induction xs generalizing x0 with
 | nil=>rfl
 | cons a r ih =>
  rw[NX,cb];show M.bind (M.ok ((x0::rest).set 0 (some (.sh (inj a))))) _=_;rw[M.aT,Pr];show M.bind (f _) _=_;rw[H a NU,M.aT,ih λb hb=>H b (NH _ hb)];rfl
theorem iz{p q h:α->PV}{rest:ae}{x1:Option SV}(xs:List α)(H:∀ a∈xs,f (some (.sh (p a))::some (.sh (q a))::rest)=M.ok (h a)):cb (bM 0 1) none f (xs.map λa=>.tup [p a,q a]) (x0::x1::rest)=M.ok (xs.map h):=by
 induction xs generalizing x0 x1 with
 | nil=>rfl
 | cons a r ih =>
  rw[NX,cb];show M.bind (M.ok (((x0::x1::rest).set 0 (some (.sh (p a)))).set 1 (some (.sh (q a))))) _=_;rw[M.aT,Pr,QH,Pr];show M.bind (f _) _=_;rw[H a NU,M.aT,ih λb hb=>H b (NH _ hb)];rfl
theorem Eb{p q s h:α->PV}{rest:ae}{x1 x2:Option SV}(xs:List α)(H:∀ a∈xs,f (some (.sh (p a))::some (.sh (q a))::some (.sh (s a))::rest)=M.ok (h a)):cb (mz 0 1 2) none f (xs.map λa=>.tup [p a,q a,s a]) (x0::x1::x2::rest)=M.ok (xs.map h):=by
 induction xs generalizing x0 x1 x2 with
 | nil=>rfl
 | cons a r ih =>
  rw[NX,cb];show M.bind (M.ok ((((x0::x1::x2::rest).set 0 (some (.sh (p a)))).set 1 (some (.sh (q a)))).set 2 (some (.sh (s a))))) _=_;rw[M.aT,Pr,QH,Pr,QH,QH,Pr];show M.bind (f _) _=_;rw[H a NU,M.aT,ih λb hb=>H b (NH _ hb)];rfl
theorem gv{f:α->PV}{g:β->PV}{q:PV}(xs:List α)(ys:List β)(hp:aW p=some (xs.map f))(hq:aW q=some (ys.map g)):zip2 [p,q]=M.ok ((xs.zip ys).map λz=>.tup [f z.1,g z.2]):=by
 simp only[zip2,hp,hq];congr 2;rw[List.zipWith_map,List.zip_eq_zipWith,List.map_zipWith]
theorem zy{γ:Type}{f:α->PV}{g:β->PV}{h:γ->PV}{q r:PV}(xs:List α)(ys:List β)(zs:List γ)(hp:aW p=some (xs.map f))(hq:aW q=some (ys.map g))(hr:aW r=some (zs.map h)):qE [p,q,r]=M.ok ((xs.zip (ys.zip zs)).map λz=>.tup [f z.1,g z.2.1,h z.2.2]):=by
 simp only[qE,hp,hq,hr];congr 2;clear hp hq hr
 induction xs generalizing ys zs with
 | nil=>cases ys <;> cases zs <;> rfl
 | cons a r ih =>
  cases ys with
  | nil=>rfl
  | cons b s =>
   cases zs with
   | nil=>rfl
   | cons c t=>simp only[NX,hV,Tu,ih]
theorem vp{f:α->PV}(xs:List α):fX (xs.map f)=(xs.zipIdx).map λz=>.tup [.int (z.2:Int),f z.1]:=by
 unfold fX;rw[List.mapIdx_eq_zipIdx_map,List.zipIdx_map,ON];rfl
theorem qM{set:PV->ae->M ae}{body:ae->M Out}{α:Type}{inj:α->PV}(J:List α->ae->Prop)
  (H:∀ a r env,J (a::r) env->∃ e' J2,set (inj a) env=M.ok e'/\body e'=M.ok (.nx J2)/\J r J2):∀ (xs:List α) (env:ae),J xs env->∃ J2,fm set body (xs.map inj) env=M.ok (.nx J2)/\J [] J2
 | [],env,h=>⟨env,rfl,h⟩
 | a::r,env,h=>by
  obtain⟨e',J2,h1,h2,h3⟩:=H a r env h;obtain⟨LY,h4,h5⟩:=qM J H r J2 h3;refine⟨LY,?_,h5⟩;rw[NX,fm,h1,M.aT,h2,M.aT];exact h4
theorem oI(J:ae->Prop)(m:ae->Nat)
  (H:∀ env,J env->(u env=M.ok false)\/(u env=M.ok true/\∃ J2,b env=M.ok (.nx J2)/\J J2/\m J2<m env)) (env:ae) (h:J env):∃ J2,jw u b env=M.ok (.nx J2)/\J J2/\u J2=M.ok false:=by
 have key:∀ (n:Nat) (env:ae),J env->m env<n->∃ J2,cy u b n env=M.ok (.nx J2)/\J J2/\u J2=M.ok false:=by
  intro n
  induction n with
  | zero=>intro env _ hn;lia
  | succ n ih =>
   intro env h hn;rcases H env h with hu | ⟨hu,J2,hb,hj,hm⟩
   .exact⟨env,by rw[cy,hu,M.aT];rfl,h,hu⟩
   .obtain⟨LY,h1,h2,h3⟩:=ih J2 hj (by lia);exact⟨LY,by rw[cy,hu,M.aT,if_pos rfl,hb,M.aT];exact h1,h2,h3⟩
 obtain⟨J2,h1,h2,h3⟩:=key (m env+1) env h (O3 _);refine⟨J2,?_,h2,h3⟩;rw[vn (n:=m env+1) (by rw[h1];exact λz=>nomatch z),h1]
theorem log2_small{i:Int}(h:i.natAbs<2^k)(hk:k<=9000):i.natAbs.log2<67108864:=by
 by_cases z:i.natAbs=0
 .rw[z];decide
 .have:=(Uy z).mpr h;lia
theorem bu{i:Int}{l:Nat}(hi:i.natAbs<2^k)(hj:j.natAbs<2^l)(hk:autoParam (k<=9000) aD._auto_1)(hl:autoParam (l<=9000) aD._auto_1):bH (.int i) (.int j)=M.ok (.int (i*j)):=by
 rw[bH,au ⟨log2_small hi hk,log2_small hj hl⟩]
theorem oE{i:Int}(h0:j≠0)(h:j.natAbs<2^9000):cN (.int i) (.int j)=M.ok (.int (i.fdiv j)):=by
 show cp _ _=_;refine au (decide_eq_true ⟨h0,(Uy (by lia)).mpr h⟩)
theorem zh{i:Int}(h0:j≠0):bT (.int i) (.int j)=M.ok (.int (i.fmod j)):=by
 show cp _ _=_;exact au (decide_eq_true h0)
theorem bq{i:Int}(h0:0<j)(h:j<2^64):cN (.int i) (.int j)=M.ok (.int (i/j)):=by
 rw[oE (by lia) (NG (show j.natAbs<2^64 by lia) (Rk (by decide) (by decide))),Ql _ (by lia)]
theorem aA{i:Int}(h0:0<j):bT (.int i) (.int j)=M.ok (.int (i%j)):=by
 rw[zh (by lia),Int.fmod_eq_emod_of_nonneg _ (by lia)]
theorem br{j:Nat}{x:PV}(hs:aW p=some xs)(h:xs[j]?=some x):bo p (.int (j:Int))=M.ok x:=by
 cases p with
 | tup ys=>cases hs;simp only[bo,lG h,eM]
 | lst ys=>cases hs;simp only[bo,lG h,eM]
 | iw ys=>cases hs;simp only[bo,lG h,eM]
 | _=>cases hs
section
variable{b:String->Bool}{ob oe:Addr->Option Bool}
theorem Dr(xs:List Int):zR b ob oe (tI xs)=M.ok (.bl (b "tuple")):=N3 rfl rfl
theorem EG(xs:List Int):zR b ob oe (lI xs)=M.ok (.bl (b "list")):=N3 rfl rfl
theorem BG(xs:List PV):zR b ob oe (.tup xs)=M.ok (.bl (b "tuple")):=N3 rfl rfl
theorem AW(xs:List PV):zR b ob oe (.lst xs)=M.ok (.bl (b "list")):=N3 rfl rfl
theorem A0(i:Int):zR b ob oe (.int i)=M.ok (.bl (b "int")):=N3 rfl rfl
theorem E1(i:Bool):zR b ob oe (.bl i)=M.ok (.bl (b "bool")):=N3 rfl rfl
theorem AV:zR b ob oe .bz=M.ok (.bl (b "NoneType")):=N3 rfl rfl
theorem Ah(x:Str):zR b ob oe (.str x)=M.ok (.bl (b "str")):=N3 rfl rfl
theorem A8:zR b ob oe .emp=M.ok (.bl (b "dict")):=N3 rfl rfl
end
theorem BU(i j:Int):pG (.int i) (.int j)=M.ok (.bl (!decide (i=j))):=by
 simp only[pG,n9,dat,DI,shaped,OY,Pe,noMix];rw[au ⟨rfl,rfl,trivial⟩];unfold same;rw[M.aT];congr
theorem Ax(i j:Int):rg (.int i) (.int j)=M.ok (.bl (decide (i=j))):=by
 simp only[rg,n9,dat,DI,shaped,OY,Pe,noMix];rw[au ⟨rfl,rfl,trivial⟩];unfold same;rw[M.aT];congr
theorem Dt(i j:Bool):pG (.bl i) (.bl j)=M.ok (.bl (!decide (i=j))):=by
 simp only[pG,n9,dat,DI,shaped,OY,Pe,noMix];rw[au ⟨rfl,rfl,trivial⟩];unfold same;rw[M.aT];congr
theorem D_(i j:Bool):rg (.bl i) (.bl j)=M.ok (.bl (decide (i=j))):=by
 simp only[rg,n9,dat,DI,shaped,OY,Pe,noMix];rw[au ⟨rfl,rfl,trivial⟩];unfold same;rw[M.aT];congr
theorem oX(xs:List Int):kh (xs.map PV.int)=some (xs.map O4):=by
 induction xs with
 | nil=>rfl
 | cons a r ih=>simp[kh,dat,ih]
theorem kM(xs:List Int):PF (xs.map O4)=true:=by
 induction xs with
 | nil=>rfl
 | cons a r ih=>simp[PF,OY,ih]
theorem mF(xs:List Int):Qa (xs.map O4)=0:=by
 induction xs with
 | nil=>rfl
 | cons a r ih=>simp[Qa,Pe,ih]
theorem noMix_ints:∀ (xs ys:List Int),noMixAll (xs.map O4) (ys.map O4)=true
 | [],[]=>by simp[noMixAll]
 | [],_::_=>by simp[noMixAll]
 | _::_,[]=>by simp[noMixAll]
 | a::r,b::s=>by simp[noMixAll,noMix,noMix_ints r s]
theorem same_ints:∀ (xs ys:List Int),sameAll (xs.map O4) (ys.map O4)=decide (xs=ys)
 | [],[]=>by simp[sameAll]
 | [],_::_=>by simp[sameAll]
 | _::_,[]=>by simp[sameAll]
 | a::r,b::s=>by
  simp only[NX,sameAll,same_ints r s];unfold same;rw[SA];simp
theorem qm(xs ys:List Int):pG (tI xs) (tI ys)=M.ok (.bl (!decide (xs=ys))):=by
 simp only[pG,n9,dat,tI,oX,UG,DI];rw[au (by simp[shaped,OY,Pe,kM,mF,noMix,noMix_ints])];unfold same;rw[same_ints];rfl
theorem BA(i j:Int):B1 (.int i) (.int j)=M.ok (.bl (decide (i<j))):=N3 rfl rfl
theorem Ba(i j:Int):AB (.int i) (.int j)=M.ok (.bl (decide (i<=j))):=N3 rfl rfl
theorem AS(i j:Int):Bn (.int i) (.int j)=M.ok (.bl (decide (j<i))):=N3 rfl rfl
theorem By(i j:Int):Cu (.int i) (.int j)=M.ok (.bl (decide (j<=i))):=N3 rfl rfl
theorem yZ(i j:Int):bG (.int i) (.int j)=M.ok (.int (i+j)):=N3 rfl rfl
theorem xN(i j:Int):k_ (.int i) (.int j)=M.ok (.int (i-j)):=N3 rfl rfl
theorem m8{n:Int}(h:0<=n)(h2:n<2^62):sP [.int n]=M.ok ((Oz n.toNat).map λ(i:Nat)=>.int (i:Int)):=by
 show cp (-(2^62)<=n/\n<2^62) _=_;rw[au (by lia)];simp
theorem ko{set:PV->ae->M ae}{inj:α->PV}{k:Out->M β}{r:M β}(xs:List α)(J:List α->ae->Prop){env:ae}(h:J xs env)
  (H:∀ a r env,J (a::r) env->∃ e' J2,set (inj a) env=M.ok e'/\body e'=M.ok (.nx J2)/\J r J2) (hk:∀ J2,J [] J2->k (.nx J2)=r):M.bind (fm set body (xs.map inj) env) k=r:=by
 obtain⟨J2,e,h'⟩:=qM J H xs env h;rw[e,M.aT];exact hk J2 h'
theorem sL{k:Out->M β}{r:M β}(J:ae->Prop)(m:ae->Nat){env:ae}(h:J env)
  (H:∀ env,J env->(u env=M.ok false)\/(u env=M.ok true/\∃ J2,b env=M.ok (.nx J2)/\J J2/\m J2<m env)) (hk:∀ J2,J J2->u J2=M.ok false->k (.nx J2)=r):M.bind (jw u b env) k=r:=by
 obtain⟨J2,e,h',h2⟩:=oI J m H env h;rw[e,M.aT];exact hk J2 h' h2
theorem aH(h:n<=1000):n<=sizeLine:=QL (o4 h)
def tupK(ps:List PV):M PV:=cp (ps.length<=sizeLine) (M.ok (.tup ps))
def lstK(ps:List PV):M PV:=cp (ps.length<=sizeLine) (M.ok (.lst ps))
theorem BR(fs:ae->M (List PV))(env:ae):cR fs env=(fs env).bind tupK:=rfl
theorem Aw(fs:ae->M (List PV))(env:ae):cO fs env=(fs env).bind lstK:=rfl
theorem EH:tupK []=M.ok (.tup []):=au (aH (show 0<=1000 by decide))
theorem DE:lstK []=M.ok (.lst []):=au (aH (show 0<=1000 by decide))
theorem D4(a:PV):tupK [a]=M.ok (.tup [a]):=au (aH (show 1<=1000 by decide))
theorem Ea(a:PV):lstK [a]=M.ok (.lst [a]):=au (aH (show 1<=1000 by decide))
theorem Eg(a b:PV):tupK [a,b]=M.ok (.tup [a,b]):=au (aH (show 2<=1000 by decide))
theorem EV(a b:PV):lstK [a,b]=M.ok (.lst [a,b]):=au (aH (show 2<=1000 by decide))
theorem EL(a b c:PV):tupK [a,b,c]=M.ok (.tup [a,b,c]):=au (aH (show 3<=1000 by decide))
theorem D0(a b c:PV):lstK [a,b,c]=M.ok (.lst [a,b,c]):=au (aH (show 3<=1000 by decide))
theorem Fe(a b c d:PV):tupK [a,b,c,d]=M.ok (.tup [a,b,c,d]):=au (aH (show 4<=1000 by decide))
theorem D9(a b c d:PV):lstK [a,b,c,d]=M.ok (.lst [a,b,c,d]):=au (aH (show 4<=1000 by decide))
theorem CO(a b c d e:PV):tupK [a,b,c,d,e]=M.ok (.tup [a,b,c,d,e]):=au (aH (show 5<=1000 by decide))
theorem Es(a b c d e:PV):lstK [a,b,c,d,e]=M.ok (.lst [a,b,c,d,e]):=au (aH (show 5<=1000 by decide))
theorem EK(a b c d e f:PV):tupK [a,b,c,d,e,f]=M.ok (.tup [a,b,c,d,e,f]):=au (aH (show 6<=1000 by decide))
theorem Dk(a b c d e f:PV):lstK [a,b,c,d,e,f]=M.ok (.lst [a,b,c,d,e,f]):=au (aH (show 6<=1000 by decide))
end
def iD(m:M α)(Q:α->Prop):Prop:=∃ a,m=M.ok a/\Q a
section
variable{γ:Type}{Q Q':α->Prop}{m:M α}
theorem iD.eq{a:α}(h:iD m λx=>x=a):m=M.ok a:=by obtain⟨b,e,rfl⟩:=h;exact e
def Tn(J:ae->Prop)(B:ae->Prop)(R:PV->Prop):Out->Prop
 | .nx e=>J e
 | .ct e=>J e
 | .bk e=>B e
 | .rt p=>R p
theorem iD.uN{set:PV->ae->M ae}{body:ae->M Out}{inj:γ->PV}{B:ae->Prop}{R:PV->Prop}(J:List γ->ae->Prop)
  (H:∀ a r env,J (a::r) env->iD (M.bind (set (inj a) env) body) (Tn (J r) B R)):∀ (xs:List γ) (env:ae),J xs env->iD (fm set body (xs.map inj) env) λo=>(∃ e,o=.nx e/\(J [] e\/B e))\/∃ p,o=.rt p/\R p
 | [],env,h=>⟨_,rfl,.inl ⟨_,rfl,.inl h⟩⟩
 | a::r,env,h=>by
  obtain⟨o,e,q⟩:=H a r env h;rw[NX,fm,<- M.bind_assoc,e,M.aT];cases o with
  | nx e'=>exact iD.uN J H r e' q
  | ct e'=>exact iD.uN J H r e' q
  | bk e'=>exact⟨_,rfl,.inl ⟨_,rfl,.inr q⟩⟩
  | rt p=>exact⟨_,rfl,.inr ⟨_,rfl,q⟩⟩
theorem iD.loop{R:β->Prop}{set:PV->ae->M ae}{inj:γ->PV}{k:Out->M β}{xs:List γ}{env:ae}(J:List γ->ae->Prop)(h:J xs env)
  (H:∀ a r env,J (a::r) env->iD (M.bind (set (inj a) env) body) (Tn (J r) (λ_=>False) λ_=>False)) (hk:∀ J2,J [] J2->iD (k (.nx J2)) R):iD (M.bind (fm set body (xs.map inj) env) k) R:=by
 obtain⟨o,e,q⟩:=iD.uN J H xs env h;rw[e,M.aT];rcases q with ⟨e',rfl,q | q⟩ | ⟨p,_,q⟩
 .exact hk e' q
 .exact q.elim
 .exact q.elim
theorem iD.Ce{R:β->Prop}{set:PV->ae->M ae}{inj:γ->PV}{k:Out->M β}{xs:List γ}{env:ae}(J:List γ->ae->Prop)(h:J xs env)
  (H:∀ a r env,J (a::r) env->iD (M.bind (set (inj a) env) body) (Tn (J r) (λe=>iD (k (.nx e)) R) λp=>iD (k (.rt p)) R)) (hk:∀ J2,J [] J2->iD (k (.nx J2)) R):iD (M.bind (fm set body (xs.map inj) env) k) R:=by
 obtain⟨o,e,q⟩:=iD.uN J H xs env h;rw[e,M.aT];rcases q with ⟨e',rfl,q | q⟩ | ⟨p,rfl,q⟩
 .exact hk e' q
 .exact q
 .exact q
end
def FF(i:Nat)(env:ae)(xs:List PV)(p:PV):M Out:=if xs.length<sizeLine then M.ok (.nx (env.set i (some (.ow (xs++[p]))))) else none
theorem fV(i:Nat)(f:ae->M PV)(env:ae):k8 i f env=(ownAt i env).bind λxs=>(f env).bind λp=>FF i env xs p:=by
 unfold k8 ownAt;rcases env[i]? with _ | _ | (_ | _ | _) <;> rfl
theorem gG{env:ae}(h:xs.length<1000):FF i env xs p=M.ok (.nx (env.set i (some (.ow (xs++[p]))))):=if_pos (o4 (QL h))
def uL(C:Addr)(m:Str)(sem:List PV->M PV)(p:PV)(x:M (List PV)):M PV:=match p with
 | .obj C' fl=>cp (C'=C/\fl.lookup m=none) (x.bind λps=>sem (.obj C' fl::ps))
 | _=>none
theorem gu(C:Addr)(m:Str)(sem:List PV->M PV)(g:ae->M PV)(fs:ae->M (List PV))(env:ae):dF C m sem g fs env=(g env).bind λp=>uL C m sem p (fs env):=rfl
theorem oy{fl:List (Str×PV)}{x:M (List PV)}(h:fl.lookup m=none):uL C m sem (.obj C fl) x=x.bind λps=>sem (.obj C fl::ps):=au ⟨rfl,h⟩
def zD(ok:Addr->Bool)(f:Str)(p:PV):M PV:=match p with
 | .obj C fs=>cp (ok C=true) (eM (fs.lookup f))
 | _=>none
theorem u4(ok:Addr->Bool)(f:Str)(g:ae->M PV)(env:ae):rX ok f g env=(g env).bind (zD ok f):=rfl
theorem m_{ok:Addr->Bool}{f:Str}{fs:List (Str×PV)}{x:PV}(h:ok C=true)(hl:fs.lookup f=some x):zD ok f (.obj C fs)=M.ok x:=by
 show cp _ _=_;rw[au h,hl];rfl
theorem kj(xs:List Int)(x:Int):xs.map PV.int++[.int x]=(xs++[x]).map PV.int:=by simp
theorem jT{f:α->PV}(xs:List α)(h:aW p=some (xs.map f)):uv [p]=M.ok (xs.zipIdx.map λz=>.tup [.int (z.2:Int),f z.1]):=by
 show Ij p=_;unfold Ij;rw[h];show M.ok (fX _)=_;rw[vp]
theorem ki(xs:List Int):uv [lI xs]=M.ok (xs.zipIdx.map λz=>.tup [.int (z.2:Int),.int z.1]):=jT xs rfl
theorem Fc(xs:List Int):uv [tI xs]=M.ok (xs.zipIdx.map λz=>.tup [.int (z.2:Int),.int z.1]):=jT xs rfl
theorem BE{f:α->PV}(xs:List α):uv [.lst (xs.map f)]=M.ok (xs.zipIdx.map λz=>.tup [.int (z.2:Int),f z.1]):=jT xs rfl
theorem Jx{us:List α}(h:us.length=1):∃ a,us=[a]:=by
 cases us with
 | nil=>cases h
 | cons a t=>cases t with
  | nil=>exact⟨a,rfl⟩
  | cons b t=>cases h
theorem ln2{us:List α}(h:us.length=2):∃ a b,us=[a,b]:=by
 cases us with
 | nil=>cases h
 | cons a t=>obtain⟨b,rfl⟩:=Jx (Su h);exact⟨a,b,rfl⟩
theorem JA{us:List α}(h:us.length=3):∃ a b c,us=[a,b,c]:=by
 cases us with
 | nil=>cases h
 | cons a t=>obtain⟨b,c,rfl⟩:=ln2 (Su h);exact⟨a,b,c,rfl⟩
theorem JT{us:List α}(h:us.length=4):∃ a b c d,us=[a,b,c,d]:=by
 cases us with
 | nil=>cases h
 | cons a t=>obtain⟨b,c,d,rfl⟩:=JA (Su h);exact⟨a,b,c,d,rfl⟩
def uX(K:Nr):Bool:=K.all λp=>match p.2.cls with
 | .type t=>t != "list"
 | _=>true
theorem yv{K:Nr}(h:uX K=true){o:Obj}(e:K.lookup a=some o):o.cls≠.type "list" := by
 induction K with
 | nil=>cases e
 | cons p r ih =>
  obtain⟨b,u⟩:=p;rw[uX,Tc,Ou] at h;rw[OD] at e;cases q:a==b with
  | true =>
   rw[q] at e;cases e;intro z;have h1:=h.1;simp only[z] at h1;exact absurd h1 (by decide)
  | false=>rw[q] at e;exact ih h.2 e
theorem oY{H:Hp}:∀ ns:List Int,aE H (ns.map PV.int) (ns.map V.int)
 | []=>.nil
 | i::r=>.cons (.int i) (oY r)
theorem tJ{l:PySem.W.OpenLaw}{q:Program}{loose:List Str}{XP:(Str->Option Value)->Heap->Prop}{YP:World->Heap->Prop}{d:DefRec}{K:Params->Nr}{x:Str}
  (hn:l.most=some n) (Mr:n<=sizeLine) (hdf:d.params.defaults=[]) (hr:bR k callerA)
  (hY:∀ (w:World) (h:Heap),YP w h->(K w.params).In h)
  (hK:∀ w:World,uX (K w.params)=true)
  (F:∀ (w:World) (mg:Str->Option Value) (fa:Addr) (h:Heap),(K w.params).In h->h.Ns mainGlobals mg->mg d.name=some (.ref fa) ->
   ∃ fd:FuncData,(∀ (s:Shared) (u:Value),BindsTo s fd ⟨[u],[]⟩ [(x,u)]) ∧
    ∀ base:Heap,(K w.params).In base->base.Ns mainGlobals mg->bj l.prog w (K w.params) mg base (cD l.prog w) k fa fd [x] (fE 1 sem))
  (MG:∀ ns:List Int,ns.length<=n->(∀ i∈ns,RD i<=1048576)->sem [.iw (ns.map PV.int)]=M.ok (.bl true)) :
  PySem.W.WalkO q loose XP YP l.row.toRowW d [] (λf vs=>PySem.call f vs):=by
 intro w s₀ s₁ mg mb G Y fa o pm cd doc dV kV ho hd KC hD hmg hg args vals as vL hlay hrd hwl hlo;obtain rfl:dV=.none:=PySem.W.Dflts.none hD hdf;obtain rfl:kV=.none:=PySem.W.Dflts.noKw hD;obtain⟨a,vs,ns,rfl,rfl,hobj,hints,hlen⟩:=Att.wj hn vL hwl;have MY:∀ i∈ns,RD i<=1048576:=λi hi=>by
  have h1:=PySem.W.layableW_arg hlay _ (N6.mpr rfl);have h2:=PySem.W.layableW_item h1 (.int i) (QY.mpr ⟨i,hi,rfl⟩);exact intBits_le_of_layable h2
 have KX:=hY w _ Y;obtain⟨fd,hb,hF⟩:=F w mg fa _ KX G.T.g hmg;have hs:=MG ns hlen MY;refine PySem.W.enter_call (QV (xM KX G.T.g G.T.b G.T.builtins G.T.nolimit hg hobj hints (NZ hlen Mr) hr hF hb (λH hO hS=>⟨rfl,H,[.iw (ns.map PV.int)],λ_ _ e=>e,?_,?_⟩) λH e s' z=>?_) λr s' hq=>?_)
 .rcases hS with (hS | ⟨ob,hS⟩) | ⟨ob,J4,m,e1,e2,_⟩
  .rcases hO a with z | ⟨ob,xs,z⟩
   .rw[z] at hS;cases hS
   .rw[z] at hS;cases hS
  .exact .cons (.iw hS (oY ns)) .nil
  .exact absurd e2 (yv (hK w) e1)
 .rw[hs];intro v J3 H' g r;cases r;rfl
 .obtain⟨ea,T,C,dd,Hc,_,_,_,_,_,_,_,_,z⟩:=z;exact z
 .obtain⟨rfl,h2,h3,h4⟩:=hq;exact⟨.inl ⟨.bool true,.bool true,[],rfl,λ_=>rfl,.bool true,Att.vx l _,λ_=>⟨List.Pairwise.nil,λ_ hm=>(nomatch hm)⟩⟩,h2,h3,h4⟩
abbrev oS(x q:Str)(t:Stmt)(s:Value)(c:Addr):FuncData:=OE x q (fW t) (de t) (aC t) .none .none .none s none (.ref c) .none
variable{t:Stmt}
theorem bK.of{K:Nr}{x q:Str}{dv kV doc pm:Value}{an:Option Addr}{J8 ct:Value}{f:Addr}(h1:K.lookup f=some ⟨.type "function", none,.func (OE x q (fW t) (de t) (aC t) dv kV doc pm an J8 ct),⟨[]⟩⟩)(h2:O9 K J8 q=true)(h3:Oi K (.ref f)=true):bK K x q t dv f (OE x q (fW t) (de t) (aC t) dv kV doc pm an J8 ct):=⟨⟨_,_,_,_,_,_,_,_,_,rfl,h1,h2⟩,h3⟩
section
variable{P:List α->Prop}
theorem Fo(h:∀ a,P [a]):∀ us,us.length=1->P us:=λus hl=>by obtain⟨a,rfl⟩:=Jx hl;exact h a
theorem G0(h:∀ a b,P [a,b]):∀ us,us.length=2->P us:=λus hl=>by obtain⟨a,b,rfl⟩:=ln2 hl;exact h a b
theorem JN(h:∀ a b c d,P [a,b,c,d]):∀ us,us.length=4->P us:=λus hl=>by obtain⟨a,b,c,d,rfl⟩:=JT hl;exact h a b c d
end
theorem bx.of{N P:List Str}{sc:Scope}(h1:autoParam (sc.kind=.function) aR._auto_1)(h2:autoParam (sc.isCoroutine=false) aR._auto_1)(h3:autoParam (sc.isGenerator=false) aR._auto_1)(h4:autoParam (N.Nodup) aN._auto_1)(h5:autoParam (N.take P.length=P) aR._auto_1)(h6:autoParam (∀ x∈P,sc.names.lookup x=some .local\/sc.names.lookup x=some .cell) aN._auto_1)(h7:autoParam (∀ y∈sc.names,y.2≠.free) aN._auto_1):bx N P sc:=⟨h1,h2,h3,h4,h5,h6,h7⟩
theorem aS{x:Str}(hN:X.N.Nodup)(hi:autoParam (X.N[i]?=some x) aR._auto_1)(hx:autoParam (Loc X.env.scope x) aG._auto_1)(hf:autoParam (X.fn x=true\/X.env.scope.names.lookup x=some .local) aG._auto_1):PG X (.Name x pos) (aL i):=AJ hN hi hx hf
def AU:Nat->(List Value->Prop)->Prop
 | 0,P=>P []
 | n+1,P=>∀ a,AU n λl=>P (a::l)
theorem p8:∀ {n:Nat} {P:List Value->Prop},AU n P->∀ us:List Value,us.length=n->P us
 | 0,_,h,[],_=>h
 | n+1,_,h,a::r,e=>p8 (h a) r (Su e)
section
variable{K:Nr}{h:Heap}{x q:Str}{m:Nat}{tO:List PV->M (List PV)}
theorem j5(P:Program)(w:World)(base:Heap)(X:K.In h)(G:h.Ns mainGlobals mg)(a c:Addr)(s:Value)(ok:bK K x q t .none a (oS x q t s c)->bj P w K mg base (cD P w) n a (oS x q t s c) ps (fE m (bX m sem)))
  (h1:autoParam (K.lookup a=some ⟨.type "function", none,.func (oS x q t s c),⟨[]⟩⟩) aK._auto_1) (h2:autoParam (O9 K (.ref c) q=true) aK._auto_1) (h3:autoParam (Oi K (.ref a)=true) aK._auto_1) (h4:autoParam (Sq K mainGlobals x=some (some (.ref a))) aK._auto_1)
  (h5:autoParam (ps.length=m) aR._auto_1) (h6:AU ps.length λus=>bindArgs (oS x q t s c) ⟨us,[]⟩=pure (ps.zip us):=by (repeat intro _);rfl):gZ P w K mg base n x m sem :=
 ⟨⟨a,_,ps,UT X G h4,h3,h5,.all (p8 h6),ok (.of h1 h2 h3)⟩⟩
theorem Jr(P:Program)(w:World)(base:Heap)(cc:j4 K C)(a c:Addr)(s:Value)(ok:bK K x q t .none a (oS x q t s c)->bj P w K mg base (cD P w) n a (oS x q t s c) ps (fE m (bX m sem)))
  (h1:autoParam (K.lookup a=some ⟨.type "function", none,.func (oS x q t s c),⟨[]⟩⟩) aK._auto_1) (h2:autoParam (O9 K (.ref c) q=true) aK._auto_1) (h3:autoParam (Oi K (.ref a)=true) aK._auto_1) (h4:autoParam (N1 K (.ref C) x=some (some (.ref a))) aK._auto_1) (h5:autoParam (P1 K (.ref a)=true) aK._auto_1)
  (h6:AU ps.length λus=>bindArgs (oS x q t s c) ⟨us,[]⟩=pure (ps.zip us):=by (repeat intro _);rfl):ym P w K mg base C n x m sem :=
 ⟨⟨a,_,ps,cc,⟨h4,h5,h3⟩,.all (p8 h6),ok (.of h1 h2 h3)⟩⟩
end
theorem bK.ju{K:Nr}{x qual:Str}{st:Stmt}{dv:Value}{f:Addr}{g:ae->M Out}(F:bK K x qual st dv f fd)(N:List Str)
  (hb:N.Nodup->∀ (J8:Value) (A:Around) (outer:List Env) (s:Shared) (H:Hp) (E:XK),bR k (A.deeper (envOfC qual (aC st) s.heap.objs.size f J8))->d_ ((jh (cD P w) P w K mg base N qual (aC st) f J8 A outer s H E).out λ_=>E) (λ_=>E)->iG ((jh (cD P w) P w K mg base N qual (aC st) f J8 A outer s H E).out λ_=>E) (de st) (tS E g))
  (S:bx N ps (aC st):=by exact .of):bj P w K mg base (cD P w) (k+1) f fd ps (fE ps.length (bX ps.length (ba N.length g))):=F.JR S (hb S.nd)
end L2
namespace sy
open PySem L2 PyProof.Rows
def aQ:Addr:=339
def aY:Addr:=65
def bh:Addr:=181
def bP:Addr:=91
def bL:Addr:=117
def aM:Addr:=136
def bf:Addr:=155
def aP:Addr:=268
def jN:Addr:=38
def kI:List Addr:=[aY]
def ke:List Addr:=[bh,bP,bL,aM,bf]
def kl:List Addr:=[bh]
def kd:List Addr:=[aY,bP,bL,aM,bf]
def fZ:List Addr:=[aY,bh,bP,bL,aM,bf]
def f_:List Addr:=[]
def iV:List Addr:=[aY]
def iY:List Addr:=[bh,bP,bL,aM,bf]
def iQ:List Addr:=[]
def iP:List Addr:=[]
def iT:List Addr:=[bh]
def i0:List Addr:=[aY,bP,bL,aM,bf]
def iR:List Addr:=[]
def iO:List Addr:=[]
def eS:List Addr:=[aM]
def eY:List Addr:=[aY,bh,bP,bL,bf]
def e7:List Addr:=[]
def e_:List Addr:=[]
def g9:List Addr:=[bf]
def gK:List Addr:=[aY,bh,bP,bL,aM]
def hR:List Addr:=[]
def gW:List Addr:=[]
def Jp:List Addr:=[aY,bh,bP,bL,aM,bf]
def qc:List Addr:=[aY,bh]
def j2:List (Addr×Str):=[(aY, "no dial"),(bh, "no gear"),(bP, "no lever"),(bL, "no price"),(aM, "no setting"),(bf, "too many")]
abbrev cI(i:Int):ae->M PV:=λ_=>M.ok (.int i)
def gI:ae->M Out :=
 (aw (retS (Bu (qA (λa=>nJ a "int") ub ub (ah 0)) (BH (qA (λa=>nJ a "bool") ub ub (ah 0)))))
 ay)
def cW:List PV->M PV:=bX 1 (ba 1 gI)
def dY:ae->M Out :=
 (aw (kF (Ez (lj (eO (qA (λa=>["list", "tuple"].any λt=>nJ a t) ub ub (ah 0)))) (eO (ai pG (aj dz (aa (ah 0) ao)) (ah 1)))) (aw (retS (λ_=>M.ok (.bl false)))
 ay) ay)
 (aw (retS (aj qx (aa (cM (dn (itemsOf (ah 0)) (e6 0) none (aj cW (aa (ah 0) ao)) 1 [])) ao)))
 ay))
def bB:List PV->M PV:=bX 2 (ba 2 dY)
def jD:ae->M Out :=
 (aw (cq 2 (cR (aa (ah 0) (aa (cI 1) (aa (cI 0) ao)))))
 (aw (cq 3 (cR (aa (ah 1) (aa (cI 0) (aa (cI 1) ao)))))
 (aw (jw (eO (ai pG (ai bo (ah 3) (cI 0)) (cI 0))) (aw (cq 4 (ai cN (ai bo (ah 2) (cI 0)) (ai bo (ah 3) (cI 0))))
 (aw (cq 5 (cR (aa (ai k_ (ai bo (ah 2) (cI 0)) (ai bH (ah 4) (ai bo (ah 3) (cI 0)))) (aa (ai k_ (ai bo (ah 2) (cI 1)) (ai bH (ah 4) (ai bo (ah 3) (cI 1)))) (aa (ai k_ (ai bo (ah 2) (cI 2)) (ai bH (ah 4) (ai bo (ah 3) (cI 2)))) ao)))))
 (aw (cq 2 (ah 3))
 (aw (cq 3 (ah 5))
 ay)))))
 (aw (kF (eO (ai B1 (ai bo (ah 2) (cI 0)) (cI 0))) (aw (retS (cR (aa (kD (ai bo (ah 2) (cI 0))) (aa (kD (ai bo (ah 2) (cI 1))) (aa (kD (ai bo (ah 2) (cI 2))) ao)))))
 ay) ay)
 (aw (retS (ah 2))
 ay)))))
def iC:List PV->M PV:=bX 2 (ba 6 jD)
def eG:ae->M Out :=
 (aw (cq 1 (cI 1))
 (aw (jy (itemsOf (ah 0)) (e6 2) (aw (cq 1 (ai bH (ai cN (ah 1) (ai bo (aj iC (aa (ah 1) (aa (ah 2) ao))) (cI 0))) (ah 2)))
 ay))
 (aw (retS (ah 1))
 ay)))
def eE:List PV->M PV:=bX 1 (ba 3 eG)
def jR:ae->M Out :=
 (aw (retS (cM (dn (itemsOf (ah 0)) (e6 0) none (ai bo (ah 0) (ah 1)) 1 [1])))
 ay)
def ik:List PV->M PV:=bX 2 (ba 2 jR)
def gX:ae->M Out :=
 (aw (retS (ai bT (aj s_ (aa (cM (dn (lJ zip2 (aa (ah 0) (aa (ah 1) ao))) (bM 0 1) none (ai bH (ah 0) (ah 1)) 2 [])) ao)) (ah 2)))
 ay)
def fw:List PV->M PV:=bX 3 (ba 3 gX)
def fM:ae->M Out :=
 (aw (retS (aj cG (aa (cM (dn (lJ uv (aa (ah 2) ao)) (bM 0 1) none (aj fw (aa (ah 2) (aa (aj ik (aa (ah 3) (aa (ah 0) ao))) (aa (ah 1) ao)))) 2 [0,1])) ao)))
 ay)
def fU:List PV->M PV:=bX 3 (ba 3 fM)
def eJ:ae->M Out :=
 (aw (retS (Bu (aj cW (aa (ah 0) ao)) (jr AB AB (ah 1) (ah 0) (ah 2))))
 ay)
def eL:List PV->M PV:=bX 3 (ba 3 eJ)
def cF:ae->M Out :=
 (aw (kF (eO (ai Bn (aj dz (aa (ah 0) ao)) (cI 6))) (aw (iE bf (aa (λ_=>M.ok (.str "a vault has at most six dials")) ao))
 ay) ay)
 (aw (kF (eO (ai rg (aj dz (aa (ah 0) ao)) (cI 0))) (aw (cV aY "dial" (aa (cI 0) ao))
 ay) ay)
 (aw (jy (lJ uv (aa (ah 0) ao)) (bM 1 2) (aw (kF (lj (eO (aj eL (aa (ah 2) (aa (cI 2) (aa (cI 360) ao)))))) (aw (cV aY "dial" (aa (ah 1) ao))
 ay) ay)
 ay))
 ay)))
def aV:List PV->M PV:=bX 1 (ba 3 cF)
def eD:ae->M Out :=
 (aw (kF (eO (ai Bn (aj dz (aa (ah 0) ao)) (cI 8))) (aw (iE bf (aa (λ_=>M.ok (.str "a vault has at most eight levers")) ao))
 ay) ay)
 (aw (jy (lJ uv (aa (ah 0) ao)) (bM 2 3) (aw (kF (lj (eO (aj bB (aa (ah 3) (aa (ah 1) ao))))) (aw (cV bP "lever" (aa (ah 2) ao))
 ay) ay)
 ay))
 ay))
def el:List PV->M PV:=bX 2 (ba 4 eD)
def e9:ae->M Out :=
 (aw (kF (eO (ai zq (ah 1) (λ_=>M.ok .bz))) (aw (retS (ai bH (cR (aa (cI 1) ao)) (aj dz (aa (ah 0) ao))))
 ay) ay)
 (aw (jy (lJ sP (aa (aj (rV λi j=>if j>i then j else i) (aa (aj dz (aa (ah 0) ao)) (aa (aj dz (aa (ah 1) ao)) ao))) ao)) (e6 2) (aw (kF (Ez (eO (ai Cu (ah 2) (aj dz (aa (ah 0) ao)))) (eO (ai Cu (ah 2) (aj dz (aa (ah 1) ao))))) (aw (cV bL "lever" (aa (ah 2) ao))
 ay) ay)
 (aw (kF (lj (eO (aj eL (aa (ai bo (ah 1) (ah 2)) (aa (cI 1) (aa (cI 1000) ao)))))) (aw (cV bL "lever" (aa (ah 2) ao))
 ay) ay)
 ay)))
 (aw (retS (aj cG (aa (ah 1) ao)))
 ay)))
def eU:List PV->M PV:=bX 2 (ba 3 e9)
def lH:ae->M Out :=
 (aw (retS (aj cG (aa (cM (dn (lJ zip2 (aa (ah 0) (aa (ah 1) ao))) (bM 0 1) none (ai bT (ah 0) (ah 1)) 2 [])) ao)))
 ay)
def jP:List PV->M PV:=bX 2 (ba 2 lH)
def cw:ae->M Out :=
 (aw (kF (lj (eO (aj bB (aa (ah 0) (aa (aj dz (aa (ah 2) ao)) ao))))) (aw (retS (λ_=>M.ok (.bl false)))
 ay) ay)
 (aw (retS (aj qx (aa (cM (dn (lJ zip2 (aa (ah 0) (aa (ah 2) ao))) (bM 0 1) none (ai rg (ai bT (ai bH (ah 2) (ah 0)) (ah 1)) (cI 0)) 2 [1])) ao)))
 ay))
def aO:List PV->M PV:=bX 3 (ba 3 cw)
def dZ:ae->M Out :=
 (aw (jy (lJ sP (aa (aj (rV λi j=>if j>i then j else i) (aa (aj dz (aa (ah 0) ao)) (aa (aj dz (aa (ah 2) ao)) ao))) ao)) (e6 3) (aw (kF (Ez (eO (ai Cu (ah 3) (aj dz (aa (ah 0) ao)))) (Ez (eO (ai Cu (ah 3) (aj dz (aa (ah 2) ao)))) (lj (eO (aj aO (aa (ai bo (ah 2) (ah 3)) (aa (ai bo (ah 0) (ah 3)) (aa (ah 1) ao)))))))) (aw (cV bh "dial" (aa (ah 3) ao))
 ay) ay)
 ay))
 ay)
def a_:List PV->M PV:=bX 3 (ba 4 dZ)
def fN:ae->M Out :=
 (aw (kF (eO (ai B1 (ah 1) (aj dz (aa (ah 0) ao)))) (aw (retS (ai bo (ah 0) (ah 1)))
 ay) ay)
 (aw (retS (ai bT (ai bH (ai bG (ah 1) (cI 2)) (cI 104729)) (cI 65537)))
 ay))
def cC:List PV->M PV:=bX 2 (ba 2 fN)
def eh:ae->M Out :=
 (aw (cq 2 (ai bT (ai bG (ai bG (ai bH (ai bT (ah 0) (cI 2147483647)) (cI 48271)) (ai bH (cI 7919) (ah 1))) (cI 13)) (cI 2147483629)))
 (aw (cq 2 (ai bT (ai bG (ai bG (ai bH (ah 2) (ah 2)) (ai bH (cI 104729) (ah 1))) (cI 7)) (cI 2147483587)))
 (aw (retS (ai bT (ai bH (ah 2) (ah 2)) (cI 2147483579)))
 ay)))
def ck:List PV->M PV:=bX 2 (ba 3 eh)
def dm:ae->M Out :=
 (aw (k9 2 (fJ ao))
 (aw (jy (itemsOf (ah 1)) (e6 3) (aw (k8 2 (ai bT (ah 0) (ah 3)))
 (aw (cq 0 (ai cN (ah 0) (ah 3)))
 ay)))
 (aw (ly [2] (retS (aj cG (aa (ah 2) ao))))
 ay)))
def cP:List PV->M PV:=bX 2 (ba 4 dm)
def fH:ae->M Out :=
 (aw (kF (eO (ai rg (ai bT (ah 0) (cI 3)) (cI 0))) (aw (retS (ai bG (cI 2) (ai bT (ai cN (ah 0) (cI 3)) (cI 359))))
 ay) ay)
 (aw (retS (ai bH (ai bo (λ_=>M.ok (.lst (([2,3,4,6,8,9,12]:List Int).map PV.int))) (ai bT (ai cN (ah 0) (cI 3)) (cI 7))) (ai bo (λ_=>M.ok (.lst (([1,2,5,10,30]:List Int).map PV.int))) (ai bT (ai cN (ah 0) (cI 21)) (cI 5)))))
 ay))
def dE:List PV->M PV:=bX 1 (ba 1 fH)
def fe:ae->M Out :=
 (aw (kF (eO (ai rg (ai bT (ah 0) (cI 2)) (cI 0))) (aw (retS (cM (dn (itemsOf (aj cP (aa (ai cN (ah 0) (cI 12)) (aa (ai bH (cO (aa (cI 359) ao)) (ai bG (cI 1) (ai bT (ai cN (ah 0) (cI 2)) (cI 6)))) ao)))) (e6 0) none (ai bG (cI 2) (ah 0)) 1 [])))
 ay) ay)
 (aw (cq 1 (ai bo (λ_=>M.ok (.lst (([1,2,3,4,2,3,5,6]:List Int).map PV.int))) (ai bT (ai cN (ah 0) (cI 2)) (cI 8))))
 (aw (retS (cM (dn (lJ sP (aa (ah 1) ao)) (e6 0) none (aj dE (aa (aj ck (aa (ai cN (ah 1) (cI 16)) (aa (ah 0) ao))) ao)) 1 [0])))
 ay)))
def dS:List PV->M PV:=bX 1 (ba 2 fe)
def dJ:ae->M Out :=
 (aw (jw (eO (ai Bn (ah 1) (cI 0))) (aw (Dg 0 1 (aa (ah 1) (aa (ai bT (ah 0) (ah 1)) ao)))
 ay))
 (aw (retS (ah 0))
 ay))
def dI:List PV->M PV:=bX 2 (ba 2 dJ)
def eW:ae->M Out :=
 (aw (k9 3 (fJ ao))
 (aw (jy (lJ uv (aa (ah 1) ao)) (bM 4 5) (aw (k9 6 (fJ ao))
 (aw (jy (lJ uv (aa (ah 2) ao)) (bM 7 8) (aw (cq 9 (aj ck (aa (ah 0) (aa (ai bG (ai bH (cI 10) (ah 4)) (ah 7)) ao))))
 (aw (cq 10 (ai bH (ai bH (ai cN (ah 8) (aj dI (aa (ah 5) (aa (ah 8) ao)))) (ai bT (ai cN (ah 9) (cI 4)) (cI 12))) (aj uJ (aa (ai Bn (ai bT (ah 9) (cI 4)) (cI 0)) ao))))
 (aw (k8 6 (ai bG (ah 10) (ai bH (ai bH (ah 8) (ai k_ (ai bT (ai cN (ah 9) (cI 48)) (cI 3)) (cI 1))) (ai bT (ah 0) (ai vJ (cI 10) (cI 17))))))
 ay))))
 (aw (ly [6] (k8 3 (ah 6)))
 ay))))
 (aw (ly [3] (retS (ah 3)))
 ay)))
def dO:List PV->M PV:=bX 3 (ba 11 eW)
def gN:ae->M Out :=
 (aw (k9 3 (fJ ao))
 (aw (jy (lJ uv (aa (ah 1) ao)) (bM 4 5) (aw (k8 3 (ai bT (aj s_ (aa (cM (dn (lJ zip2 (aa (ah 2) (aa (ah 0) ao))) (bM 0 1) none (ai bH (ah 0) (ai bo (ah 1) (ah 2))) 2 [4])) ao)) (ah 5)))
 ay))
 (aw (ly [3] (retS (aj cG (aa (ah 3) ao))))
 ay)))
def gS:List PV->M PV:=bX 3 (ba 6 gN)
def dR:ae->M Out :=
 (aw (cq 4 (ai bT (ai cN (ah 0) (cI 7)) (aj dz (aa (ah 1) ao))))
 (aw (cq 5 (ai bT (ai cN (ah 0) (cI 42)) (aj dz (aa (ah 2) ao))))
 (aw (cq 6 (ai bo (ah 3) (ah 4)))
 (aw (k9 7 (fJ (aa (ai bG (ah 6) (cO (aa (cI 0) ao))) (aa (cK (ah 6) ix (cz (kD (cI 1)))) (aa (λ_=>M.ok .bz) (aa (λ_=>M.ok .emp) (aa (ai bH (cO (aa (λ_=>M.ok (.bl true)) ao)) (aj dz (aa (ah 2) ao))) (aa (λ_=>M.ok (.str "teeth")) ao))))))))
 (aw (k8 7 (ai bG (ai bG (cK (ah 6) ix (cz (ah 5))) (cO (aa (λ_=>M.ok .bz) ao))) (cK (ah 6) (cz (ai bG (ah 5) (cI 1))) ix)))
 (aw (ly [7] (cq 8 (ai bG (ai bG (cK (ah 3) ix (cz (ah 4))) (cO (aa (ai bo (ah 7) (ai bT (ah 0) (cI 7))) ao))) (ai bo (cO (aa (cK (ah 3) (cz (ai bG (ah 4) (cI 1))) ix) (aa (ai bH (cO (aa (λ_=>M.ok (.str "teeth")) ao)) (aj dz (aa (ah 1) ao))) ao))) (ai bT (ai cN (ah 0) (cI 756)) (cI 2))))))
 (aw (kF (eO (ai rg (ai bT (ai cN (ah 0) (cI 252)) (cI 3)) (cI 0))) (aw (retS (cR (aa (ah 4) (aa (ah 8) ao))))
 ay) ay)
 (aw (kF (eO (ai rg (ai bT (ai cN (ah 0) (cI 252)) (cI 3)) (cI 1))) (aw (retS (cR (aa (ah 4) (aa (cK (ah 3) ix (cz (ah 4))) ao))))
 ay) ay)
 (aw (retS (cR (aa (aj dz (aa (ah 1) ao)) (aa (ai bG (ah 3) (cO (aa (ah 6) ao))) ao))))
 ay)))))))))
def dX:List PV->M PV:=bX 4 (ba 9 dR)
def dg:ae->M Out :=
 (aw (jy (lJ uv (aa (ah 1) ao)) (bM 4 5) (aw (jy (lJ uv (aa (ah 2) ao)) (bM 6 7) (aw (kF (Ds (eO (ai Bn (ai bT (ah 5) (ah 7)) (cI 0))) (eO (ai rg (ai bT (ai bG (ai bG (ah 0) (ah 4)) (ah 6)) (cI 2)) (cI 0)))) (aw (k9 8 (o3 (ai bo (ah 3) (ah 4))))
 (aw (IM 8 (ah 6) (yS 8 (ai bG (ai bo (ah 8) (ah 6)) (cI 1))))
 (aw (cq 9 (ai bo (cO (aa (cK (ah 3) (cz (ai bG (ah 4) (cI 1))) ix) (aa (ai bH (cO (aa (λ_=>M.ok .bz) ao)) (aj dz (aa (cK (ah 3) (cz (ai bG (ah 4) (cI 1))) ix) ao))) ao))) (ai bT (ah 0) (cI 2))))
 (aw (ly [8] (retS (cR (aa (ah 4) (aa (ai bG (ai bG (cK (ah 3) ix (cz (ah 4))) (cO (aa (ah 8) ao))) (ah 9)) ao)))))
 ay)))) ay)
 ay))
 ay))
 (aw (retS (cR (aa (cI 0) (aa (cO ao) ao))))
 ay))
def cx:List PV->M PV:=bX 4 (ba 10 dg)
def e8:ae->M Out :=
 (aw (jA (aj aV (aa (ah 1) ao)))
 (aw (jA (aj el (aa (ah 2) (aa (aj dz (aa (ah 1) ao)) ao))))
 (aw (f9 0 aP "dial_sizes" (aj cG (aa (ah 1) ao)))
 (aw (f9 0 aP "lever_settings" (aj cG (aa (cM (dn (itemsOf (ah 2)) (e6 0) none (aj jP (aa (ah 0) (aa (ah 1) ao))) 1 [1])) ao)))
 (aw (f9 0 aP "lever_prices" (aj eU (aa (ah 2) (aa (ah 3) ao))))
 (aw (f9 0 aP "least_round" (aj eE (aa (ah 1) ao)))
 ay))))))
def cu:Addr->List PV->M (List (Str×PV)):=ku 4 (nM 4 e8 aP)
def dj:ae->M Out :=
 (aw (retS (rX (λc=>c==aP) "dial_sizes" (ah 0)))
 ay)
def cn:List PV->M PV:=bX 1 (ba 1 dj)
def dC:ae->M Out :=
 (aw (f9 0 aQ "front_dials" (aj (bZ aP cu [.bz]) (aa (ah 1) (aa (cO ao) ao))))
 (aw (f9 0 aQ "rear_dials" (aj (bZ aP cu [.bz]) (aa (ah 2) (aa (cO ao) ao))))
 (aw (jA (aj a_ (aa (ah 1) (aa (ah 2) (aa (ah 3) ao)))))
 (aw (f9 0 aQ "tooth_rows" (aj cG (aa (cM (dn (itemsOf (ah 3)) (e6 0) none (aj cG (aa (ah 0) ao)) 1 [])) ao)))
 ay))))
def bW:Addr->List PV->M (List (Str×PV)):=ku 4 (nM 4 dC aQ)
def da:ae->M Out :=
 (aw (cq 2 (dF aP "sizes" cn (ah 0) ao))
 (aw (kF (Ez (lj (eO (qA (λa=>nJ a "tuple") ub ub (ah 1)))) (lj (eO (aj bB (aa (ah 1) (aa (aj dz (aa (ah 2) ao)) ao)))))) (aw (retS (λ_=>M.ok (.bl false)))
 ay) ay)
 (aw (retS (aj qx (aa (cM (dn (lJ zip2 (aa (ah 1) (aa (ah 2) ao))) (bM 0 1) none (jr AB B1 (cI 0) (ah 0) (ah 1)) 2 [])) ao)))
 ay)))
def bN:List PV->M PV:=bX 2 (ba 3 da)
def cY:ae->M Out :=
 (aw (kF (lj (eO (aj bN (aa (ah 0) (aa (ah 1) ao))))) (aw (iE aM (aa (λ_=>M.ok (.str "this is no setting of the vault")) ao))
 ay) ay)
 ay)
def bO:List PV->M PV:=bX 2 (ba 2 cY)
def ed:ae->M Out :=
 (aw (jA (aj bO (aa (rX (λc=>c==aQ) "front_dials" (ah 0)) (aa (ah 1) ao))))
 (aw (retS (aj fU (aa (ah 1) (aa (rX (λc=>c==aQ) "tooth_rows" (ah 0)) (aa (dF aP "sizes" cn (rX (λc=>c==aQ) "rear_dials" (ah 0)) ao) ao)))))
 ay))
def bA:List PV->M PV:=bX 2 (ba 2 ed)
def cX:ae->M Out :=
 (aw (cq 4 (cR (aa (λ_=>M.ok (.str "led")) (aa (λ_=>M.ok .bz) (aa (cO ao) ao)))))
 (aw (sW (jA (dF aQ "led" bA (aj (bZ aQ bW []) (aa (ah 0) (aa (ah 1) (aa (ah 2) ao)))) (aa (ah 3) ao))) [(ka kl kd,some 5,(aw (cq 4 (cR (aa (λ_=>M.ok (.str "gear")) (aa (Hb qc "dial" (ah 5)) (aa (cO (aa (qA (λ_=>false) (ka iQ iP) (ka iV iY) (ah 5)) (aa (qA (λ_=>false) (ka e7 e_) (ka eS eY) (ah 5)) (aa (qA (λ_=>false) (ka hR gW) (ka g9 gK) (ah 5)) ao)))) ao)))))
 ay)),(ka kI ke,some 5,(aw (cq 4 (cR (aa (λ_=>M.ok (.str "dial")) (aa (Hb qc "dial" (ah 5)) (aa (cO (aa (qA (λ_=>false) (ka iR iO) (ka iT i0) (ah 5)) (aa (qA (λ_=>false) (ka e7 e_) (ka eS eY) (ah 5)) (aa (qA (λ_=>false) (ka hR gW) (ka g9 gK) (ah 5)) ao)))) ao)))))
 ay)),(ka fZ f_,some 5,(aw (cq 4 (cR (aa (Cq j2 "word" (ah 5)) (aa (λ_=>M.ok .bz) (aa (cO (aa (qA (λ_=>false) (ka iR iO) (ka iT i0) (ah 5)) (aa (qA (λ_=>false) (ka iQ iP) (ka iV iY) (ah 5)) (aa (BH (FL Jp (ah 5))) ao)))) ao)))))
 ay))])
 (aw (retS (ah 4))
 ay)))
def bF:List PV->M PV:=bX 4 (ba 6 cX)
def dU:ae->M Out :=
 (aw (Bj (bM 4 5) (aj dX (aa (ah 0) (aa (ah 1) (aa (ah 2) (aa (ah 3) ao))))))
 (aw (Bj (bM 6 7) (aj cx (aa (ah 0) (aa (ah 1) (aa (ah 2) (aa (ah 3) ao))))))
 (aw (k9 8 (fJ (aa (cR (aa (ai bH (cO (aa (cI 2) ao)) (cI 7)) (aa (cO ao) (aa (ah 5) (aa (cR (aa (λ_=>M.ok (.str "too many")) (aa (λ_=>M.ok .bz) ao))) ao))))) (aa (cR (aa (cO ao) (aa (ai bH (cO (aa (cI 2) ao)) (cI 7)) (aa (ah 5) (aa (cR (aa (λ_=>M.ok (.str "dial")) (aa (cI 0) ao))) ao))))) ao))))
 (aw (ly [8] (k9 8 (Ag (ah 8) (cO (aa (cR (aa (ai bG (cK (ah 1) ix (cz (kD (cI 1)))) (cO (aa (ai bG (cI 361) (ai bT (ah 0) (ai vJ (cI 10) (cI 9)))) ao))) (aa (cO ao) (aa (ah 5) (aa (cR (aa (λ_=>M.ok (.str "dial")) (aa (ai k_ (aj dz (aa (ah 1) ao)) (cI 1)) ao))) ao))))) ao)))))
 (aw (k8 8 (cR (aa (ah 1) (aa (ai bH (cO (aa (cI 2) ao)) (cI 7)) (aa (ah 5) (aa (cR (aa (λ_=>M.ok (.str "too many")) (aa (λ_=>M.ok .bz) ao))) ao))))))
 (aw (k8 8 (cR (aa (ah 1) (aa (ai bG (cK (ah 2) ix (cz (kD (cI 1)))) (cO (aa (cI 1) ao))) (aa (ah 5) (aa (cR (aa (λ_=>M.ok (.str "dial")) (aa (ai k_ (aj dz (aa (ah 2) ao)) (cI 1)) ao))) ao))))))
 (aw (ly [8] (k9 8 (Ag (ah 8) (cO (aa (cR (aa (ah 1) (aa (ah 2) (aa (ah 5) (aa (cR (aa (λ_=>M.ok (.str "gear")) (aa (ah 4) ao))) ao))))) (aa (cR (aa (ah 1) (aa (ah 2) (aa (ah 7) (aa (cR (aa (λ_=>M.ok (.str "gear")) (aa (ah 6) ao))) ao))))) ao))))))
 (aw (ly [8] (jy (itemsOf (ah 8)) (zV [9,10,11,12]) (aw (kF (eO (ai Fm (aj bF (aa (ah 9) (aa (ah 10) (aa (ah 11) (aa (λ_=>M.ok .bz) ao))))) (ai bG (ah 12) (cR (aa (cO (aa (λ_=>M.ok (.bl false)) (aa (λ_=>M.ok (.bl false)) (aa (λ_=>M.ok (.bl false)) ao)))) ao))))) (aw (retS (λ_=>M.ok (.bl false)))
 ay) ay)
 ay)))
 (aw (cq 13 (ai bo (cO (aa (ai bH (cR (aa (cI 0) ao)) (ai bG (aj dz (aa (ah 1) ao)) (cI 1))) (aa (aj cG (aa (ah 1) ao)) (aa (ai bH (cO (aa (cI 0) ao)) (aj dz (aa (ah 1) ao))) (aa (λ_=>M.ok .bz) ao))))) (ai bT (ah 0) (cI 4))))
 (aw (retS (ai Co (aj bF (aa (ah 1) (aa (ah 2) (aa (ah 3) (aa (ah 13) ao))))) (cR (aa (λ_=>M.ok (.str "no setting")) (aa (λ_=>M.ok .bz) (aa (cO (aa (λ_=>M.ok (.bl false)) (aa (λ_=>M.ok (.bl false)) (aa (λ_=>M.ok (.bl false)) ao)))) ao))))))
 ay))))))))))
def dH:List PV->M PV:=bX 4 (ba 14 dU)
def zO:ae->M Out :=
 (aw (cq 1 (aj dS (aa (aj cC (aa (ah 0) (aa (cI 0) ao))) ao)))
 (aw (cq 2 (aj dS (aa (aj cC (aa (ah 0) (aa (cI 1) ao))) ao)))
 (aw (cq 3 (aj dO (aa (aj cC (aa (ah 0) (aa (cI 2) ao))) (aa (ah 1) (aa (ah 2) ao)))))
 (xY 4 5 (itemsOf (ah 3)) (e6 0) (o3 (ah 0)) 1 [] (aj (bZ aQ bW []) (aa (ah 1) (aa (aj cG (aa (ah 2) ao)) (aa (ai bo (cO (aa (ah 4) (aa (aj cG (aa (ah 4) ao)) ao))) (ai bT (aj cC (aa (ah 0) (aa (cI 0) ao))) (cI 2))) ao)))) (eO (ai pG (ah 4) (ah 3))) (aw (retS (λ_=>M.ok (.bl false)))
 ay)
 (aw (cq 6 (ai bH (cR (aa (cI 0) ao)) (aj dz (aa (ah 1) ao))))
 (aw (jy (itemsOf (ai bG (cO (aa (cI 0) ao)) (cK (ah 0) (cz (cI 3)) (cz (cI 63))))) (e6 7) (aw (cq 8 (aj cP (aa (ai cN (ah 7) (cI 2)) (aa (ah 1) ao))))
 (aw (kF (eO (ai rg (ai bT (ah 7) (cI 2)) (cI 1))) (aw (cq 8 (aj cG (aa (cM (dn (lJ uv (aa (ah 1) ao)) (bM 0 1) none (ai bT (aj ck (aa (ah 2) (aa (ai bG (cI 30) (ah 0)) ao))) (ah 1)) 2 [7])) ao)))
 ay) ay)
 (aw (kF (eO (ai pG (dF aQ "led" bA (ah 5) (aa (ah 8) ao)) (aj gS (aa (ah 3) (aa (ah 2) (aa (ah 8) ao)))))) (aw (retS (λ_=>M.ok (.bl false)))
 ay) ay)
 (aw (cq 9 (aj cG (aa (cM (dn (lJ qE (aa (ah 6) (aa (ah 8) (aa (ah 1) ao)))) (mz 0 1 2) none (ai bT (ai bG (ah 0) (ah 1)) (ah 2)) 3 [])) ao)))
 (aw (cq 10 (cM (dn (lJ qE (aa (dF aQ "led" bA (ah 5) (aa (ah 6) ao)) (aa (dF aQ "led" bA (ah 5) (aa (ah 8) ao)) (aa (ah 2) ao)))) (mz 0 1 2) none (ai bT (ai bG (ah 0) (ah 1)) (ah 2)) 3 [])))
 (aw (kF (eO (ai pG (dF aQ "led" bA (ah 5) (aa (ah 9) ao)) (aj cG (aa (ah 10) ao)))) (aw (retS (λ_=>M.ok (.bl false)))
 ay) ay)
 (aw (cq 6 (ah 8))
 ay))))))))
 (aw (retS (aj dH (aa (aj cC (aa (ah 0) (aa (cI 2) ao))) (aa (ah 1) (aa (ah 2) (aa (ah 3) ao))))))
 ay)))))))
def o8:List PV->M PV:=bX 1 (ba 11 zO)
end sy
namespace sy
open PySem L2 PyProof.Rows
local macro_rules | `(tactic| walk_at "s")=>`(tactic| exact⟨rfl,rfl,rfl,by decide +kernel,rfl,by decide +kernel,by decide +kernel⟩)
local macro_rules | `(tactic| walk_at "l")=>`(tactic| first | exact .inl rfl | exact .inr rfl)
local macro_rules | `(tactic| walk_at "pp")=>`(tactic| all_goals repeat' (first | ((with_reducible show iG _ _ (tS _ (aw _ _)));refine yl ?_ ?_) | ((with_reducible show iG _ _ (tS _ ay));exact Bi) | ((with_reducible show PE _ _ (tE _ (ah _)));exact vr _) | ((with_reducible show PA _ _ (tL _ (aa _ _)));refine uI ?_ ?_ (Cn rfl)) | ((with_reducible show PA _ _ (tL _ ao));exact zw) | ((with_reducible show PE _ _ (tE _ (λ_=>M.ok (.int _))));first | exact yj | exact jF (FI (by rfl) (by assumption)) λ_=>.int _) | ((with_reducible show PE _ _ (tE _ (λ_=>M.ok (.bl _))));exact Gj) | ((with_reducible show PE _ _ (tE _ (λ_=>M.ok .bz)));exact EU) | ((with_reducible show PE _ _ (tE _ (λ_=>M.ok (.str _))));exact CW) | ((with_reducible show PE _ _ (tE _ (ai bG _ _)));refine kA Ap DZ ?_ ?_) | ((with_reducible show PE _ _ (tE _ (ai k_ _ _)));refine kA Ew CN ?_ ?_) | ((with_reducible show PE _ _ (tE _ (ai bH _ _)));refine kA Bx CU ?_ ?_) | ((with_reducible show PE _ _ (tE _ (ai cN _ _)));refine kA yX xm ?_ ?_) | ((with_reducible show PE _ _ (tE _ (ai bT _ _)));refine kA BN BK ?_ ?_) | ((with_reducible show PE _ _ (tE _ (ai vJ _ _)));refine kA ER BS ?_ ?_) | ((with_reducible show PE _ _ (tE _ (ai bo _ _)));refine Ee ?_ ?_ ?_) | ((with_reducible show qr _);exact λ_ _=>rfl) | ((with_reducible show PT _ _ (tT _ (eO (ai rg _ _))));refine gP (zJ (bR.units (by assumption))) CD ?_ ?_ (cQ _)) | ((with_reducible show PE _ _ (tE _ (ai rg _ _)));refine gQ (zJ (bR.units (by assumption))) CD ?_ ?_ (cQ _)) | ((with_reducible show PT _ _ (tT _ (eO (ai pG _ _))));refine gP (z6 (bR.units (by assumption))) B5 ?_ ?_ (cQ _)) | ((with_reducible show PE _ _ (tE _ (ai pG _ _)));refine gQ (z6 (bR.units (by assumption))) B5 ?_ ?_ (cQ _)) | ((with_reducible show PT _ _ (tT _ (eO (ai B1 _ _))));refine gP z7 sI ?_ ?_ (cQ _)) | ((with_reducible show PE _ _ (tE _ (ai B1 _ _)));refine gQ z7 sI ?_ ?_ (cQ _)) | ((with_reducible show PT _ _ (tT _ (eO (ai AB _ _))));refine gP qB lK ?_ ?_ (cQ _)) | ((with_reducible show PE _ _ (tE _ (ai AB _ _)));refine gQ qB lK ?_ ?_ (cQ _)) | ((with_reducible show PT _ _ (tT _ (eO (ai Bn _ _))));refine gP Cs ya ?_ ?_ (cQ _)) | ((with_reducible show PE _ _ (tE _ (ai Bn _ _)));refine gQ Cs ya ?_ ?_ (cQ _)) | ((with_reducible show PT _ _ (tT _ (eO (ai Cu _ _))));refine gP CG zW ?_ ?_ (cQ _)) | ((with_reducible show PE _ _ (tE _ (ai Cu _ _)));refine gQ CG zW ?_ ?_ (cQ _)) | ((with_reducible show PT _ _ (tT _ (eO (ai zq _ _))));refine gP yu zf ?_ ?_ (cQ _)) | ((with_reducible show PE _ _ (tE _ (ai zq _ _)));refine gQ yu zf ?_ ?_ (cQ _)) | ((with_reducible show PT _ _ (tT _ (lj _)));refine DR ?_) | ((with_reducible show PT _ _ (tT _ (eO (aj _ _))));refine qj ?_) | ((with_reducible show PT _ _ (tT _ (eO (qA _ _ _ _))));refine qj ?_) | ((with_reducible show PT _ _ (tT _ (eO (dF _ _ _ _ _))));refine qj ?_) | ((with_reducible show PT _ _ (tT _ (eO (ah _))));refine qj ?_) | ((with_reducible show PS _ _ (tS _ (retS _)));refine C1 ?_) | ((with_reducible show PS _ _ (tS _ (cq _ _)));refine DQ (by assumption) rfl (by walk_at "l") ?_) | ((with_reducible show PS _ _ (tS _ (kF _ _ _)));refine FP ?_ ?_ ?_) | ((with_reducible show PS _ _ (tS _ (k8 _ _)));refine vE rfl (by first | exact .inl rfl | exact .inr (.inl rfl)) ?_) | ((with_reducible show PS _ _ (tS _ (k9 _ _)));refine A6 (by assumption) rfl (by walk_at "l") ?_) | ((with_reducible show PE _ _ (tO _ (fJ _)));refine De ?_) | ((with_reducible show PS _ _ (tS _ (ly _ _)));refine CV _ ?_) | ((with_reducible show PS _ _ (tS _ (jA _)));refine Bp ?_) | ((with_reducible show PS _ _ (tS _ (iE _ _)));refine zp.raise (by assumption) (by assumption) rfl (by rfl) ?_) | ((with_reducible show PS _ _ (tS _ (cV _ _ _)));refine mK.raise (by assumption) (by assumption) (by lia) (by assumption) rfl (by rfl) ?_) | ((with_reducible show PE _ _ (tE _ (cR _)));refine DV ?_) | ((with_reducible show PE _ _ (tE _ (cO _)));refine zY ?_) | ((with_reducible show PE _ _ (tE _ (kD _)));refine EE ?_) | ((with_reducible show PE _ _ (tE _ (rX _ _ _)));refine D6 ?_ (by assumption) rfl) | ((with_reducible show PE _ _ (tE _ (aj dz _)));refine ir v_ ES (by rfl) (by assumption) PySem.boot_len ?_) | ((with_reducible show PE _ _ (tE _ (aj cG _)));refine oA n8 xc (by rfl) (by assumption) nq ?_) | ((with_reducible show PE _ _ (tE _ (aj s_ _)));refine ir (vt rfl) Fi (by rfl) (by assumption) DH ?_) | ((with_reducible show PE _ _ (tE _ (aj qx _)));refine ir (vR rfl) Ey (by rfl) (by assumption) C7 ?_) | ((with_reducible show PE _ _ (tE _ (aj uJ _)));refine oA vy AX (by rfl) (by assumption) zu ?_) | ((with_reducible show PE _ _ (tE _ (aj (bZ _ _ _) _)));refine Cz.make (by assumption) (by assumption) (by lia) (by rfl) (by first | assumption | exact uS) ?_) | ((with_reducible show PE _ _ (tE _ (aj _ _)));refine gZ.call (by assumption) (by assumption) (by lia) (by rfl) (by first | assumption | exact uS) ?_) | ((with_reducible show PE _ _ (tE _ (dF _ _ _ _ ao)));refine ym.F4 (by assumption) (by assumption) (by lia) (by first | assumption | exact uS) ?_) | ((with_reducible show PE _ _ (tE _ (dF _ _ _ _ _)));refine ym.call (by assumption) (by assumption) (by lia) (by first | assumption | exact uS) ?_ ?_) | ((with_reducible show PT _ _ (tT _ (eO (ai Co _ _))));refine gP (yM (bR.units (by assumption))) zC ?_ ?_ (cQ _)) | ((with_reducible show PE _ _ (tE _ (ai Co _ _)));refine gQ (yM (bR.units (by assumption))) zC ?_ ?_ (cQ _)) | ((with_reducible show PT _ _ (tT _ (eO (ai Fm _ _))));refine gP (xP (bR.units (by assumption))) xC ?_ ?_ (cQ _)) | ((with_reducible show PE _ _ (tE _ (ai Fm _ _)));refine gQ (xP (bR.units (by assumption))) xC ?_ ?_ (cQ _))))
def top(i:Nat):Stmt:=PySem.Challenge.pw_dialvault_k54_settings_led.main.body.getD i (.Pass ⟨0,0,0,0⟩)
structure Txt (K:Nr) (mg:Str->Option Value):Prop where
 jC:mg "ValueError" = none
 Gs:mg "all" = none
 xo:mg "bool" = none
 bV:mg "enumerate" = none
 CJ:mg "int" = none
 aZ:mg "isinstance" = none
 Gk:mg "len" = none
 pe:mg "list" = none
 zc:mg "max" = none
 lE:mg "range" = none
 F1:mg "sum" = none
 pT:mg "tuple" = none
 kU:mg "zip" = none
 nP:∃ u,mg "LEAST_PRICE" = some u/\RelV (.int 1) u
 qi:∃ u,mg "LEAST_SIZE" = some u/\RelV (.int 2) u
 pO:∃ u,mg "MOST_DIALS" = some u/\RelV (.int 6) u
 nZ:∃ u,mg "MOST_LEVERS" = some u/\RelV (.int 8) u
 pD:∃ u,mg "MOST_PRICE" = some u/\RelV (.int 1000) u
 rN:∃ u,mg "MOST_SIZE" = some u/\RelV (.int 360) u
 pP:j4 K aQ
 jW:j4 K aP
 rA:zp K mg aM "NoSetting"
 vB:zp K mg bf "TooMany"
 l_:Gy K mg "NoDial" aY kI ke
 mh:Gy K mg "NoGear" bh kl kd
 gM:Gy K mg "VaultError" jN fZ f_
 mY:Cf K mg "NoDial" aY iV iY iQ iP
 mH:Cf K mg "NoGear" bh iT i0 iR iO
 ij:Cf K mg "NoSetting" aM eS eY e7 e_
 j6:Cf K mg "TooMany" bf g9 gK hR gW
 pH:∀ C∈qc,dk K C/\bI K C "dial"
 j2:vh K "word" j2
 Jq:∀ C∈Jp,dk K C/\NI K (.ref C) (.type "ValueError")=some true
 fz:bI K aQ "front_dials"
 fL:bI K aQ "rear_dials"
 fQ:bI K aQ "tooth_rows"
 fx:bI K aP "dial_sizes"
 eR:bI K aP "least_round"
 eK:bI K aP "lever_prices"
 dQ:bI K aP "lever_settings"
 qq:∀ C,(C==aP)=true->j4 K C/\bI K C "dial_sizes"
 nV:∀ C,(C==aQ)=true->j4 K C/\bI K C "front_dials"
 nK:∀ C,(C==aP)=true->j4 K C/\bI K C "least_round"
 me:∀ C,(C==aP)=true->j4 K C/\bI K C "lever_prices"
 kC:∀ C,(C==aP)=true->j4 K C/\bI K C "lever_settings"
 pZ:∀ C,(C==aQ)=true->j4 K C/\bI K C "rear_dials"
 p7:∀ C,(C==aQ)=true->j4 K C/\bI K C "tooth_rows"
local macro_rules | `(tactic| walk_at "t")=>`(tactic| (have z:=‹Txt _ _›;cases z))
variable{P:Program}{w:World}{K:Nr}{mg:Str->Option Value}{base:Heap}{f:Addr}{fd:FuncData}{dv:Value}
theorem si(F:bK K "is_whole" "is_whole" (top 10) dv f fd)(T:Txt K mg)  : bj P w K mg base (cD P w) 1 f fd ["thing"] (fE 1 cW) :=
 F.ju ["thing"] λnd _ _ _ _ _ _ hr O=>by
 unfold gI;walk_at "t";walk_at "pp";refine(yc ?_ (yd ?_));walk_at "pp";refine(t7 (T := "int") (by rfl) T.aZ (iM (v:=.ty "int") (by rfl) T.CJ zu rfl) (by decide) ug ug ?_);walk_at "pp";refine(yY ?_);walk_at "pp";refine(t7 (T := "bool") (by rfl) T.aZ (iM (v:=.ty "bool") (by rfl) T.xo BQ rfl) (by decide) ug ug ?_);walk_at "pp"
theorem r8:((["number"]:List Str)++([]:List Str)).Nodup:=by decide +kernel
theorem vT(F:bK K "is_row" "is_row" (top 11) dv f fd)(T:Txt K mg)(Kk:gZ P w K mg base 1 "is_whole" 1 (ba 1 gI)):bj P w K mg base (cD P w) 2 f fd ["thing", "length"] (fE 2 bB) :=
 F.ju ["thing", "length"] λnd _ _ _ _ _ _ hr O=>by
 unfold dY;walk_at "t";walk_at "pp";refine(rR ?_ (pv ?_)).pt;walk_at "pp";refine(Bs (Ts:=["list", "tuple"]) (by rfl) T.aZ (yz (c_ (iM (v:=.ty "list") (by rfl) T.pe uT rfl) (c_ (iM (v:=.ty "tuple") (by rfl) T.pT nq rfl) iF))) (fun σ H R h=>⟨by show 2<=sizeLine;decide,h⟩) (by decide) ug ?_);walk_at "pp";refine(dW (cj (g:=(aL 0)) (ts:=["number"]) (fs:=[]) (js:=[]) (cl:=[]) rfl rfl rfl rfl rfl rfl .nil .nil (gp ?_) eH (λ_ _ _ _ _=>(aS (i:=0) r8)) (λ_=>dq) dr (λ_ _ _ _ _=>?_)));walk_at "pp"
theorem wx(F:bK K "common" "common" (top 12) dv f fd)(T:Txt K mg)  : bj P w K mg base (cD P w) 1 f fd ["one", "other"] (fE 2 iC) :=
 F.ju ["one", "other", "row", "behind", "times", "rest"] λnd _ _ _ _ _ _ hr O=>by
 unfold jD;walk_at "t";walk_at "pp";refine(rG O ?_ ?_);walk_at "pp"
theorem mC(F:bK K "multiple_of" "multiple_of" (top 13) dv f fd)(T:Txt K mg)(Lo:gZ P w K mg base 1 "common" 2 (ba 6 jD)):bj P w K mg base (cD P w) 2 f fd ["numbers"] (fE 1 eE) :=
 F.ju ["numbers", "multiple", "number"] λnd _ _ _ _ _ _ hr O=>by
 unfold eG;walk_at "t";walk_at "pp";refine(c8 (g:=(aL 2)) O rfl (gp ?_) eH (aS (i:=2) nd) dq ?_);walk_at "pp"
theorem qQ:((["row"]:List Str)++(["place"]:List Str)).Nodup:=by decide +kernel
theorem vS(F:bK K "column" "column" (top 14) dv f fd)(T:Txt K mg)  : bj P w K mg base (cD P w) 1 f fd ["rows", "place"] (fE 2 ik) :=
 F.ju ["rows", "place"] λnd _ _ _ _ _ _ hr O=>by
 unfold jR;walk_at "t";walk_at "pp";refine(dW (cj (g:=(aL 0)) (ts:=["row"]) (fs:=["place"]) (js:=[1]) rfl rfl rfl rfl rfl rfl (.cons rfl .nil) (.cons rfl rfl (by walk_at "l") rfl rfl .nil) (gp ?_) eH (λ_ _ _ _ _=>(aS (i:=0) qQ)) (λ_=>dq) dr (λ_ _ _ _ _=>?_)));walk_at "pp"
theorem jc:((["number", "other"]:List Str)++([]:List Str)).Nodup:=by decide +kernel
theorem r0(F:bK K "rest_sum" "rest_sum" (top 15) dv f fd)(T:Txt K mg)  : bj P w K mg base (cD P w) 1 f fd ["numbers", "others", "by"] (fE 3 fw) :=
 F.ju ["numbers", "others", "by"] λnd _ _ _ _ _ _ hr O=>by
 unfold gX;walk_at "t";walk_at "pp";refine(dW (cj (g:=(fy K 2 (bp (aL 0) (bp (aL 1) fF)))) (ts:=["number", "other"]) (fs:=[]) (js:=[]) (cl:=[]) rfl rfl rfl rfl rfl rfl .nil .nil (mU (by rfl) T.kU ?_) jY (λ_ _ _ _ _=>(cH (n:=2) rfl (aB (aS (i:=0) jc) (aB (aS (i:=1) jc) bU)))) (λ_=>cv) du (λ_ _ _ _ _=>?_)));walk_at "pp"
theorem ip:((["place", "size"]:List Str)++(["numbers", "rows"]:List Str)).Nodup:=by decide +kernel
theorem pS(F:bK K "rest_sums" "rest_sums" (top 16) dv f fd)(T:Txt K mg)(Ln:gZ P w K mg base 1 "column" 2 (ba 2 jR))(K_:gZ P w K mg base 1 "rest_sum" 3 (ba 3 gX)):bj P w K mg base (cD P w) 2 f fd ["numbers", "rows", "sizes"] (fE 3 fU) :=
 F.ju ["numbers", "rows", "sizes"] λnd _ _ _ _ _ _ hr O=>by
 unfold fM;walk_at "t";walk_at "pp";refine(dW (cj (g:=(fy K 2 (bp (aL 0) (bp (aL 1) fF)))) (ts:=["place", "size"]) (fs:=["numbers", "rows"]) (js:=[0,1]) rfl rfl rfl rfl rfl rfl (.cons rfl (.cons rfl .nil)) (.cons rfl rfl (by walk_at "l") rfl rfl (.cons rfl rfl (by walk_at "l") rfl rfl .nil)) (gT (by rfl) T.bV ?_) fc (λ_ _ _ _ _=>(cH (n:=2) rfl (aB (aS (i:=0) ip) (aB (aS (i:=1) ip) bU)))) (λ_=>cv) du (λ_ _ _ _ _=>?_)));walk_at "pp"
theorem pK(F:bK K "is_within" "is_within" (top 25) dv f fd)(T:Txt K mg)(Kk:gZ P w K mg base 1 "is_whole" 1 (ba 1 gI)):bj P w K mg base (cD P w) 2 f fd ["thing", "least", "most"] (fE 3 eL) :=
 F.ju ["thing", "least", "most"] λnd _ _ _ _ _ _ hr O=>by
 unfold eJ;walk_at "t";walk_at "pp";refine(yc ?_ (yd ?_));walk_at "pp";refine(rT qB lK qB lK ?_ ?_ ?_);walk_at "pp"
theorem nR(F:bK K "need_sizes" "need_sizes" (top 26) dv f fd)(T:Txt K mg)(Lq:mK P w K mg base aY "NoDial" "dial")(Ke:gZ P w K mg base 2 "is_within" 3 (ba 3 eJ)):bj P w K mg base (cD P w) 3 f fd ["sizes"] (fE 1 aV) :=
 F.ju ["sizes", "dial", "size"] λnd _ _ _ _ _ _ hr O=>by
 unfold cF;walk_at "t";walk_at "pp";refine(c8 (g:=(fy K 2 (bp (aL 1) (bp (aL 2) fF)))) O rfl (gT (by rfl) T.bV ?_) fc (cH (n:=2) rfl (aB (aS (i:=1) nd) (aB (aS (i:=2) nd) bU))) cv ?_);walk_at "pp"
theorem l9(F:bK K "need_levers" "need_levers" (top 27) dv f fd)(T:Txt K mg)(Ki:gZ P w K mg base 2 "is_row" 2 (ba 2 dY))(Lg:mK P w K mg base bP "NoLever" "lever"):bj P w K mg base (cD P w) 3 f fd ["levers", "dials"] (fE 2 el) :=
 F.ju ["levers", "dials", "place", "lever"] λnd _ _ _ _ _ _ hr O=>by
 unfold eD;walk_at "t";walk_at "pp";refine(c8 (g:=(fy K 2 (bp (aL 2) (bp (aL 3) fF)))) O rfl (gT (by rfl) T.bV ?_) fc (cH (n:=2) rfl (aB (aS (i:=2) nd) (aB (aS (i:=3) nd) bU))) cv ?_);walk_at "pp"
theorem nN(F:bK K "prices_for" "prices_for" (top 28) dv f fd)(T:Txt K mg)(Lh:mK P w K mg base bL "NoPrice" "lever")(Ke:gZ P w K mg base 2 "is_within" 3 (ba 3 eJ)):bj P w K mg base (cD P w) 3 f fd ["levers", "prices"] (fE 2 eU) :=
 F.ju ["levers", "prices", "place"] λnd _ _ _ _ _ _ hr O=>by
 unfold e9;walk_at "t";walk_at "pp";refine(c8 (g:=(aL 2)) O rfl (j8 (by rfl) T.lE ?_) mI (aS (i:=2) nd) dq ?_);walk_at "pp";refine(ir (ot rfl) uM (by rfl) T.zc xA ?_);walk_at "pp";refine(rR ?_ (pv ?_)).pt;walk_at "pp"
theorem mL:((["number", "size"]:List Str)++([]:List Str)).Nodup:=by decide +kernel
theorem ye(F:bK K "rests" "rests" (top 29) dv f fd)(T:Txt K mg)  : bj P w K mg base (cD P w) 1 f fd ["numbers", "sizes"] (fE 2 jP) :=
 F.ju ["numbers", "sizes"] λnd _ _ _ _ _ _ hr O=>by
 unfold lH;walk_at "t";walk_at "pp";refine(dW (cj (g:=(fy K 2 (bp (aL 0) (bp (aL 1) fF)))) (ts:=["number", "size"]) (fs:=[]) (js:=[]) (cl:=[]) rfl rfl rfl rfl rfl rfl .nil .nil (mU (by rfl) T.kU ?_) jY (λ_ _ _ _ _=>(cH (n:=2) rfl (aB (aS (i:=0) mL) (aB (aS (i:=1) mL) bU)))) (λ_=>cv) du (λ_ _ _ _ _=>?_)));walk_at "pp"
theorem fK:((["tooth", "other"]:List Str)++(["size"]:List Str)).Nodup:=by decide +kernel
theorem kY(F:bK K "is_tooth_row" "is_tooth_row" (top 34) dv f fd)(T:Txt K mg)(Ki:gZ P w K mg base 2 "is_row" 2 (ba 2 dY)):bj P w K mg base (cD P w) 3 f fd ["thing", "size", "rear"] (fE 3 aO) :=
 F.ju ["thing", "size", "rear"] λnd _ _ _ _ _ _ hr O=>by
 unfold cw;walk_at "t";walk_at "pp";refine(dW (cj (g:=(fy K 2 (bp (aL 0) (bp (aL 1) fF)))) (ts:=["tooth", "other"]) (fs:=["size"]) (js:=[1]) rfl rfl rfl rfl rfl rfl (.cons rfl .nil) (.cons rfl rfl (by walk_at "l") rfl rfl .nil) (mU (by rfl) T.kU ?_) jY (λ_ _ _ _ _=>(cH (n:=2) rfl (aB (aS (i:=0) fK) (aB (aS (i:=1) fK) bU)))) (λ_=>cv) du (λ_ _ _ _ _=>?_)));walk_at "pp"
theorem nS(F:bK K "need_teeth" "need_teeth" (top 35) dv f fd)(T:Txt K mg)(Ku:gZ P w K mg base 3 "is_tooth_row" 3 (ba 3 cw))(Lr:mK P w K mg base bh "NoGear" "dial"):bj P w K mg base (cD P w) 4 f fd ["front", "rear", "teeth"] (fE 3 a_) :=
 F.ju ["front", "rear", "teeth", "dial"] λnd _ _ _ _ _ _ hr O=>by
 unfold dZ;walk_at "t";walk_at "pp";refine(c8 (g:=(aL 3)) O rfl (j8 (by rfl) T.lE ?_) mI (aS (i:=3) nd) dq ?_);walk_at "pp";refine(ir (ot rfl) uM (by rfl) T.zc xA ?_);walk_at "pp";refine(rR ?_ (rR ?_ (pv ?_))).pt;walk_at "pp"
theorem pJ(F:bK K "_law_cell" "_law_cell" (top 37) dv f fd)(T:Txt K mg)  : bj P w K mg base (cD P w) 1 f fd ["_law_script", "_law_k"] (fE 2 cC) :=
 F.ju ["_law_script", "_law_k"] λnd _ _ _ _ _ _ hr O=>by
 unfold fN;walk_at "t";walk_at "pp"
theorem qT(F:bK K "_law_mix" "_law_mix" (top 38) dv f fd)(T:Txt K mg)  : bj P w K mg base (cD P w) 1 f fd ["_law_cell_here", "_law_k"] (fE 2 ck) :=
 F.ju ["_law_cell_here", "_law_k", "_law_number"] λnd _ _ _ _ _ _ hr O=>by
 unfold eh;walk_at "t";walk_at "pp"
theorem m9(F:bK K "_law_digits" "_law_digits" (top 39) dv f fd)(T:Txt K mg)  : bj P w K mg base (cD P w) 1 f fd ["_law_cell_here", "_law_sizes_here"] (fE 2 cP) :=
 F.ju ["_law_cell_here", "_law_sizes_here", "_law_row", "_law_size_here"] λnd _ _ _ _ _ _ hr O=>by
 unfold dm;walk_at "t";walk_at "pp";refine(c8 (g:=(aL 3)) O rfl (gp ?_) eH (aS (i:=3) nd) dq ?_);walk_at "pp"
theorem pF(F:bK K "_law_size" "_law_size" (top 40) dv f fd)(T:Txt K mg)  : bj P w K mg base (cD P w) 1 f fd ["_law_number"] (fE 1 dE) :=
 F.ju ["_law_number"] λnd _ _ _ _ _ _ hr O=>by
 unfold fH;walk_at "t";walk_at "pp";exact(pW [2,3,4,6,8,9,12]);walk_at "pp";exact(pW [1,2,5,10,30]);walk_at "pp"
theorem lp:((["_law_number"]:List Str)++([]:List Str)).Nodup:=by decide +kernel
theorem lz:((["_law_k"]:List Str)++(["_law_cell_here"]:List Str)).Nodup:=by decide +kernel
theorem n5(F:bK K "_law_sizes" "_law_sizes" (top 41) dv f fd)(T:Txt K mg)(Kc:gZ P w K mg base 1 "_law_digits" 2 (ba 4 dm))(J_:gZ P w K mg base 1 "_law_mix" 2 (ba 3 eh))(KZ:gZ P w K mg base 1 "_law_size" 1 (ba 1 fH)):bj P w K mg base (cD P w) 2 f fd ["_law_cell_here"] (fE 1 dS) :=
 F.ju ["_law_cell_here", "_law_many"] λnd _ _ _ _ _ _ hr O=>by
 unfold fe;walk_at "t";walk_at "pp";refine(dW (cj (g:=(aL 0)) (ts:=["_law_number"]) (fs:=[]) (js:=[]) (cl:=[]) rfl rfl rfl rfl rfl rfl .nil .nil (gp ?_) eH (λ_ _ _ _ _=>(aS (i:=0) lp)) (λ_=>dq) dr (λ_ _ _ _ _=>?_)));walk_at "pp";exact(pW [1,2,3,4,2,3,5,6]);walk_at "pp";refine(dW (cj (g:=(aL 0)) (ts:=["_law_k"]) (fs:=["_law_cell_here"]) (js:=[0]) rfl rfl rfl rfl rfl rfl (.cons rfl .nil) (.cons rfl rfl (by walk_at "l") rfl rfl .nil) (j8 (by rfl) T.lE ?_) mI (λ_ _ _ _ _=>(aS (i:=0) lz)) (λ_=>dq) dr (λ_ _ _ _ _=>?_)));walk_at "pp"
theorem lq(F:bK K "_law_divisor" "_law_divisor" (top 42) dv f fd)(T:Txt K mg)  : bj P w K mg base (cD P w) 1 f fd ["_law_one", "_law_other"] (fE 2 dI) :=
 F.ju ["_law_one", "_law_other"] λnd _ _ _ _ _ _ hr O=>by
 unfold dJ;walk_at "t";walk_at "pp";refine(rG O ?_ ?_);walk_at "pp";refine(EM (i:=0) (j:=1) rfl nd rfl rfl (by decide) rfl rfl ?_ ?_);walk_at "pp";exact rfl;walk_at "pp"
theorem nO(F:bK K "_law_teeth" "_law_teeth" (top 43) dv f fd)(T:Txt K mg)(J_:gZ P w K mg base 1 "_law_mix" 2 (ba 3 eh))(Kr:gZ P w K mg base 1 "_law_divisor" 2 (ba 2 dJ)):bj P w K mg base (cD P w) 2 f fd ["_law_cell_here", "_law_front", "_law_rear"] (fE 3 dO) :=
 F.ju ["_law_cell_here", "_law_front", "_law_rear", "_law_teeth_here", "_law_dial", "_law_size_here", "_law_row", "_law_place", "_law_other", "_law_number", "_law_tooth"] λnd _ _ _ _ _ _ hr O=>by
 unfold eW;walk_at "t";walk_at "pp";refine(c8 (g:=(fy K 2 (bp (aL 4) (bp (aL 5) fF)))) O rfl (gT (by rfl) T.bV ?_) fc (cH (n:=2) rfl (aB (aS (i:=4) nd) (aB (aS (i:=5) nd) bU))) cv ?_);walk_at "pp";refine(c8 (g:=(fy K 2 (bp (aL 7) (bp (aL 8) fF)))) O rfl (gT (by rfl) T.bV ?_) fc (cH (n:=2) rfl (aB (aS (i:=7) nd) (aB (aS (i:=8) nd) bU))) cv ?_);walk_at "pp"
theorem jb:((["_law_notch", "_law_row"]:List Str)++(["_law_place"]:List Str)).Nodup:=by decide +kernel
theorem rL(F:bK K "_law_led" "_law_led" (top 44) dv f fd)(T:Txt K mg)  : bj P w K mg base (cD P w) 1 f fd ["_law_teeth_here", "_law_rear", "_law_setting"] (fE 3 gS) :=
 F.ju ["_law_teeth_here", "_law_rear", "_law_setting", "_law_found", "_law_place", "_law_size_here"] λnd _ _ _ _ _ _ hr O=>by
 unfold gN;walk_at "t";walk_at "pp";refine(c8 (g:=(fy K 2 (bp (aL 4) (bp (aL 5) fF)))) O rfl (gT (by rfl) T.bV ?_) fc (cH (n:=2) rfl (aB (aS (i:=4) nd) (aB (aS (i:=5) nd) bU))) cv ?_);walk_at "pp";refine(dW (cj (g:=(fy K 2 (bp (aL 0) (bp (aL 1) fF)))) (ts:=["_law_notch", "_law_row"]) (fs:=["_law_place"]) (js:=[4]) rfl rfl rfl rfl rfl rfl (.cons rfl .nil) (.cons rfl rfl (by walk_at "l") rfl rfl .nil) (mU (by rfl) T.kU ?_) jY (λ_ _ _ _ _=>(cH (n:=2) rfl (aB (aS (i:=0) jb) (aB (aS (i:=1) jb) bU)))) (λ_=>cv) du (λ_ _ _ _ _=>?_)));walk_at "pp"
theorem lg(F:bK K "_law_spoiled" "_law_spoiled" (top 46) dv f fd)(T:Txt K mg)  : bj P w K mg base (cD P w) 1 f fd ["_law_cell_here", "_law_front", "_law_rear", "_law_teeth_here"] (fE 4 dX) :=
 F.ju ["_law_cell_here", "_law_front", "_law_rear", "_law_teeth_here", "_law_at", "_law_place", "_law_row", "_law_some", "_law_found"] λnd _ _ _ _ _ _ hr O=>by
 unfold dR;walk_at "t";walk_at "pp";refine(bY ?_ dM (dc ?_));walk_at "pp";exact EC;walk_at "pp";refine(bY ?_ dM (dc ?_));walk_at "pp";refine(bY ?_ (dc ?_) dM);walk_at "pp";refine(bY ?_ dM (dc ?_));walk_at "pp";refine(bY ?_ (dc ?_) dM);walk_at "pp";refine(bY ?_ dM (dc ?_));walk_at "pp"
theorem jE(F:bK K "_law_not_round" "_law_not_round" (top 47) dv f fd)(T:Txt K mg)  : bj P w K mg base (cD P w) 1 f fd ["_law_cell_here", "_law_front", "_law_rear", "_law_teeth_here"] (fE 4 cx) :=
 F.ju ["_law_cell_here", "_law_front", "_law_rear", "_law_teeth_here", "_law_dial", "_law_size_here", "_law_place", "_law_other", "_law_row", "_law_behind"] λnd _ _ _ _ _ _ hr O=>by
 unfold dg;walk_at "t";walk_at "pp";refine(c8 (g:=(fy K 2 (bp (aL 4) (bp (aL 5) fF)))) O rfl (gT (by rfl) T.bV ?_) fc (cH (n:=2) rfl (aB (aS (i:=4) nd) (aB (aS (i:=5) nd) bU))) cv ?_);walk_at "pp";refine(c8 (g:=(fy K 2 (bp (aL 6) (bp (aL 7) fF)))) O rfl (gT (by rfl) T.bV ?_) fc (cH (n:=2) rfl (aB (aS (i:=6) nd) (aB (aS (i:=7) nd) bU))) cv ?_);walk_at "pp";refine(DX ?_ (AN ?_)).pt;walk_at "pp";refine(u7 (by rfl) T.pe ?_);walk_at "pp";refine(Gw (i:=8) rfl (by first | exact .inl rfl | exact .inr (.inl rfl)) ?_ ?_);walk_at "pp";refine(AE 8 ?_);walk_at "pp";refine(bY ?_ (dc ?_) dM);walk_at "pp";refine(bY ?_ (dc ?_) dM);walk_at "pp";refine(bY ?_ dM (dc ?_));walk_at "pp"
theorem i9:bx ["self", "sizes", "levers", "prices"] ["self", "sizes", "levers", "prices"] (aC (inClass (top 24) 0)):=.of
theorem kZ:((["lever"]:List Str)++(["sizes"]:List Str)).Nodup:=by decide +kernel
theorem nG(F:bK K "__init__" "Vault.__init__" (inClass (top 24) 0) dv f fd)(T:Txt K mg)(KP:gZ P w K mg base 3 "need_sizes" 1 (ba 3 cF))(Kz:gZ P w K mg base 3 "need_levers" 2 (ba 4 eD))(LM:gZ P w K mg base 1 "rests" 2 (ba 2 lH))(KR:gZ P w K mg base 3 "prices_for" 2 (ba 3 e9))(Ky:gZ P w K mg base 2 "multiple_of" 1 (ba 3 eG)):bj P w K mg base (cD P w) 4 f fd ["self", "sizes", "levers", "prices"] (CB 4 aP cu) :=
 F.Jm i9 (by decide) λ_ _ _ _ _ _ hr O=>by
 unfold e8;have:=i9.nd;have T2:=T;cases T2;walk_at "pp";refine(jv (i:=0) rfl (by first | exact .inl rfl | exact .inr (.inl rfl)) T.jW T.fx ?_);walk_at "pp";refine(jv (i:=0) rfl (by first | exact .inl rfl | exact .inr (.inl rfl)) T.jW T.dQ ?_);walk_at "pp";refine(dW (cj (g:=(aL 0)) (ts:=["lever"]) (fs:=["sizes"]) (js:=[1]) rfl rfl rfl rfl rfl rfl (.cons rfl .nil) (.cons rfl rfl (by walk_at "l") rfl rfl .nil) (gp ?_) eH (λ_ _ _ _ _=>(aS (i:=0) kZ)) (λ_=>dq) dr (λ_ _ _ _ _=>?_)));walk_at "pp";refine(jv (i:=0) rfl (by first | exact .inl rfl | exact .inr (.inl rfl)) T.jW T.eK ?_);walk_at "pp";refine(jv (i:=0) rfl (by first | exact .inl rfl | exact .inr (.inl rfl)) T.jW T.eR ?_);walk_at "pp"
theorem md(F:bK K "sizes" "Vault.sizes" (inClass (top 24) 1) dv f fd)(T:Txt K mg)  : bj P w K mg base (cD P w) 1 f fd ["self"] (fE 1 cn) :=
 F.ju ["self"] λnd _ _ _ _ _ _ hr O=>by
 unfold dj;walk_at "t";walk_at "pp"
theorem jJ:bx ["self", "front", "rear", "teeth"] ["self", "front", "rear", "teeth"] (aC (inClass (top 33) 0)):=.of
theorem lR:((["row"]:List Str)++([]:List Str)).Nodup:=by decide +kernel
theorem pj(F:bK K "__init__" "Gear.__init__" (inClass (top 33) 0) dv f fd)(T:Txt K mg)(KD:Cz P w K mg base aP 4 "Vault" 4 [.bz] cu)(KQ:gZ P w K mg base 4 "need_teeth" 3 (ba 4 dZ)):bj P w K mg base (cD P w) 6 f fd ["self", "front", "rear", "teeth"] (CB 4 aQ bW) :=
 F.Jm jJ (by decide) λ_ _ _ _ _ _ hr O=>by
 unfold dC;have:=jJ.nd;have T2:=T;cases T2;walk_at "pp";refine(jv (i:=0) rfl (by first | exact .inl rfl | exact .inr (.inl rfl)) T.pP T.fz ?_);walk_at "pp";refine(jv (i:=0) rfl (by first | exact .inl rfl | exact .inr (.inl rfl)) T.pP T.fL ?_);walk_at "pp";refine(jv (i:=0) rfl (by first | exact .inl rfl | exact .inr (.inl rfl)) T.pP T.fQ ?_);walk_at "pp";refine(dW (cj (g:=(aL 0)) (ts:=["row"]) (fs:=[]) (js:=[]) (cl:=[]) rfl rfl rfl rfl rfl rfl .nil .nil (gp ?_) eH (λ_ _ _ _ _=>(aS (i:=0) lR)) (λ_=>dq) dr (λ_ _ _ _ _=>?_)));walk_at "pp"
theorem hW:((["notch", "size"]:List Str)++([]:List Str)).Nodup:=by decide +kernel
theorem nX(F:bK K "is_setting" "is_setting" (top 30) dv f fd)(T:Txt K mg)(Kb:ym P w K mg base aP 1 "sizes" 1 (ba 1 dj))(Ki:gZ P w K mg base 2 "is_row" 2 (ba 2 dY)):bj P w K mg base (cD P w) 3 f fd ["vault", "thing"] (fE 2 bN) :=
 F.ju ["vault", "thing", "sizes"] λnd _ _ _ _ _ _ hr O=>by
 unfold da;walk_at "t";walk_at "pp";refine(rR ?_ (pv ?_)).pt;walk_at "pp";refine(t7 (T := "tuple") (by rfl) T.aZ (iM (v:=.ty "tuple") (by rfl) T.pT nq rfl) (by decide) ug ug ?_);walk_at "pp";refine(dW (cj (g:=(fy K 2 (bp (aL 0) (bp (aL 1) fF)))) (ts:=["notch", "size"]) (fs:=[]) (js:=[]) (cl:=[]) rfl rfl rfl rfl rfl rfl .nil .nil (mU (by rfl) T.kU ?_) jY (λ_ _ _ _ _=>(cH (n:=2) rfl (aB (aS (i:=0) hW) (aB (aS (i:=1) hW) bU)))) (λ_=>cv) du (λ_ _ _ _ _=>?_)));walk_at "pp";refine(rT qB lK z7 sI ?_ ?_ ?_);walk_at "pp"
theorem lr(F:bK K "need_setting" "need_setting" (top 31) dv f fd)(T:Txt K mg)(KN:gZ P w K mg base 3 "is_setting" 2 (ba 3 da)):bj P w K mg base (cD P w) 4 f fd ["vault", "thing"] (fE 2 bO) :=
 F.ju ["vault", "thing"] λnd _ _ _ _ _ _ hr O=>by
 unfold cY;walk_at "t";walk_at "pp"
theorem qO(F:bK K "led" "Gear.led" (inClass (top 33) 1) dv f fd)(T:Txt K mg)(Kv:gZ P w K mg base 4 "need_setting" 2 (ba 2 cY))(Kb:ym P w K mg base aP 1 "sizes" 1 (ba 1 dj))(K1:gZ P w K mg base 2 "rest_sums" 3 (ba 3 fM)):bj P w K mg base (cD P w) 5 f fd ["self", "setting"] (fE 2 bA) :=
 F.ju ["self", "setting"] λnd _ _ _ _ _ _ hr O=>by
 unfold ed;walk_at "t";walk_at "pp"
theorem pN(F:bK K "_law_told" "_law_told" (top 45) dv f fd)(T:Txt K mg)(Kd:Cz P w K mg base aQ 6 "Gear" 4 [] bW)(Kj:ym P w K mg base aQ 5 "led" 2 (ba 2 ed)):bj P w K mg base (cD P w) 8 f fd ["_law_front", "_law_rear", "_law_teeth_here", "_law_thing"] (fE 4 bF) :=
 F.ju ["_law_front", "_law_rear", "_law_teeth_here", "_law_thing", "_law_told_here", "e"] λnd _ _ _ _ _ _ hr O=>by
 unfold cX;walk_at "t";walk_at "pp";refine(ET rfl rfl (λpn E2 O2=>(BM ?_)) (.uR (i:=5) (by rfl) T.mh.mg (by decide) nd rfl rfl T.mh.ok (λea=>?_) (.uR (i:=5) (by rfl) T.l_.mg (by decide) nd rfl rfl T.l_.ok (λea=>?_) (.uR (i:=5) (by rfl) T.gM.mg (by decide) nd rfl rfl T.gM.ok (λea=>?_) .nil))));walk_at "pp";refine(Cr ?_ T.pH rfl);walk_at "pp";refine(T.mY.is (by rfl) T.aZ (by rfl) ?_);walk_at "pp";refine(T.ij.is (by rfl) T.aZ (by rfl) ?_);walk_at "pp";refine(T.j6.is (by rfl) T.aZ (by rfl) ?_);walk_at "pp";refine(Cr ?_ T.pH rfl);walk_at "pp";refine(T.mH.is (by rfl) T.aZ (by rfl) ?_);walk_at "pp";refine(T.ij.is (by rfl) T.aZ (by rfl) ?_);walk_at "pp";refine(T.j6.is (by rfl) T.aZ (by rfl) ?_);walk_at "pp";refine(AH hr (by lia) T.j2 ?_);walk_at "pp";refine(T.mH.is (by rfl) T.aZ (by rfl) ?_);walk_at "pp";refine(T.mY.is (by rfl) T.aZ (by rfl) ?_);walk_at "pp";refine(yY ?_);walk_at "pp";refine(AZ (by rfl) T.aZ (iM (v:=.ty "ValueError") (by rfl) T.jC nI rfl) T.Jq ?_);walk_at "pp"
theorem lu(F:bK K "_law_refused" "_law_refused" (top 48) dv f fd)(T:Txt K mg)(Kt:gZ P w K mg base 1 "_law_spoiled" 4 (ba 9 dR))(Kh:gZ P w K mg base 1 "_law_not_round" 4 (ba 10 dg))(K0:gZ P w K mg base 8 "_law_told" 4 (ba 6 cX)):bj P w K mg base (cD P w) 9 f fd ["_law_cell_here", "_law_front", "_law_rear", "_law_teeth_here"] (fE 4 dH) :=
 F.ju ["_law_cell_here", "_law_front", "_law_rear", "_law_teeth_here", "_law_at", "_law_wrong", "_law_dial", "_law_other", "_law_rows", "_law_some", "_law_more", "_law_what", "_law_due", "_law_bad"] λnd _ _ _ _ _ _ hr O=>by
 unfold dU;walk_at "t";walk_at "pp";refine(xy (g:=(fy K 2 (bp (aL 4) (bp (aL 5) fF)))) (cH (n:=2) rfl (aB (aS (i:=4) nd) (aB (aS (i:=5) nd) bU))) cv ?_);walk_at "pp";refine(xy (g:=(fy K 2 (bp (aL 6) (bp (aL 7) fF)))) (cH (n:=2) rfl (aB (aS (i:=6) nd) (aB (aS (i:=7) nd) bU))) cv ?_);walk_at "pp";refine(xq ?_ ?_);walk_at "pp";refine(bY ?_ dM (dc ?_));walk_at "pp";refine(bY ?_ dM (dc ?_));walk_at "pp";refine(xq ?_ ?_);walk_at "pp";refine(c8 (g:=(fy K 4 (p6 [9,10,11,12]))) O rfl (gp ?_) eH (cH (n:=4) rfl (aB (aS (i:=9) nd) (aB (aS (i:=10) nd) (aB (aS (i:=11) nd) (aB (aS (i:=12) nd) bU))))) Ae ?_);walk_at "pp"
theorem wY:((["_law_row"]:List Str)++([]:List Str)).Nodup:=by decide +kernel
theorem se:((["_law_k", "_law_size_here"]:List Str)++(["_law_cell_here"]:List Str)).Nodup:=by decide +kernel
theorem lP:((["_law_here", "_law_there", "_law_size_here"]:List Str)++([]:List Str)).Nodup:=by decide +kernel
theorem nt:((["_law_here", "_law_there", "_law_size_here"]:List Str)++([]:List Str)).Nodup:=by decide +kernel
theorem DU(F:bK K "law" "law" (top 49) dv f fd)(T:Txt K mg)(KY:gZ P w K mg base 1 "_law_cell" 2 (ba 2 fN))(KH:gZ P w K mg base 2 "_law_sizes" 1 (ba 2 fe))(KJ:gZ P w K mg base 2 "_law_teeth" 3 (ba 11 eW))(Kd:Cz P w K mg base aQ 6 "Gear" 4 [] bW)(Kc:gZ P w K mg base 1 "_law_digits" 2 (ba 4 dm))(J_:gZ P w K mg base 1 "_law_mix" 2 (ba 3 eh))(Kj:ym P w K mg base aQ 5 "led" 2 (ba 2 ed))(K9:gZ P w K mg base 1 "_law_led" 3 (ba 6 gN))(Ks:gZ P w K mg base 9 "_law_refused" 4 (ba 14 dU)):bj P w K mg base (cD P w) 10 f fd ["_law_script"] (fE 1 o8) :=
 F.ju ["_law_script", "_law_front", "_law_rear", "_law_teeth_here", "_law_handed", "_law_gear", "_law_before", "_law_cell_here", "_law_setting", "_law_sums", "_law_due"] λnd _ _ _ _ _ _ hr O=>by
 unfold zO;walk_at "t";walk_at "pp";refine(zN (ih:=4) (ig:=5) (uH (g:=(aL 0)) (ts:=["_law_row"]) (fs:=[]) (js:=[]) (cl:=[]) (i:=4) nd rfl (by walk_at "l") rfl rfl rfl rfl rfl rfl .nil .nil (gp ?_) (λ_ _ _ _ _=>(aS (i:=0) wY)) (λ_ _ _ _ _=>?_)) eH (λ_=>dq) dr (tw (i:=5) nd rfl (by walk_at "l") ?_) (Ca ?_ ?_ qp) (lF (EO Sh PySem.F.slot_list_clear PySem.F.type_list_clear wM (Ci wV (ji (i:=4) rfl (by first | exact .inl rfl | exact .inr (.inl rfl))) zr (λ_ _=>rfl)))) (by decide)   ?_);walk_at "pp";refine(u7 (by rfl) T.pe ?_);walk_at "pp";refine(c8 (g:=(aL 7)) O rfl (gp ?_) eH (aS (i:=7) nd) dq ?_);walk_at "pp";refine(bY ?_ (dc ?_) (dc ?_));walk_at "pp";refine(dW (cj (g:=(fy K 2 (bp (aL 0) (bp (aL 1) fF)))) (ts:=["_law_k", "_law_size_here"]) (fs:=["_law_cell_here"]) (js:=[7]) rfl rfl rfl rfl rfl rfl (.cons rfl .nil) (.cons rfl rfl (by walk_at "l") rfl rfl .nil) (gT (by rfl) T.bV ?_) fc (λ_ _ _ _ _=>(cH (n:=2) rfl (aB (aS (i:=0) se) (aB (aS (i:=1) se) bU)))) (λ_=>cv) du (λ_ _ _ _ _=>?_)));walk_at "pp";refine(dW (cj (g:=(fy K 3 (bp (aL 0) (bp (aL 1) (bp (aL 2) fF))))) (ts:=["_law_here", "_law_there", "_law_size_here"]) (fs:=[]) (js:=[]) (cl:=[]) rfl rfl rfl rfl rfl rfl .nil .nil (uE (by rfl) T.kU ?_) qX (λ_ _ _ _ _=>(cH (n:=3) rfl (aB (aS (i:=0) lP) (aB (aS (i:=1) lP) (aB (aS (i:=2) lP) bU))))) (λ_=>u0) lT (λ_ _ _ _ _=>?_)));walk_at "pp";refine(Av (i:=10) (g:=(fy K 3 (bp (aL 0) (bp (aL 1) (bp (aL 2) fF))))) (ts:=["_law_here", "_law_there", "_law_size_here"]) (fs:=[]) (js:=[]) (cl:=[]) rfl rfl rfl rfl rfl rfl .nil .nil (uE (by rfl) T.kU ?_) qX (λ_ _ _ _ _=>(cH (n:=3) rfl (aB (aS (i:=0) nt) (aB (aS (i:=1) nt) (aB (aS (i:=2) nt) bU))))) (λ_=>u0) lT (λ_ _ _ _ _=>?_) nd rfl (by walk_at "l"));walk_at "pp"
end sy
namespace sy
open PySem L2 PyProof.Rows
open PySem.W (nsIn findIn codeIn keepIn isFn mroIn specialIn takesIn hasDictIn typeIn plainGet plainOver makesIn mg_of mg_none_of fnOf excIn clsIn)
abbrev κ(w:World):Nr:=HD.K w.params
variable(w:World)
abbrev En:Value:=HD.st "dialvault.wholes" 395
abbrev BX:Value:=HD.st "dialvault.vault" 449
abbrev G5:Value:=HD.st "dialvault.gears" 578
abbrev wd:Value:=HD.st "law_dialvault_k54_settings_led" 633
abbrev z9:Value:=HD.st "dialvault.errors" 194
def gg:FuncData:=fnOf "__init__" "Vault.__init__" (fW (inClass (top 24) 0)) (de (inClass (top 24) 0)) (aC (inClass (top 24) 0)) (.ref 232) .none .none BX none (.ref 236) .none
theorem jS:bK (κ w) "__init__" "Vault.__init__" (inClass (top 24) 0) (.ref 232) 237 gg:=.of (by kernel_rfl) (by kernel_rfl) (by kernel_rfl)
def gE:FuncData:=oS "__init__" "Gear.__init__" (inClass (top 33) 0) G5 328
theorem qH:bK (κ w) "__init__" "Gear.__init__" (inClass (top 33) 0) .none 329 gE:=.of (by kernel_rfl) (by kernel_rfl) (by kernel_rfl)
theorem qV:Binds (κ w) gE ["self", "front", "rear", "teeth"] []:=Binds.all (JN λ_ _ _ _=>rfl)
def tP:FuncData:=oS "law" "law" (top 49) wd 439
theorem Gu:bK (κ w) "law" "law" (top 49) .none 440 tP:=.of (by kernel_rfl) (by kernel_rfl) (by kernel_rfl)
theorem cJ:dk (κ w) aM:=⟨(by kernel_rfl),(by kernel_rfl),(by kernel_rfl),(by kernel_rfl),(by kernel_rfl),(by kernel_rfl),(by kernel_rfl),(by kernel_rfl),(by kernel_rfl)⟩
theorem dy:dk (κ w) bf:=⟨(by kernel_rfl),(by kernel_rfl),(by kernel_rfl),(by kernel_rfl),(by kernel_rfl),(by kernel_rfl),(by kernel_rfl),(by kernel_rfl),(by kernel_rfl)⟩
theorem c9:dk (κ w) aY:=⟨(by kernel_rfl),(by kernel_rfl),(by kernel_rfl),(by kernel_rfl),(by kernel_rfl),(by kernel_rfl),(by kernel_rfl),(by kernel_rfl),(by kernel_rfl)⟩
def fR:FuncData:=oS "__init__" "NoDial.__init__" (inClass (top 3) 0) z9 54
theorem Ik:(κ w).lookup 55=some ⟨.type "function", none,.func fR,⟨[]⟩⟩:=by kernel_rfl
theorem IT:codeIn (κ w) (.ref 54) "NoDial.__init__" = true:=by kernel_rfl
theorem sS:Binds (κ w) fR ["self", "dial"] []:=Binds.all (G0 λ_ _=>rfl)
theorem sX:bx ["self", "dial"] ["self", "dial"] (aC (inClass (top 3) 0)):=.of
theorem HS:((clsIn (κ w) 65).any λcd=>ez cd.mro)=true:=by kernel_rfl
theorem IS:findIn (κ w) (.ref 65) "dial" = some none:=by kernel_rfl
theorem tH{P:Program}{w:World}{mg:Str->Option Value}{base:Heap}:bj P w (κ w) mg base (cD P w) 1 55 fR ["self", "dial"] (sT (κ w) aY "dial") :=
 jQ (n0 := "self") (n1 := "dial") (fl := "dial") (Ik w) (IT w) sX (c9 w) (HS w) (IS w) (by first | exact .inl rfl | exact .inr (.inl rfl)) (by first | exact .inl rfl | exact .inr (.inl rfl)) (by decide) (by decide) (by decide) (by decide) (λ_=>rfl)
theorem c7:dk (κ w) bh:=⟨(by kernel_rfl),(by kernel_rfl),(by kernel_rfl),(by kernel_rfl),(by kernel_rfl),(by kernel_rfl),(by kernel_rfl),(by kernel_rfl),(by kernel_rfl)⟩
def fY:FuncData:=oS "__init__" "NoGear.__init__" (inClass (top 8) 0) z9 170
theorem I0:(κ w).lookup 171=some ⟨.type "function", none,.func fY,⟨[]⟩⟩:=by kernel_rfl
theorem IJ:codeIn (κ w) (.ref 170) "NoGear.__init__" = true:=by kernel_rfl
theorem ud:Binds (κ w) fY ["self", "dial"] []:=Binds.all (G0 λ_ _=>rfl)
theorem sH:bx ["self", "dial"] ["self", "dial"] (aC (inClass (top 8) 0)):=.of
theorem HE:((clsIn (κ w) 181).any λcd=>ez cd.mro)=true:=by kernel_rfl
theorem HB:findIn (κ w) (.ref 181) "dial" = some none:=by kernel_rfl
theorem tj{P:Program}{w:World}{mg:Str->Option Value}{base:Heap}:bj P w (κ w) mg base (cD P w) 1 171 fY ["self", "dial"] (sT (κ w) bh "dial") :=
 jQ (n0 := "self") (n1 := "dial") (fl := "dial") (I0 w) (IJ w) sH (c7 w) (HE w) (HB w) (by first | exact .inl rfl | exact .inr (.inl rfl)) (by first | exact .inl rfl | exact .inr (.inl rfl)) (by decide) (by decide) (by decide) (by decide) (λ_=>rfl)
theorem cZ:dk (κ w) bP:=⟨(by kernel_rfl),(by kernel_rfl),(by kernel_rfl),(by kernel_rfl),(by kernel_rfl),(by kernel_rfl),(by kernel_rfl),(by kernel_rfl),(by kernel_rfl)⟩
def fj:FuncData:=oS "__init__" "NoLever.__init__" (inClass (top 4) 0) z9 80
theorem Hj:(κ w).lookup 81=some ⟨.type "function", none,.func fj,⟨[]⟩⟩:=by kernel_rfl
theorem Iu:codeIn (κ w) (.ref 80) "NoLever.__init__" = true:=by kernel_rfl
theorem qK:Binds (κ w) fj ["self", "lever"] []:=Binds.all (G0 λ_ _=>rfl)
theorem sk:bx ["self", "lever"] ["self", "lever"] (aC (inClass (top 4) 0)):=.of
theorem HA:((clsIn (κ w) 91).any λcd=>ez cd.mro)=true:=by kernel_rfl
theorem Hl:findIn (κ w) (.ref 91) "lever" = some none:=by kernel_rfl
theorem rW{P:Program}{w:World}{mg:Str->Option Value}{base:Heap}:bj P w (κ w) mg base (cD P w) 1 81 fj ["self", "lever"] (sT (κ w) bP "lever") :=
 jQ (n0 := "self") (n1 := "lever") (fl := "lever") (Hj w) (Iu w) sk (cZ w) (HA w) (Hl w) (by first | exact .inl rfl | exact .inr (.inl rfl)) (by first | exact .inl rfl | exact .inr (.inl rfl)) (by decide) (by decide) (by decide) (by decide) (λ_=>rfl)
theorem c6:dk (κ w) bL:=⟨(by kernel_rfl),(by kernel_rfl),(by kernel_rfl),(by kernel_rfl),(by kernel_rfl),(by kernel_rfl),(by kernel_rfl),(by kernel_rfl),(by kernel_rfl)⟩
def fg:FuncData:=oS "__init__" "NoPrice.__init__" (inClass (top 5) 0) z9 106
theorem Hw:(κ w).lookup 107=some ⟨.type "function", none,.func fg,⟨[]⟩⟩:=by kernel_rfl
theorem Ha:codeIn (κ w) (.ref 106) "NoPrice.__init__" = true:=by kernel_rfl
theorem rK:Binds (κ w) fg ["self", "lever"] []:=Binds.all (G0 λ_ _=>rfl)
theorem rS:bx ["self", "lever"] ["self", "lever"] (aC (inClass (top 5) 0)):=.of
theorem He:((clsIn (κ w) 117).any λcd=>ez cd.mro)=true:=by kernel_rfl
theorem Jj:findIn (κ w) (.ref 117) "lever" = some none:=by kernel_rfl
theorem rC{P:Program}{w:World}{mg:Str->Option Value}{base:Heap}:bj P w (κ w) mg base (cD P w) 1 107 fg ["self", "lever"] (sT (κ w) bL "lever") :=
 jQ (n0 := "self") (n1 := "lever") (fl := "lever") (Hw w) (Ha w) rS (c6 w) (He w) (Jj w) (by first | exact .inl rfl | exact .inr (.inl rfl)) (by first | exact .inl rfl | exact .inr (.inl rfl)) (by decide) (by decide) (by decide) (by decide) (λ_=>rfl)
theorem j0:j4 (κ w) aQ:=⟨(by kernel_rfl),(by kernel_rfl),(by kernel_rfl),(by kernel_rfl)⟩
theorem gD:j4 (κ w) aP:=⟨(by kernel_rfl),(by kernel_rfl),(by kernel_rfl),(by kernel_rfl)⟩
theorem Fy:findIn (κ w) (.ref 339) "front_dials" = some none:=by kernel_rfl
theorem F_:findIn (κ w) (.ref 339) "rear_dials" = some none:=by kernel_rfl
theorem F3:findIn (κ w) (.ref 339) "tooth_rows" = some none:=by kernel_rfl
theorem F9:findIn (κ w) (.ref 268) "dial_sizes" = some none:=by kernel_rfl
theorem GA:findIn (κ w) (.ref 268) "least_round" = some none:=by kernel_rfl
theorem GS:findIn (κ w) (.ref 268) "lever_prices" = some none:=by kernel_rfl
theorem Fw:findIn (κ w) (.ref 268) "lever_settings" = some none:=by kernel_rfl
theorem Hq:nsIn (κ w) mainGlobals "LEAST_PRICE" = some (some (.int 1 459)):=by kernel_rfl
theorem Iz:nsIn (κ w) mainGlobals "LEAST_SIZE" = some (some (.int 2 453)):=by kernel_rfl
theorem IL:nsIn (κ w) mainGlobals "MOST_DIALS" = some (some (.int 6 451)):=by kernel_rfl
theorem HY:nsIn (κ w) mainGlobals "MOST_LEVERS" = some (some (.int 8 457)):=by kernel_rfl
theorem Jd:nsIn (κ w) mainGlobals "MOST_PRICE" = some (some (.int 1000 461)):=by kernel_rfl
theorem Hg:nsIn (κ w) mainGlobals "MOST_SIZE" = some (some (.int 360 455)):=by kernel_rfl
theorem HK:nsIn (κ w) mainGlobals "NoDial" = some (some (.ref 65)):=by kernel_rfl
theorem HJ:sC (λC=>PZ (κ w) (.ref C) (.ref aY)) kI ke=true:=by kernel_rfl
theorem HP:nsIn (κ w) mainGlobals "NoGear" = some (some (.ref 181)):=by kernel_rfl
theorem Iv:sC (λC=>PZ (κ w) (.ref C) (.ref bh)) kl kd=true:=by kernel_rfl
theorem HC:nsIn (κ w) mainGlobals "VaultError" = some (some (.ref 38)):=by kernel_rfl
theorem Hu:sC (λC=>PZ (κ w) (.ref C) (.ref jN)) fZ f_=true:=by kernel_rfl
theorem H0:nsIn (κ w) mainGlobals "NoDial" = some (some (.ref 65)):=by kernel_rfl
theorem IB:(vO.all λa=>NI (κ w) (.type a) (.ref aY)==some false)=true:=by kernel_rfl
theorem IH:sC (λC=>NI (κ w) (.ref C) (.ref aY)) iQ iP=true:=by kernel_rfl
theorem HV:sC (λC=>NI (κ w) (.ref C) (.ref aY)) iV iY=true:=by kernel_rfl
theorem Ie:nsIn (κ w) mainGlobals "NoGear" = some (some (.ref 181)):=by kernel_rfl
theorem Hf:(vO.all λa=>NI (κ w) (.type a) (.ref bh)==some false)=true:=by kernel_rfl
theorem Hy:sC (λC=>NI (κ w) (.ref C) (.ref bh)) iR iO=true:=by kernel_rfl
theorem HZ:sC (λC=>NI (κ w) (.ref C) (.ref bh)) iT i0=true:=by kernel_rfl
theorem IP:nsIn (κ w) mainGlobals "NoSetting" = some (some (.ref 136)):=by kernel_rfl
theorem Ib:(vO.all λa=>NI (κ w) (.type a) (.ref aM)==some false)=true:=by kernel_rfl
theorem Ii:sC (λC=>NI (κ w) (.ref C) (.ref aM)) e7 e_=true:=by kernel_rfl
theorem Hh:sC (λC=>NI (κ w) (.ref C) (.ref aM)) eS eY=true:=by kernel_rfl
theorem IF:nsIn (κ w) mainGlobals "TooMany" = some (some (.ref 155)):=by kernel_rfl
theorem H_:(vO.all λa=>NI (κ w) (.type a) (.ref bf)==some false)=true:=by kernel_rfl
theorem Iw:sC (λC=>NI (κ w) (.ref C) (.ref bf)) hR gW=true:=by kernel_rfl
theorem IU:sC (λC=>NI (κ w) (.ref C) (.ref bf)) g9 gK=true:=by kernel_rfl
theorem IG:findIn (κ w) (.ref bh) "dial" = some none:=by kernel_rfl
theorem Ih:findIn (κ w) (.ref aY) "dial" = some none:=by kernel_rfl
def hG:FuncData:=oS "word" "TooMany.word" (inClass (top 7) 0) z9 151
theorem kO:bK (κ w) "word" "TooMany.word" (inClass (top 7) 0) .none 152 hG:=.of (by kernel_rfl) (by kernel_rfl) (by kernel_rfl)
theorem qG:Binds (κ w) hG ["self"] []:=Binds.all (Fo λ_=>rfl)
theorem rQ:bx ["self"] ["self"] (aC (inClass (top 7) 0)):=.of
def fu:FuncData:=oS "word" "NoSetting.word" (inClass (top 6) 0) z9 132
theorem jd:bK (κ w) "word" "NoSetting.word" (inClass (top 6) 0) .none 133 fu:=.of (by kernel_rfl) (by kernel_rfl) (by kernel_rfl)
theorem oa:Binds (κ w) fu ["self"] []:=Binds.all (Fo λ_=>rfl)
theorem nU:bx ["self"] ["self"] (aC (inClass (top 6) 0)):=.of
def g8:FuncData:=oS "word" "NoPrice.word" (inClass (top 5) 1) z9 113
theorem kR:bK (κ w) "word" "NoPrice.word" (inClass (top 5) 1) .none 114 g8:=.of (by kernel_rfl) (by kernel_rfl) (by kernel_rfl)
theorem rM:Binds (κ w) g8 ["self"] []:=Binds.all (Fo λ_=>rfl)
theorem rh:bx ["self"] ["self"] (aC (inClass (top 5) 1)):=.of
def hU:FuncData:=oS "word" "NoLever.word" (inClass (top 4) 1) z9 87
theorem kW:bK (κ w) "word" "NoLever.word" (inClass (top 4) 1) .none 88 hU:=.of (by kernel_rfl) (by kernel_rfl) (by kernel_rfl)
theorem qN:Binds (κ w) hU ["self"] []:=Binds.all (Fo λ_=>rfl)
theorem qJ:bx ["self"] ["self"] (aC (inClass (top 4) 1)):=.of
def iy:FuncData:=oS "word" "NoGear.word" (inClass (top 8) 1) z9 177
theorem nh:bK (κ w) "word" "NoGear.word" (inClass (top 8) 1) .none 178 iy:=.of (by kernel_rfl) (by kernel_rfl) (by kernel_rfl)
theorem tq:Binds (κ w) iy ["self"] []:=Binds.all (Fo λ_=>rfl)
theorem tY:bx ["self"] ["self"] (aC (inClass (top 8) 1)):=.of
def iu:FuncData:=oS "word" "NoDial.word" (inClass (top 3) 1) z9 61
theorem my:bK (κ w) "word" "NoDial.word" (inClass (top 3) 1) .none 62 iu:=.of (by kernel_rfl) (by kernel_rfl) (by kernel_rfl)
theorem sF:Binds (κ w) iu ["self"] []:=Binds.all (Fo λ_=>rfl)
theorem tW:bx ["self"] ["self"] (aC (inClass (top 3) 1)):=.of
theorem HI:(κ w).lookup 232=some (HD.tu [.none]):=by kernel_rfl
theorem pX:Binds (κ w) gg ["self", "sizes", "levers", "prices"] [.none]:=(jS w).binds (HI w) rfl λ_ _ _ _ _ _ us hl=>by obtain⟨a,b,c,rfl⟩:=JA (show _=3 from (by simpa using hl));exact⟨_,rfl,rfl⟩
variable{h:Heap}
theorem txt{w:World}{mg:Str->Option Value}(X:UH (κ w) h)(G:h.Ns mainGlobals mg):Txt (κ w) mg where
 jC:=mg_none_of X G (by kernel_rfl)
 Gs:=mg_none_of X G (by kernel_rfl)
 xo:=mg_none_of X G (by kernel_rfl)
 bV:=mg_none_of X G (by kernel_rfl)
 CJ:=mg_none_of X G (by kernel_rfl)
 aZ:=mg_none_of X G (by kernel_rfl)
 Gk:=mg_none_of X G (by kernel_rfl)
 pe:=mg_none_of X G (by kernel_rfl)
 zc:=mg_none_of X G (by kernel_rfl)
 lE:=mg_none_of X G (by kernel_rfl)
 F1:=mg_none_of X G (by kernel_rfl)
 pT:=mg_none_of X G (by kernel_rfl)
 kU:=mg_none_of X G (by kernel_rfl)
 nP:=⟨_,mg_of X G (Hq w),⟨_,rfl⟩⟩
 qi:=⟨_,mg_of X G (Iz w),⟨_,rfl⟩⟩
 pO:=⟨_,mg_of X G (IL w),⟨_,rfl⟩⟩
 nZ:=⟨_,mg_of X G (HY w),⟨_,rfl⟩⟩
 pD:=⟨_,mg_of X G (Jd w),⟨_,rfl⟩⟩
 rN:=⟨_,mg_of X G (Hg w),⟨_,rfl⟩⟩
 pP:=j0 w
 jW:=gD w
 rA:=⟨(by kernel_rfl),cJ w,(by kernel_rfl),(by kernel_rfl),mg_of X G (by kernel_rfl)⟩
 vB:=⟨(by kernel_rfl),dy w,(by kernel_rfl),(by kernel_rfl),mg_of X G (by kernel_rfl)⟩
 l_:=.of (mg_of X G (HK w)) (HJ w)
 mh:=.of (mg_of X G (HP w)) (Iv w)
 gM:=.of (mg_of X G (HC w)) (Hu w)
 mY:=.of (mg_of X G (H0 w)) (IB w) (IH w) (HV w) h9 h9 (ja (c9 w) h9) (ja (c7 w) (ja (cZ w) (ja (c6 w) (ja (cJ w) (ja (dy w) h9)))))
 mH:=.of (mg_of X G (Ie w)) (Hf w) (Hy w) (HZ w) h9 h9 (ja (c7 w) h9) (ja (c9 w) (ja (cZ w) (ja (c6 w) (ja (cJ w) (ja (dy w) h9)))))
 ij:=.of (mg_of X G (IP w)) (Ib w) (Ii w) (Hh w) h9 h9 (ja (cJ w) h9) (ja (c9 w) (ja (c7 w) (ja (cZ w) (ja (c6 w) (ja (dy w) h9)))))
 j6:=.of (mg_of X G (IF w)) (H_ w) (Iw w) (IU w) h9 h9 (ja (dy w) h9) (ja (c9 w) (ja (c7 w) (ja (cZ w) (ja (c6 w) (ja (cJ w) h9)))))
 pH:=(ja ⟨c9 w,(Ih w)⟩ (ja ⟨c7 w,(IG w)⟩ h9))
 j2:=(vh.cons ⟨c9 w,62,iu, "self", "NoDial.word", (inClass (top 3) 1),_,_,_,.none,⟨(by kernel_rfl),(by kernel_rfl),(my w).kp⟩,sF w,my w,tW,rfl⟩ (vh.cons ⟨c7 w,178,iy, "self", "NoGear.word", (inClass (top 8) 1),_,_,_,.none,⟨(by kernel_rfl),(by kernel_rfl),(nh w).kp⟩,tq w,nh w,tY,rfl⟩ (vh.cons ⟨cZ w,88,hU, "self", "NoLever.word", (inClass (top 4) 1),_,_,_,.none,⟨(by kernel_rfl),(by kernel_rfl),(kW w).kp⟩,qN w,kW w,qJ,rfl⟩ (vh.cons ⟨c6 w,114,g8, "self", "NoPrice.word", (inClass (top 5) 1),_,_,_,.none,⟨(by kernel_rfl),(by kernel_rfl),(kR w).kp⟩,rM w,kR w,rh,rfl⟩ (vh.cons ⟨cJ w,133,fu, "self", "NoSetting.word", (inClass (top 6) 0),_,_,_,.none,⟨(by kernel_rfl),(by kernel_rfl),(jd w).kp⟩,oa w,jd w,nU,rfl⟩ (vh.cons ⟨dy w,152,hG, "self", "TooMany.word", (inClass (top 7) 0),_,_,_,.none,⟨(by kernel_rfl),(by kernel_rfl),(kO w).kp⟩,qG w,kO w,rQ,rfl⟩ vh.nil))))))
 Jq:=(ja ⟨c9 w,(by kernel_rfl)⟩ (ja ⟨c7 w,(by kernel_rfl)⟩ (ja ⟨cZ w,(by kernel_rfl)⟩ (ja ⟨c6 w,(by kernel_rfl)⟩ (ja ⟨cJ w,(by kernel_rfl)⟩ (ja ⟨dy w,(by kernel_rfl)⟩ h9))))))
 fz:=(Fy w)
 fL:=(F_ w)
 fQ:=(F3 w)
 fx:=(F9 w)
 eR:=(GA w)
 eK:=(GS w)
 dQ:=(Fw w)
 qq:=λC h=>by obtain rfl:=eq_of_beq h;exact⟨gD w,(F9 w)⟩
 nV:=λC h=>by obtain rfl:=eq_of_beq h;exact⟨j0 w,(Fy w)⟩
 nK:=λC h=>by obtain rfl:=eq_of_beq h;exact⟨gD w,(GA w)⟩
 me:=λC h=>by obtain rfl:=eq_of_beq h;exact⟨gD w,(GS w)⟩
 kC:=λC h=>by obtain rfl:=eq_of_beq h;exact⟨gD w,(Fw w)⟩
 pZ:=λC h=>by obtain rfl:=eq_of_beq h;exact⟨j0 w,(F_ w)⟩
 p7:=λC h=>by obtain rfl:=eq_of_beq h;exact⟨j0 w,(F3 w)⟩
theorem EJ{P:Program}{w:World}{mg:Str->Option Value}(X:UH (κ w) h)(G:h.Ns mainGlobals mg)(base:Heap):bj P w (κ w) mg base (cD P w) 10 440 tP ["_law_script"] (fE 1 o8):=by
 have T:=txt X G;have Lq:mK P w (κ w) mg base aY "NoDial" "dial" := ⟨⟨55,fR,["self", "dial"],(by kernel_rfl),(by kernel_rfl),tH,sS w⟩,c9 w,(by kernel_rfl),(by kernel_rfl),mg_of X G (by kernel_rfl)⟩
 have Lr:mK P w (κ w) mg base bh "NoGear" "dial" := ⟨⟨171,fY,["self", "dial"],(by kernel_rfl),(by kernel_rfl),tj,ud w⟩,c7 w,(by kernel_rfl),(by kernel_rfl),mg_of X G (by kernel_rfl)⟩
 have Lg:mK P w (κ w) mg base bP "NoLever" "lever" := ⟨⟨81,fj,["self", "lever"],(by kernel_rfl),(by kernel_rfl),rW,qK w⟩,cZ w,(by kernel_rfl),(by kernel_rfl),mg_of X G (by kernel_rfl)⟩
 have Lh:mK P w (κ w) mg base bL "NoPrice" "lever" := ⟨⟨107,fg,["self", "lever"],(by kernel_rfl),(by kernel_rfl),rC,rK w⟩,c6 w,(by kernel_rfl),(by kernel_rfl),mg_of X G (by kernel_rfl)⟩
 have Kk:=j5 P w base X G 190 189 En λD=>si D T;have Ki:=j5 P w base X G 195 194 En λD=>vT D T Kk;have Lo:=j5 P w base X G 202 201 En λD=>wx D T;have Ky:=j5 P w base X G 209 208 En λD=>mC D T Lo;have Ln:=j5 P w base X G 214 213 En λD=>vS D T;have K_:=j5 P w base X G 219 218 En λD=>r0 D T;have K1:=j5 P w base X G 224 223 En λD=>pS D T Ln K_;have Ke:=j5 P w base X G 279 278 BX λD=>pK D T Kk;have KP:=j5 P w base X G 286 285 BX λD=>nR D T Lq Ke;have Kz:=j5 P w base X G 293 292 BX λD=>l9 D T Ki Lg;have KR:=j5 P w base X G 300 299 BX λD=>nN D T Lh Ke;have LM:=j5 P w base X G 305 304 BX λD=>ye D T;have Ku:=j5 P w base X G 348 347 G5 λD=>kY D T Ki;have KQ:=j5 P w base X G 355 354 G5 λD=>nS D T Ku Lr;have KY:=j5 P w base X G 362 361 wd λD=>pJ D T;have J_:=j5 P w base X G 369 368 wd λD=>qT D T;have Kc:=j5 P w base X G 376 375 wd λD=>m9 D T;have KZ:=j5 P w base X G 383 382 wd λD=>pF D T;have KH:=j5 P w base X G 388 387 wd λD=>n5 D T Kc J_ KZ;have Kr:=j5 P w base X G 395 394 wd λD=>lq D T;have KJ:=j5 P w base X G 402 401 wd λD=>nO D T J_ Kr;have K9:=j5 P w base X G 407 406 wd λD=>rL D T;have Kt:=j5 P w base X G 421 420 wd λD=>lg D T;have Kh:=j5 P w base X G 428 427 wd λD=>jE D T;have KD:Cz P w (κ w) mg base aP 4 "Vault" 4 [.bz] cu:=⟨⟨237,gg,["self", "sizes", "levers", "prices"],[.none],[.bz],mg_of X G (by kernel_rfl),⟨(by kernel_rfl),(by kernel_rfl),(by kernel_rfl),(by kernel_rfl)⟩,pX w,(.cons rfl .nil),λ_=>(.cons .bz .nil),nG (jS w) T KP Kz LM KR Ky⟩⟩
 have Kb:=Jr P w base (gD w) 244 243 BX λD=>md D T;have Kd:Cz P w (κ w) mg base aQ 6 "Gear" 4 [] bW:=⟨⟨329,gE,["self", "front", "rear", "teeth"],[],[],mg_of X G (by kernel_rfl),⟨(by kernel_rfl),(by kernel_rfl),(by kernel_rfl),(by kernel_rfl)⟩,qV w,.nil,λ_=>.nil,pj (qH w) T KD KQ⟩⟩
 have KN:=j5 P w base X G 310 309 BX λD=>nX D T Kb Ki;have Kv:=j5 P w base X G 317 316 BX λD=>lr D T KN;have Kj:=Jr P w base (j0 w) 336 335 G5 λD=>qO D T Kv Kb K1;have K0:=j5 P w base X G 414 413 wd λD=>pN D T Kd Kj;have Ks:=j5 P w base X G 435 434 wd λD=>lu D T Kt Kh K0;exact DU (Gu w) T KY KH KJ Kd Kc J_ Kj K9 Ks
theorem Ja:uX (κ w)=true:=by kernel_rfl
theorem IV:nsIn (κ w) mainGlobals "law" = some (some (.ref 440)):=by kernel_rfl
end sy
open PySem PySem.W
theorem sy.hold(said:PySem.Challenge.rw_dialvault_k54_settings_led.wellSaid=true)(MG:∀ ns:List Int,ns.length<=63->(∀ i∈ns,RD i<=1048576)->sy.o8 [.iw (ns.map L2.PV.int)]=L2.M.ok (.bl true)):PySem.Challenge.rw_dialvault_k54_settings_led.Holds:=by
 refine holds_law said λsaid=>?_;refine holds_open (q:=HD.vw) (loose:=HD.loose) (Xt:=HD.Xt) (XP:=XL HD.vw []) (Yf:=Hook.obs HD.hook) (Ya:=Hook.val HD.hook) (YP:=Hook.says HD.hook) HD.FR (Hook.of HD.hook) (Hook.keeps HD.hook) (λs e=>xl_of s (OU.mp e).1) XL.keeps (by rfl) (by rfl) (by rfl) (λs e=>recFacts_of (OU.mp e).2) (by rfl) said (by decide +kernel) ⟨rfl,rfl,rfl,rfl,rfl,by decide +kernel⟩ ?hw ?hc
 case hw=>w_witness2
 refine L2.tJ (l:=PySem.Challenge.rw_dialvault_k54_settings_led) (n:=63) (k:=10) (x := "_law_script") (K:=HD.K) (sem:=sy.o8) rfl (by decide) rfl ⟨rfl,by decide,by decide⟩ (λw h Y=>PySem.W.kIn_of Y) (λw=>sy.Ja w) (λw mg fa h X G hmg=>?_) MG;have e:=hmg.symm.trans (UT X G (sy.IV w));cases e;exact⟨sy.tP,λs v=>.of_eq rfl,λbase X' G'=>sy.EJ X' G' base⟩
namespace Eu
theorem pb(a b:Int)(hb:b≠0):(a-a.fdiv b*b).natAbs<b.natAbs/\0<=(a-a.fdiv b*b)*b/\(0<=a*b->a.natAbs=(a.fdiv b).natAbs*b.natAbs+(a-a.fdiv b*b).natAbs):=by
 have pos:∀ (a b:Int),0<b->(a-a/b*b).natAbs<b.natAbs/\0<=(a-a/b*b)*b/\(0<=a*b->a.natAbs=(a/b).natAbs*b.natAbs+(a-a/b*b).natAbs):=by
  intro a b hb;have e:a-a/b*b=a%b:=by
   have h:=SI a b;rw[Sv] at h;lia
  have h0:=Ot a (by lia:b≠0);have h1:=Od a hb;rw[e];refine⟨by lia,UN h0 (by lia),λhab=>?_⟩;have ha:0<=a:=by
   rcases Int.lt_or_le a 0 with h | h
   .have:=Int.mul_neg_of_neg_of_pos h hb;lia
   .exact h
  have hq:0<=a/b:=UI ha (by lia);have h2:=SI a b;have h3:((a/b).natAbs*b.natAbs:Nat)=(b*(a/b)).natAbs:=by
   rw[P0,Qq]
  rw[h3];have h4:0<=b*(a/b):=UN (by lia) hq;lia
 rcases Int.lt_or_le 0 b with h | h
 .rw[Ql a (by lia)];exact pos a b h
 .have h':0 < -b:=by lia
  have e:a.fdiv b=(-a)/(-b):=by
   rw[<- Ql (-a) (by lia:0<=-b),Int.neg_fdiv_neg]
  obtain⟨p1,p2,p3⟩:=pos (-a) (-b) h';have e2:-a-(-a)/(-b)*(-b)=-(a-a.fdiv b*b):=by
   rw[<- e,Int.mul_neg];lia
  rw[e2] at p1 p2 p3;rw[<- e] at p3;simp only[SY,Int.neg_mul_neg] at p1 p2 p3;exact⟨p1,p2,p3⟩
structure St (a b:Int) (r s t r' s' t':Int):Prop where
 c0:r=s*a+t*b
 c1:r'=s'*a+t'*b
 dv:∀ d:Int,d∣r->d∣r'->d∣a/\d∣b
 bd:s'.natAbs*r.natAbs+s.natAbs*r'.natAbs<=b.natAbs
 sg:s'=0\/0<=r*r'
 b0:s.natAbs<=b.natAbs+1
 b1:s'.natAbs<=b.natAbs+1
 d0:t.natAbs<=a.natAbs+(b.natAbs+1)*a.natAbs+b.natAbs+1
 d1:t'.natAbs<=a.natAbs+(b.natAbs+1)*a.natAbs+b.natAbs+1
 m0:r.natAbs<=a.natAbs+b.natAbs
 m1:r'.natAbs<=b.natAbs
theorem start(a b:Int):St a b a 1 0 b 0 1 where
 c0:=by lia
 c1:=by lia
 dv:=λd h1 h2=>⟨h1,h2⟩
 bd:=by simp
 sg:=.inl rfl
 b0:=by lia
 b1:=by lia
 d0:=by simp
 d1:=by lia
 m0:=by lia
 m1:=by lia
theorem turn{a b r s t r' s' t':Int}(h:St a b r s t r' s' t')(h0:r'≠0) :
  St a b r' s' t' (r-r.fdiv r'*r') (s-r.fdiv r'*s') (t-r.fdiv r'*t')/\(r-r.fdiv r'*r').natAbs<r'.natAbs:=by
 obtain⟨f1,f2,f3⟩:=pb r r' h0;generalize hq:r.fdiv r'=q at *;have hb:b≠0:=by
  intro z;have:=h.m1;lia
 have Nb:1<=r'.natAbs:=by lia
 have c1':r-q*r'=(s-q*s')*a+(t-q*t')*b:=by
  rw[h.c0,h.c1,Uz,Uz,Rl,Ph,Ph];lia
 have bd':(s-q*s').natAbs*r'.natAbs+s'.natAbs*(r-q*r').natAbs<=b.natAbs:=by
  have G6:(s-q*s').natAbs<=s.natAbs+q.natAbs*s'.natAbs:=by
   rw[<- P0];lia
  have hbd:=h.bd;rcases h.sg with z | z
  .subst z;simp only[Int.mul_zero,Int.sub_zero,Int.natAbs_zero,Nat.zero_mul,Nat.zero_add,Nat.add_zero] at hbd ⊢;exact hbd
  .have e:=f3 z;have k1:(s-q*s').natAbs*r'.natAbs<=(s.natAbs+q.natAbs*s'.natAbs)*r'.natAbs:=Rm _ G6;have k2:(s.natAbs+q.natAbs*s'.natAbs)*r'.natAbs+s'.natAbs*(r-q*r').natAbs=s'.natAbs*r.natAbs+s.natAbs*r'.natAbs:=by
    rw[e,Nat.add_mul,Nat.mul_add,Qq q.natAbs s'.natAbs,QC];lia
   lia
 have b1':(s-q*s').natAbs<=b.natAbs:=by
  have:(s-q*s').natAbs*1<=(s-q*s').natAbs*r'.natAbs:=PR _ Nb;lia
 have mm:(r-q*r').natAbs<=b.natAbs:=by
  have:=h.m1;lia
 have d1':(t-q*t').natAbs<=a.natAbs+(b.natAbs+1)*a.natAbs+b.natAbs+1:=by
  have e:(t-q*t')*b=(r-q*r')-(s-q*s')*a:=by lia
  have e1:((t-q*t')*b).natAbs<=(r-q*r').natAbs+((s-q*s')*a).natAbs:=by lia
  rw[P0,P0] at e1;have k1:(t-q*t').natAbs*1<=(t-q*t').natAbs*b.natAbs:=PR _ (by lia);have k2:(s-q*s').natAbs*a.natAbs<=(b.natAbs+1)*a.natAbs:=Rm _ (by lia);lia
 refine⟨⟨h.c1,c1',λd e1 e2=>?_,bd',?_,h.b1,by lia,h.d1,d1',?_,mm⟩,f1⟩
 .refine h.dv d ?_ e1;have e3:d∣q*r':=R6 e1 (Si _ _);have e4:=S0 e2 e3
  rwa [Int.sub_add_cancel] at e4
 .exact .inr (by rw[Sv];exact f2)
 .have:=h.m1;lia
theorem done{a b r s t s' t':Int}(h:St a b r s t 0 s' t'):r∣a/\r∣b:=h.dv r (Int.dvd_refl r) (Int.dvd_zero r)
end Eu
namespace Lc
def Gq(ns:List Nat):Nat:=ns.foldl Sw 1
theorem zz(m n:Nat):m/O_ m n*n=Sw m n:=by
 unfold Sw;rw[Nat.div_mul_right_comm (Us m n)]
end Lc
namespace Rg
abbrev nA:=Nat->Int
def JZ(s:nA)(D:Nat->nA)(d:Nat):Int:=if D d d=0 then s d else D d d
variable{D:Nat->nA}{s:nA}{n:Nat}
section
variable{D' L:Nat->nA}{u v g:Nat->Int}
end
variable{W:Nat->nA}
section
variable{D':Nat->nA}
variable{f:Nat}
end
def gy:Nat->(Nat->Int)->Int
 | 0,_=>0
 | m+1,f=>gy m f+f m
theorem lZ(a b:Int)(f g h:Nat->Int):∀ m,(∀ l,l<m->h l=a*f l+b*g l)->gy m h=a*gy m f+b*gy m g
 | 0,_=>by simp[gy]
 | m+1,e=>by
  rw[gy,gy,gy,lZ a b f g h m λl hl=>e l (by lia),e m (by lia)];grind
theorem lQ{f g:Nat->Int}:∀ {m:Nat},(∀ l,l<m->f l=g l)->gy m f=gy m g
 | 0,_=>rfl
 | m+1,e=>by rw[gy,gy,lQ λl hl=>e l (by lia),e m (by lia)]
def vf(xs:List Int):nA:=λi=>xs.getD i 0
variable{i:Nat}{xs:List Int}
theorem bC(h:i<xs.length):vf xs i=xs[i]:=by
 unfold vf;rw[NR,Nt h];rfl
theorem DJ(h:xs.length<=i):vf xs i=0:=by
 unfold vf;rw[NR,SJ h];rfl
def GN(xs:List Int)(a:Int)(ys:List Int)(b:Int):List Int:=(xs.zip ys).map λz=>a*z.1+b*z.2
def HM(xs J1:List Int):List Int:=(xs.zip J1).map λz=>z.1%z.2
theorem Di{ys:List Int}(hl:xs.length=ys.length)(h:∀ i,i<xs.length->vf xs i=vf ys i):xs=ys:=by
 refine Ut hl λi h1 h2=>?_;have:=h i h1
 rwa [bC h1,bC h2] at this
theorem EA(n:Nat)(i:Nat):vf (Nv n 0) i=0:=by
 rcases Sx i n with h | h
 .rw[bC (by simpa using h)];simp
 .rw[DJ (by simpa using h)]
def Bd(B:Nat)(xs:List Int):Prop:=∀ x∈xs,x.natAbs<2^B
abbrev Row:=List Int×List Int
def row(rows:List Row)(d:Nat):Row:=rows.getD d ([],[])
def DD(rows:List Row):Nat->nA:=λd=>vf (row rows d).1
def JI(J1:List Int)(r:Row)(a:Int)(q:Row)(b:Int):Row:=(HM (GN r.1 a q.1 b) J1,GN r.2 a q.2 b)
variable{m:Nat}{left:Row}{rows:List Row}{J1:List Int}{c:Int->Int->Int×Int}
section
variable{k:Nat}{A:Nat->nA}
end
section
variable{k:Nat}{A:Nat->nA}{idle:List (List Int)}{P:List Int}
end
section
variable{k:Nat}{A:Nat->nA}
end
def AA(Ls:List (List Int)):Nat->nA:=λl=>vf (Ls.getD l [])
section
variable{Ls:List (List Int)}{k:Nat}
end
theorem vH{a b:Int}(h:b∣a)(h1:-b<a)(h2:a<b):a=0:=by
 obtain⟨c,rfl⟩:=h;rcases Int.lt_trichotomy c 0 with q | q | q
 .have:b*c<=b*(-1):=Rn (by lia) (by lia);lia
 .rw[q,Int.mul_zero]
 .have:b*1<=b*c:=Rn (by lia) (by lia);lia
variable{Q:Int}
section
variable{D:Nat->nA}{w v u:nA}
theorem rE{f:Nat->Int}{q:Int}:∀ {m:Nat},(∀ l,l<m->q∣f l)->q∣gy m f
 | 0,_=>Int.dvd_zero _
 | m+1,h=>S0 (rE λl hl=>h l (by lia)) (h m (by lia))
end
end Rg
namespace sy
open PySem L2 PyProof.Rows Rg
local macro_rules | `(tactic| dsimp? [$ts,*])=>`(tactic| simp only[cI,bX,ba,jx,aw,qP,qL,retS,cq,k9,jA,kF,ay,M.aT,M.bind_some,M.bind_none,M.xR,M.bind_assoc,ah,ai,aj,aa,ao,BR,Aw,EH,DE,D4,Ea,Eg,EV,EL,D0,Fe,D9,CO,Es,EK,Dk,eO,lj,Ds,Ez,BH,Bu,JM,Hz,kD,F2,jr,A3,itemsOf,lJ,Ad,BW,wC,Ay,BO,xU,x8,xp,Bh,AQ,xh,yn,wL,dz,cG,FG,Dx,List.length_cons,List.length_nil,List.map_cons,List.map_nil,List.cons_append,List.nil_append,List.replicate,List.getElem?_cons_zero,List.getElem?_cons_succ,List.getElem?_nil,List.set_cons_zero,List.set_cons_succ,List.set_nil,Nat.reduceAdd,Nat.reduceSub,if_true,if_false,Bool.not_true,Bool.not_false,Bool.false_eq_true,ite_true,ite_false,reduceIte,reduceCtorEq,Nat.sub_self,jl,cM,dn,Option.map_some,Option.map_none,qA,Dr,EG,BG,AW,A0,E1,AV,Ah,A8,nJ,List.any_cons,List.any_nil,String.reduceBEq,Bool.or_false,Bool.or_true,Bool.true_or,Bool.false_or,Bool.and_true,Bool.and_false,Bool.true_and,Bool.false_and,BU,Ax,Dt,D_,BA,Ba,AS,By,yZ,xN,jy,ly,List.foldl_cons,List.foldl_nil,lX,au trivial,$(⟨ts.elemsAndSeps⟩),*])
theorem gB(i:Int):cW [.int i]=M.ok (.bl true):=by rfl
theorem xJ(b:Bool):cW [.bl b]=M.ok (.bl false):=by rfl
theorem vo:cW [.bz]=M.ok (.bl false):=by rfl
variable{p:PV}{α:Type}
theorem lA{inj:α->PV}{h:α->Bool}(xs:List α)(n:Int)(hp:p=.tup (xs.map inj)\/p=.lst (xs.map inj))(H:∀ a∈xs,cW [inj a]=M.ok (.bl (h a)))(hz:xs.length<=sizeLine):bB [p,.int n]=M.ok (.bl (decide ((xs.length:Int)=n)&&xs.all h)):=by
 have key:cb (e6 0) none (aj cW (aa (ah 0) ao)) (xs.map inj) [none]=M.ok (xs.map λa=>.bl (h a)):=je xs λa ha=>by dsimp? [H a ha]
 have key2:qx [.lst (xs.map λa=>.bl (h a))]=M.ok (.bl (xs.all h)):=by
  have:=qD (xs.map h);rw[ON] at this;rw[show (λa=>PV.bl (h a))=PV.bl∘h from rfl,this];simp[U3]
 unfold bB dY;rcases hp with rfl | rfl
 all_goals
  dsimp? [Nu]
  by_cases e:(xs.length:Int)=n
  .simp only[e,decide_true,UU,M.aT,RT,if_false,qP,UW];dsimp? [Nu,au hz,key,key2]
  .simp only[e,decide_false,UO,M.aT,if_true,qL,SM];dsimp? []
theorem yp(xs:List Int)(n:Int)(hz:xs.length<=sizeLine):bB [tI xs,.int n]=M.ok (.bl (decide ((xs.length:Int)=n))):=by
 exact(lA (p:=tI xs) (h:=λ_=>true) xs n (.inl rfl) (λa _=>gB a) hz).trans (by rw[Oh.mpr λ_ _=>rfl,UX])
theorem l7(xs:List Int)(n:Int)(hz:xs.length<=sizeLine):bB [lI xs,.int n]=M.ok (.bl (decide ((xs.length:Int)=n))):=by
 exact(lA (p:=lI xs) (h:=λ_=>true) xs n (.inr rfl) (λa _=>gB a) hz).trans (by rw[Oh.mpr λ_ _=>rfl,UX])
theorem Ga{f:List Int->PV}(hf:f=tI\/f=lI)(xs:List Int)(n:Int)(hz:xs.length<=sizeLine):bB [f xs,.int n]=M.ok (.bl (decide ((xs.length:Int)=n))):=by
 rcases hf with rfl | rfl
 .exact yp xs n hz
 .exact l7 xs n hz
theorem Cw{f:List Int->PV}(hf:f=tI\/f=lI)(xs:List Int):aW (f xs)=some (xs.map PV.int):=by rcases hf with rfl | rfl <;> rfl
theorem within_int(x a b:Int):eL [.int x,.int a,.int b]=M.ok (.bl (decide (a<=x/\x<=b))):=by
 unfold eL eJ;dsimp? [gB]
 by_cases h:a<=x
 .simp only[h,decide_true,if_true,true_and];dsimp? []
 .simp only[h,decide_false,false_and];dsimp? []
theorem aJ{xs:List PV}(h:aW p=some xs):nW p=M.ok (.int xs.length):=by
 cases p <;> first | (cases h;rfl) | cases h
theorem nF(xs:List Int)(hp:aW p=some (xs.map PV.int))(h1:1<=xs.length)(h6:xs.length<=6)(hx:∀ x∈xs,2<=x/\x<=360):aV [p]=M.ok .bz:=by
 unfold aV cF;have a1:¬ (6:Int)<xs.length:=by lia
 have a2:¬ (xs.length:Int)=0:=by lia
 dsimp? [a1,a2,decide_false,aJ hp,Nu,jT xs hp];refine ko xs.zipIdx (λzs env=>(∃ b c,env=[some (.sh p),b,c])/\∀ z∈zs,2<=z.1/\z.1<=360) ⟨⟨_,_,rfl⟩,λz hz=>hx z.1 (OZ hz)⟩ ?_ ?_
 .rintro⟨a,i⟩ r env ⟨⟨b,c,rfl⟩,hz⟩;have ha:=hz (a,i) NU;refine⟨_,[some (.sh p),some (.sh (.int i)),some (.sh (.int a))],rfl,?_,⟨_,_,rfl⟩,λz Mj=>hz z (NH _ Mj)⟩;dsimp? [within_int,ha,and_self,decide_true]
 .rintro J2 ⟨⟨b,c,rfl⟩,_⟩;rfl
theorem lN{f:List Int->PV}(hf:f=tI\/f=lI)(n:Nat)(xs:List (List Int))(h8:xs.length<=8)(hx:∀ x∈xs,x.length=n)(hn:n<=100):el [.lst (xs.map f),.int n]=M.ok .bz:=by
 unfold el eD;have a1:¬ (8:Int)<xs.length:=by lia
 dsimp? [a1,decide_false,Nu,BE];refine ko xs.zipIdx (λzs env=>(∃ b c,env=[some (.sh (.lst (xs.map f))),some (.sh (.int n)),b,c])/\∀ z∈zs,z.1.length=n) ⟨⟨_,_,rfl⟩,λz hz=>hx z.1 (OZ hz)⟩ ?_ ?_
 .rintro⟨a,i⟩ r env ⟨⟨b,c,rfl⟩,hz⟩;have ha:a.length=n:=hz (a,i) NU;refine⟨_,[some (.sh (.lst (xs.map f))),some (.sh (.int n)),some (.sh (.int i)),some (.sh (f a))],rfl,?_,⟨_,_,rfl⟩,λz Mj=>hz z (NH _ Mj)⟩;dsimp? [Ga hf a n (aH (by lia)),ha,decide_true]
 .rintro J2 ⟨⟨b,c,rfl⟩,_⟩;rfl
theorem q0(n:Nat)(p:PV):(Nv n [p]).flatten=Nv n p:=by
 induction n with
 | zero=>rfl
 | succ n ih=>rw[Oo,OX,ih];rfl
theorem mul_one(p:PV)(n:Nat)(h8:n<=1000):bH (.tup [p]) (.int (n:Int))=M.ok (.tup (Nv n p)):=by
 have h2:[p].length*(n:Int).toNat<=sizeLine:=by
  rw[Ox];exact aH (by show 1*n<=1000;lia)
 have h3:(n:Int)<2^63:=Tv (Ub.mpr h8) (by decide);have h4:-(2^63)<=(n:Int):=Int.le_trans (by decide) (Tw n);rw[bH,au ⟨rfl,h4,h3,h2⟩,Ox,q0]
theorem iK(xs:List PV)(h8:xs.length<=8):eU [.lst xs,.bz]=M.ok (tI (Nv xs.length 1)):=by
 unfold eU e9;dsimp? [zq,uz,mul_one (.int 1) xs.length (by lia)];rw[tI,P8]
def FW(xs J1:List Int):List Int:=(xs.zip J1).map λz=>z.1%z.2
theorem xg(p q:PV)(xs J1:List Int)(hp:aW p=some (xs.map PV.int))(hq:aW q=some (J1.map PV.int))(hs:∀ s∈J1,0<s)(hz:xs.length<=1000):jP [p,q]=M.ok (tI (FW xs J1)):=by
 have key:cb (bM 0 1) none (ai bT (ah 0) (ah 1)) ((xs.zip J1).map λz=>.tup [.int z.1,.int z.2]) [none,none]=M.ok ((xs.zip J1).map λz=>.int (z.1%z.2)):=by
  refine iz (p:=λz:Int×Int=>PV.int z.1) (q:=λz:Int×Int=>PV.int z.2) (xs.zip J1) λz hz=>?_;have:=hs z.2 (O1 (a:=z.1) (b:=z.2) hz).2;dsimp? [aA this]
 unfold jP lH;have hl:(xs.zip J1).length<=sizeLine:=by rw[OO];exact aH (NZ (UJ _ _) hz)
 dsimp? [gv xs J1 hp hq,Nu,au hl,key];rw[tI,FW,ON];rfl
theorem vZ(a b c:PV):bo (.tup [a,b,c]) (.int 0)=M.ok a:=br (j:=0) rfl rfl
theorem Fu(a b c:PV):bo (.tup [a,b,c]) (.int 1)=M.ok b:=br (j:=1) rfl rfl
theorem Gf(a b c:PV):bo (.tup [a,b,c]) (.int 2)=M.ok c:=br (j:=2) rfl rfl
theorem vD(a b:Int)(ha:a.natAbs<2^60)(hb:b.natAbs<2^60):∃ s t,iC [.int a,.int b]=M.ok (.tup [.int (Pu a b),.int s,.int t])/\s*a+t*b=Pu a b/\s.natAbs<=b.natAbs+1/\t.natAbs<=a.natAbs+(b.natAbs+1)*a.natAbs+b.natAbs+1:=by
 let J:ae->Prop:=λenv=>∃ r s t r' s' t' x y,env=[some (.sh (.int a)),some (.sh (.int b)),some (.sh ((PV.tup [PV.int r,PV.int s,PV.int t]))),some (.sh ((PV.tup [PV.int r',PV.int s',PV.int t']))),x,y]/\Eu.St a b r s t r' s' t'
 let m:ae->Nat:=λenv=>match env with
  | [_,_,_,some (.sh (.tup [.int r,_,_])),_,_]=>r.natAbs
  | _=>0
 have hk:(b.natAbs+1)*a.natAbs<=2^60*2^60:=QZ (by lia) (by lia);have hk2:(2:Nat)^60*2^60=2^120:=by decide
 have start:J [some (.sh (.int a)),some (.sh (.int b)),some (.sh ((PV.tup [PV.int a,PV.int 1,PV.int 0]))),some (.sh ((PV.tup [PV.int b,PV.int 0,PV.int 1]))),none,none]:=⟨_,_,_,_,_,_,_,_,rfl,Eu.start a b⟩
 have loop:=oI (u:=eO (ai pG (ai bo (ah 3) (λ_=>M.ok (.int 0))) (λ_=>M.ok (.int 0)))) (b:=(aw (cq 4 (ai cN (ai bo (ah 2) (λ_=>M.ok (.int 0))) (ai bo (ah 3) (λ_=>M.ok (.int 0)))))
  (aw (cq 5 (cR (aa (ai k_ (ai bo (ah 2) (λ_=>M.ok (.int 0))) (ai bH (ah 4) (ai bo (ah 3) (λ_=>M.ok (.int 0))))) (aa (ai k_ (ai bo (ah 2) (λ_=>M.ok (.int 1))) (ai bH (ah 4) (ai bo (ah 3) (λ_=>M.ok (.int 1))))) (aa (ai k_ (ai bo (ah 2) (λ_=>M.ok (.int 2))) (ai bH (ah 4) (ai bo (ah 3) (λ_=>M.ok (.int 2))))) ao)))))
  (aw (cq 2 (ah 3))
  (aw (cq 3 (ah 5))
  ay))))) J m ?_ _ start
 .obtain⟨J2,e1,⟨r,s,t,r',s',t',x,y,rfl,st⟩,e2⟩:=loop;have Nb:r'=0:=by
   revert e2;dsimp? [vZ];intro e2;have:(!decide (r'=0))=false:=by injection e2 with e2;injection e2
   simpa using this
  subst Nb;obtain⟨d1,d2⟩:=Eu.done st;have hg:(r.natAbs:Int)=Pu a b:=by
   have h1:r.natAbs∣Pu a b:=Int.dvd_gcd (UP.mpr d1) (UP.mpr d2);have h2:((Pu a b:Nat):Int)∣r:=by
    rw[st.c0];exact S0 (R6 (Uu ..) (Si _ _)) (R6 (Int.gcd_dvd_right ..) (Si _ _))
   have h3:Pu a b∣r.natAbs:=Int.ofNat_dvd_left.mp h2;rw[Nat.dvd_antisymm h1 h3]
  unfold iC jD;dsimp? [];rw[e1];dsimp? [vZ,Fu,Gf]
  by_cases hneg:r<0
  .refine⟨-s,-t,?_,?_,by rw[SY];exact st.b0,by rw[SY];exact st.d0⟩
   .simp only[hneg,decide_true,if_true];dsimp? [];rw[show -r=(Pu a b:Int) by lia]
   .have:=st.c0;rw[Int.neg_mul,Int.neg_mul];lia
  .refine⟨s,t,?_,?_,st.b0,st.d0⟩
   .simp only[hneg,decide_false,RT,if_false];dsimp? [];rw[show r=(Pu a b:Int) by lia]
   .have:=st.c0;lia
 .rintro env ⟨r,s,t,r',s',t',x,y,rfl,st⟩
  by_cases h0:r'=0
  .refine .inl ?_;dsimp? [vZ];simp[h0]
  .refine .inr ⟨?_,?_⟩
   .dsimp? [vZ];simp[h0]
   .obtain⟨LS,lt⟩:=Eu.turn st h0;have b1:=st.m1;have b0:=st.m0;have c1:=st.b1;have c2:=st.d1;have c3:=LS.m1;have q1:(r.fdiv r').natAbs<=r.natAbs+1:=by
     obtain⟨f1,f2,f3⟩:=Eu.pb r r' h0;generalize r.fdiv r'=q at *;have e:q*r'=r-(r-q*r'):=by lia
     have e2:(q*r').natAbs<=r.natAbs+(r-q*r').natAbs:=by lia
     rw[P0] at e2;have:q.natAbs*1<=q.natAbs*r'.natAbs:=PR _ (by lia);rcases Sx (r.natAbs+1) q.natAbs with h | h
     .have h5:(r.natAbs+2)*r'.natAbs<=q.natAbs*r'.natAbs:=Rm _ (by lia);have h6:r.natAbs*1<=r.natAbs*r'.natAbs:=PR _ (by lia);rw[Nat.add_mul] at h5;lia
     .exact h
    have q2:(r.fdiv r').natAbs<2^200:=by lia
    refine⟨[some (.sh (.int a)),some (.sh (.int b)),some (.sh ((PV.tup [PV.int r',PV.int s',PV.int t']))),some (.sh ((PV.tup [PV.int (r-r.fdiv r'*r'),PV.int (s-r.fdiv r'*s'),PV.int (t-r.fdiv r'*t')]))),some (.sh (.int (r.fdiv r'))),some (.sh ((PV.tup [PV.int (r-r.fdiv r'*r'),PV.int (s-r.fdiv r'*s'),PV.int (t-r.fdiv r'*t')])))],?_,⟨_,_,_,_,_,_,_,_,rfl,LS⟩,lt⟩;dsimp? [vZ,Fu,Gf,oE h0 (NG (show r'.natAbs<2^200 by lia) (Rk (by decide) (by decide))),bu (k:=200) (l:=200) q2 (show r'.natAbs<2^200 by lia),bu (k:=200) (l:=200) q2 (show s'.natAbs<2^200 by lia),bu (k:=200) (l:=200) q2 (show t'.natAbs<2^200 by lia)]
def R(J1:List Int):Int:=(Lc.Gq (J1.map UZ):Nat)
structure Sz (J1:List Int):Prop where
 h1:1<=J1.length
 h6:J1.length<=6
 hx:∀ x∈J1,2<=x/\x<=360
structure Acc (J1 r:List Int) (acc:Nat):Prop where
 pos:0<acc
 le:acc<=2^(9*(6-r.length))
 len:r.length<=6
 val:(r.map UZ).foldl Sw acc=Lc.Gq (J1.map UZ)
 w_:∀ x∈r,2<=x/\x<=360
variable{J1:List Int}
theorem Acc.start(h:Sz J1):Acc J1 J1 1:=⟨by decide,Nat.one_le_two_pow,h.h6,rfl,h.hx⟩
variable{acc:Nat}{r:List Int}
theorem Acc.lt(h:Acc J1 r acc):acc<2^60:=by
 have h2:(2:Nat)^(9*(6-r.length))<=2^54:=Rk (by decide) (by lia);have:=h.le;lia
theorem Acc.turn{x:Int}(h:Acc J1 (x::r) acc):Acc J1 r (Sw acc x.toNat)/\(acc:Int)/(Pu acc x:Nat)*x=(Sw acc x.toNat:Nat)/\(acc:Int)/(Pu acc x:Nat)<=acc/\0<Pu acc x:=by
 have hx:=h.w_ x NU;have hp:=h.pos;obtain⟨n,rfl⟩:=Ow (show 0<=x by lia);have hg:Pu (acc:Int) (n:Int)=O_ acc n:=rfl;refine⟨⟨Nat.lcm_pos hp (by lia),?_,?_,h.val,λy hy=>h.w_ y (NH _ hy)⟩,?_,?_,?_⟩
 .have h1:Sw acc n<=acc*n:=UY (Nat.mul_pos hp (by lia)) (Nat.lcm_dvd (R4 ..) (Nat.dvd_mul_left ..));have h2:acc*n<=2^(9*(6-(r.length+1)))*2^9:=QZ h.le (by lia);have hl:r.length+1<=6:=h.len;rw[<- Nat.pow_add,show 9*(6-(r.length+1))+9=9*(6-r.length) by lia] at h2;exact NZ h1 h2
 .have hl:r.length+1<=6:=h.len;lia
 .rw[hg,Ox,<- Lc.zz];norm_cast
 .rw[hg];exact Ub.mpr (UK acc (O_ acc n))
 .rw[hg];exact Nat.gcd_pos_of_pos_left _ hp
theorem fO(J1:List Int)(hp:aW p=some (J1.map PV.int))(h:Sz J1):eE [p]=M.ok (.int (R J1)):=by
 unfold eE eG;dsimp? [hp];refine ko J1 (λr env=>∃ acc x,env=[some (.sh p),some (.sh (.int (acc:Nat))),x]/\Acc J1 r acc) ⟨1,_,rfl,.start h⟩ ?_ ?_
 .rintro a r env ⟨acc,x,rfl,A⟩;obtain⟨A2,e1,e2,e3⟩:=A.turn;have l1:=A.lt;have ha:=A.w_ a NU;obtain⟨s,t,ec,_,_,_⟩:=vD (acc:Int) a (by lia) (by lia);have g1:Pu acc a<=acc:=UY A.pos (Int.ofNat_dvd.mp (Uu ..));have d0:0<=(acc:Int)/(Pu acc a:Nat):=UI (by lia) (by lia);refine⟨_,[some (.sh p),some (.sh (.int (Sw acc a.toNat:Nat))),some (.sh (.int a))],rfl,?_,_,_,rfl,A2⟩;dsimp? [ec,vZ,bq (i:=(acc:Int)) (show (0:Int)<(Pu acc a:Nat) by lia) (show ((Pu acc a:Nat):Int)<2^64 by lia),bu (k:=64) (l:=64) (show ((acc:Int)/(Pu acc a:Nat)).natAbs<2^64 by lia) (show a.natAbs<2^64 by lia),e1]
 .rintro J2 ⟨acc,x,rfl,A⟩;dsimp? [];have:=A.val;rw[R,<- this];rfl
def qZ(J1:List Int)(levers:List (List Int)):List (Str×PV):=[("dial_sizes", tI J1),("lever_settings", .tup (levers.map tI)),("lever_prices", tI (Nv levers.length 1)),("least_round", .int (R J1))]
def la(J1:List Int)(levers:List (List Int)):PV:=.obj aP (qZ J1 levers)
structure G1 (J1 xs:List Int):Prop where
 len:xs.length=J1.length
 w_:∀ z∈xs.zip J1,0<=z.1/\z.1<z.2
theorem rn(f:Str)(p:PV):∀ fs:List (Str×PV),(pz f p fs).length<=fs.length+1
 | []=>by simp[pz]
 | (g,q)::r=>by
  have:=rn f p r;unfold pz
  split
  .simp
  .simp;lia
variable{n:Nat}
theorem gj{f:Str}{fs:List (Str×PV)}(h:fs.length<=n):(pz f p fs).length<=n+1:=NZ (rn f p fs) (by lia)
theorem eA(a C:Addr)(f:Str)(p:PV)(fs:List (Str×PV))(r:ae)(h:fs.length<1000):yL 0 C f p (some (.bd a C fs)::r)=M.ok (.nx (some (.bd a C (pz f p fs))::r)):=by
 show cp _ _=_;rw[au ⟨rfl,h⟩];rfl
theorem jU{f:List Int->PV}(hf:f=tI\/f=lI)(J1:List Int)(levers:List (List Int))(hp:aW p=some (J1.map PV.int))(h:Sz J1)(h8:levers.length<=8)(hl:∀ l∈levers,l.length=J1.length):bZ aP cu [.bz] [p,.lst (levers.map f)]=M.ok (la J1 (levers.map λl=>FW l J1)):=by
 have key:∀ a,cu a ([p,.lst (levers.map f)]++[.bz])=M.ok (qZ J1 (levers.map λl=>FW l J1)):=by
  intro a;have e1:cb (e6 0) none (aj jP (aa (ah 0) (aa (ah 1) ao))) (levers.map f) [none,some (.sh p)]=M.ok (levers.map λl=>tI (FW l J1)):=by
   refine je levers λl hm=>?_;have hs:=hl l hm;have:=xg (f l) p l J1 (Cw hf l) hp (λs hs=>by have:=h.hx s hs;lia) (by rw[hs];have:=h.h6;lia);dsimp? [this]
  unfold cu e8;simp only[ku];rw[au (show ([p,PV.lst (levers.map f)]++[PV.bz]).length+1=4 from rfl)];simp only[nM,nQ];dsimp? [hp,aJ hp,nF J1 hp h.h1 h.h6 h.hx,lN hf J1.length levers h8 hl (by have:=h.h6;lia),f9,hp,aJ hp,Nu,au (aH (show levers.length<=1000 by lia)),e1,iK _ (show (levers.map f).length<=8 by rw[Nu];exact h8),fO J1 hp h];rw[eA _ _ _ _ _ _ (by simp)];dsimp? [f9,hp,aJ hp,Nu,au (aH (show levers.length<=1000 by lia)),e1,iK _ (show (levers.map f).length<=8 by rw[Nu];exact h8),fO J1 hp h];rw[eA _ _ _ _ _ _ (OC (gj (Om 0)) (by decide))];dsimp? [f9,hp,aJ hp,Nu,au (aH (show levers.length<=1000 by lia)),e1,iK _ (show (levers.map f).length<=8 by rw[Nu];exact h8),fO J1 hp h];rw[eA _ _ _ _ _ _ (OC (gj (gj (Om 0))) (by decide))];dsimp? [f9,hp,aJ hp,Nu,au (aH (show levers.length<=1000 by lia)),e1,iK _ (show (levers.map f).length<=8 by rw[Nu];exact h8),fO J1 hp h];rw[eA _ _ _ _ _ _ (OC (gj (gj (gj (Om 0)))) (by decide))];dsimp? [];show cp _ _=_;rw[au ⟨rfl,rfl⟩];rw[qZ,ON,Nu];rfl
 unfold bZ;rw[kG key];rfl
theorem xF(J1:List Int)(levers:List (List Int)):(qZ J1 levers).lookup (NF "dial_sizes")=some (tI J1):=rfl
theorem GG(J1:List Int)(levers:List (List Int)):(qZ J1 levers).lookup (NF "sizes")=none:=rfl
theorem rB(J1:List Int)(levers:List (List Int)):cn [la J1 levers]=M.ok (tI J1):=by
 unfold cn dj;dsimp? [rX,la,beq_self_eq_true,xF]
variable{levers:List (List Int)}
theorem BY{g:ae->M PV}{env:ae}(h:g env=M.ok (la J1 levers)):dF aP "sizes" cn g ao env=M.ok (tI J1):=by
 have:=rB J1 levers;rw[dF,h,M.aT];show cp _ (M.bind (ao env) _)=_;rw[au ⟨rfl,GG J1 levers⟩];exact this
def uo(J1 xs:List Int):Bool:=decide ((xs.length:Int)=J1.length)&&(xs.zip J1).all λz=>decide (0<=z.1/\z.1<z.2)
variable{xs:List Int}
theorem p5:uo J1 xs=true ↔ G1 J1 xs:=by
 unfold uo;constructor
 .intro h;simp only[Ou,decide_eq_true_eq,Oh] at h;exact⟨by lia,h.2⟩
 .intro h;simp only[Ou,decide_eq_true_eq,Oh];exact⟨by rw[h.len],h.w_⟩
theorem yG(x s:Int):∀ env:ae,env=[some (.sh (.int x)),some (.sh (.int s))]->jr AB B1 (λ_=>M.ok (.int 0)) (ah 0) (ah 1) env=M.ok (.bl (decide (0<=x/\x<s))):=by
 rintro env rfl;dsimp? []
 by_cases h:0<=x
 .simp only[h,decide_true,if_true,true_and]
  try dsimp? []
 .simp only[h,decide_false,false_and]
  try dsimp? []
theorem sJ(h:α->Bool)(xs:List α):qx [.lst (xs.map λa=>.bl (h a))]=M.ok (.bl (xs.all h)):=by
 have:=qD (xs.map h);rw[ON] at this;rw[show (λa=>PV.bl (h a))=PV.bl∘h from rfl,this];simp[U3]
theorem mn(h:Sz J1)(xs:List Int)(hz:xs.length<=1000):bN [la J1 levers,tI xs]=M.ok (.bl (uo J1 xs)):=by
 have key:cb (bM 0 1) none (jr AB B1 (λ_=>M.ok (.int 0)) (ah 0) (ah 1)) ((xs.zip J1).map λz=>.tup [.int z.1,.int z.2]) [none,none]=M.ok ((xs.zip J1).map λz=>.bl (decide (0<=z.1/\z.1<z.2))) :=
  iz (p:=λz:Int×Int=>PV.int z.1) (q:=λz:Int×Int=>PV.int z.2) (xs.zip J1) λz hz=>yG z.1 z.2 _ rfl
 have hl:(xs.zip J1).length<=sizeLine:=by rw[OO];exact aH (NZ (UJ _ _) hz)
 unfold bN da;dsimp? [BY (J1:=J1) (levers:=levers) (g:=ah 0) (env:=[some (.sh (la J1 levers)),some (.sh (tI xs)),none]) rfl,yp xs J1.length (aH hz)];unfold uo
 by_cases e:(xs.length:Int)=J1.length
 .simp only[e,decide_true,UU,RT,if_false,UW];dsimp? [gv (p:=tI xs) (q:=tI J1) xs J1 rfl rfl,Nu,au hl,key,sJ]
 .simp only[e,decide_false,UO,if_true,SM];dsimp? []
theorem Br(h:Sz J1)(hs:G1 J1 xs):bO [la J1 levers,tI xs]=M.ok .bz:=by
 unfold bO cY;dsimp? [mn (levers:=levers) h xs (by rw[hs.len];have:=h.h6;lia),p5.mpr hs]
variable{ys:List Int}
theorem qv{z:Int×Int}(h:z∈xs.zip ys):z.1∈xs/\z.2∈ys:=O1 (a:=z.1) (b:=z.2) h
def cf(a b:Int):Int×Int:=open Classical in if h:∃ p:Int×Int,iC [.int a,.int b]=M.ok (.tup [.int (Pu a b),.int p.1,.int p.2])/\p.1*a+p.2*b=Pu a b/\p.1.natAbs<=b.natAbs+1/\p.2.natAbs<=a.natAbs+(b.natAbs+1)*a.natAbs+b.natAbs+1 then h.choose else (0,0)
theorem drop_cons{xs:List α}{d:Nat}{a:α}{r:List α}(h:xs.drop d=a::r):d<xs.length/\xs[d]?=some a/\xs.drop (d+1)=r:=by
 have hd:d<xs.length:=by
  rcases Sx d xs.length with q | q
  .exact q
  .rw[P7 q] at h;cases h
 rw[Py hd] at h;injection h with h1 h2
 exact⟨hd,by rw[Nt hd,h1],h2⟩
theorem iN(env:ae):fJ ao env=M.ok []:=by
 simp only[fJ,ao,M.aT];exact if_pos (Om _)
variable{k:Nat}
section
variable{m:Nat}{A:Nat->nA}{rows:List Row}{left:Row}
def CL(J1:List Int)(rows:List Row)(r:Row)(f:Nat):Nat->Row
 | 0=>r
 | c+1 =>
  let l:=CL J1 rows r f c
  JI J1 l 1 (row rows (f+c)) (-(vf l.1 (f+c)/JZ (vf J1) (DD rows) (f+c)))
end
variable{Ls:List (List Int)}
section
variable{m:Nat}{A:Nat->nA}{rows:List Row}
end
variable{idle:List (List Int)}
section
variable{R:List Row}
end
section
variable{R:List Row}
end
theorem gx(p:PV)(n:Nat)(h8:n<=1000):bH (.lst [p]) (.int (n:Int))=M.ok (.lst (Nv n p)):=by
 have h2:[p].length*(n:Int).toNat<=sizeLine:=by
  rw[Ox];exact aH (by show 1*n<=1000;lia)
 have h3:(n:Int)<2^63:=Tv (Ub.mpr h8) (by decide);have h4:-(2^63)<=(n:Int):=Int.le_trans (by decide) (Tw n);rw[bH,au ⟨h4,h3,h2⟩,Ox,q0]
theorem BI{a b:Int}(h:b∈Nv n a):b=a:=List.eq_of_mem_replicate h
theorem pick(l:List Int)(c:Int)(n:Nat)(hn:l.length=n)(h0:0<n):∃ x,x∈l/\bo (.lst (l.map PV.int)) (.int (c%(n:Int)))=M.ok (.int x):=by
 have h1:0<=c%(n:Int):=Ot _ (by lia);have h2:c%(n:Int)<n:=Od _ (by lia);obtain⟨j,hj⟩:=Ow h1;have M5:j<l.length:=by lia
 refine⟨l[j],N4 _,?_⟩;rw[hj];exact br (p:=.lst (l.map PV.int)) (j:=j) rfl (by rw[NT,Nt M5];rfl)
theorem two{c:Int}:c%2=0\/c%2=1:=by lia
variable{l:Nat}
theorem getD_mem{xs:List α}{a:α}(h:l<xs.length):xs.getD l a∈xs:=by
 rw[NR,Nt h];exact N4 h
theorem i_(S:Sz J1):∀ i,i<J1.length->0<vf J1 i/\vf J1 i<=360:=λi hi=>by
 have:=S.hx _ (N4 hi);rw[<- bC hi] at this;lia
theorem DL(h:xs.length=J1.length)(h0:∀ i,i<J1.length->0<=vf xs i/\vf xs i<vf J1 i):G1 J1 xs:=⟨h,λz hz=>by
 obtain⟨i,hi,rfl⟩:=Oa.mp hz;rw[OO] at hi;have:=h0 i (by lia);rw[bC (by lia),bC (by lia)] at this;simpa using this⟩
def l0(ns:List Int)(a b:Nat):List Int:=(ns.drop (HT.cS ns.length 0 (some (a:Int)))).take (HT.cS ns.length ns.length (some (b:Int))-HT.cS ns.length 0 (some (a:Int)))
theorem AR(ns:List Int)(a b:Nat):sx (.iw (ns.map PV.int)) (some (a:Int)) (some (b:Int))=M.ok (.lst ((l0 ns a b).map PV.int)):=by
 show M.ok (PV.lst (i7 (ns.map PV.int) _ _))=_;rw[i7,l0,R7,List.map_drop,Nu]
theorem vW(ns:List Int)(a b:Nat):(l0 ns a b).length<=b-a:=by
 unfold l0;rw[Pj,PY,HT.lC,HT.lC];lia
theorem jt{z:Int×Nat}(h:z∈xs.zipIdx):z.2<xs.length:=by
 obtain⟨i,hi,rfl⟩:=Oa.mp h;simp at hi ⊢;exact hi
section
variable{R:List Row}{A:Nat->nA}
theorem Ip:uL aP "sizes" cn (la J1 Ls) (M.ok [])=M.ok (tI J1):=(oy (fl:=qZ J1 Ls) rfl).trans (rB J1 Ls)
def lst(J1:List Int)(Ls:List (List Int))(R:List Row)(xs:List Int):List Int:=(CL J1 R (xs,Nv Ls.length 0) 0 J1.length).1
theorem BB(xs:List PV):bN [la J1 Ls,.lst xs]=M.ok (.bl false):=by
 unfold bN da;dsimp? [gu,Ip]
theorem Bv:bN [la J1 Ls,.bz]=M.ok (.bl false):=by
 unfold bN da;dsimp? [gu,Ip]
theorem yO(S:Sz J1)(hz:xs.length<=1000)(h:uo J1 xs=false):bN [la J1 Ls,tI xs]=M.ok (.bl false):=by
 rw[mn S xs hz,h]
theorem jX(h:bN [la J1 Ls,p]=M.ok (.bl false)):bO [la J1 Ls,p]=some (.error (aM,none)):=by
 unfold bO cY;dsimp? [h,iE,au (aH (show 1<=1000 by decide))]
end
variable{raw:List (List Int)}
section
variable{R:List Row}
theorem xn(S:Sz J1):∀ i,i<J1.length->0<=vf (Nv J1.length 0) i/\vf (Nv J1.length 0) i<vf J1 i:=λi hi=>by rw[EA];have:=i_ S i hi;lia
theorem Af{F F':List Int}(h:F.length=J1.length)(h':F'.length=J1.length)(k:∀ i,i<J1.length->0<=vf F i/\vf F i<vf J1 i)(k':∀ i,i<J1.length->0<=vf F' i/\vf F' i<vf J1 i)(d:∀ i,i<J1.length->vf J1 i∣vf F i-vf F' i):F=F' :=
 Di (h.trans h'.symm) λi hi=>by
  have:=k i (by lia);have:=k' i (by lia);have:=vH (d i (by lia)) (by lia) (by lia);lia
theorem uh(S:Sz J1){F:List Int}(h:F.length=J1.length)(k:∀ i,i<J1.length->0<=vf F i/\vf F i<vf J1 i):Bd 200 F:=λx hx=>by
 obtain⟨i,hi,rfl⟩:=Oa.mp hx;have h2:=k i (by lia);rw[bC hi] at h2;have:=i_ S i (by lia);lia
end
theorem rH(xs:List Int):∀ m,m<=xs.length->(xs.take m).sum=gy m (vf xs)
 | 0,_=>by simp[gy]
 | m+1,h=>by
  rw[gy,<- rH xs m (by lia),Q0 (by lia),List.sum_append,bC (by lia)];simp
theorem yt(xs:List Int):xs.sum=gy xs.length (vf xs):=by
 rw[<- rH xs _ (NC _),Ur]
variable{T:List Row}{ns:List Int}
variable{j:Nat}
variable{i:Nat}
theorem Dw(h:j<n):wH n (j:Int)=some j:=by
 unfold wH;rw[if_pos (by lia),if_pos (by lia)];simp
theorem xw{v:Int}{env:ae}(h:j<xs.length):Ck i (xs.map PV.int) (.int v) env (.int (j:Int))=M.ok (.nx (env.set i (some (.ow ((xs.set j v).map PV.int))))):=by
 show (match wH (xs.map PV.int).length (j:Int) with | some j=>_ | none=>_)=_;rw[Nu,Dw h,List.map_set]
theorem r_(x:Int):yQ (M.ok (.int x))=M.ok (.int x):=N3 rfl rfl
def Kp(J1 xs:List Int):Prop:=xs.length=J1.length/\∀ i,i<J1.length->0<=vf xs i/\vf xs i<vf J1 i
theorem Kp.JU(h:Kp J1 xs):G1 J1 xs:=DL h.1 h.2
theorem Kp.bd(S:Sz J1)(h:Kp J1 xs):Bd 200 xs:=uh S h.1 h.2
theorem qh(ns:List Int)(k:Nat)(hk:k<=100):∃ c,cC [.iw (ns.map PV.int),.int (k:Int)]=M.ok (.int c):=by
 unfold cC fN
 by_cases h:(k:Int)<(ns.length:Int)
 .have h':k<ns.length:=by lia
  exact⟨ns[k],by dsimp? [Nu,h,decide_true,br (p:=.iw (ns.map PV.int)) (j:=k) (x:=.int ns[k]) rfl (by rw[NT,Nt h'];rfl)]⟩
 .exact⟨((k:Int)+2)*104729%65537,by dsimp? [Nu,h,decide_false,bu (i:=(k:Int)+2) (j:=104729) (k:=31) (l:=31) (by lia) (by decide),aA (i:=((k:Int)+2)*104729) (j:=65537) (by decide)]⟩
theorem tK(c:Int)(k:Nat)(hk:k<=100):∃ x,ck [.int c,.int (k:Int)]=M.ok (.int x)/\0<=x/\x<2147483579:=by
 obtain⟨a,ea,a0⟩:∃ a,bT (.int (c%2147483647*48271+7919*(k:Int)+13)) (.int 2147483629)=M.ok (.int a)/\0<=a/\a<2147483629:=⟨_,aA (by decide),Ot _ (by decide),Od _ (by decide)⟩
 obtain⟨b,eb,b0⟩:∃ b,bT (.int (a*a+104729*(k:Int)+7)) (.int 2147483587)=M.ok (.int b)/\0<=b/\b<2147483587:=⟨_,aA (by decide),Ot _ (by decide),Od _ (by decide)⟩
 refine⟨b*b%2147483579,?_,Ot _ (by decide),Od _ (by decide)⟩;unfold ck eh;dsimp? [aA (i:=c) (j:=2147483647) (by decide),bu (i:=c%2147483647) (j:=48271) (k:=32) (l:=31) (by lia) (by decide),bu (i:=7919) (j:=(k:Int)) (k:=31) (l:=31) (by decide) (by lia),ea,bu (i:=a) (j:=a) (k:=32) (l:=32) (by lia) (by lia),bu (i:=104729) (j:=(k:Int)) (k:=31) (l:=31) (by decide) (by lia),eb,bu (i:=b) (j:=b) (k:=32) (l:=32) (by lia) (by lia),aA (i:=b*b) (j:=2147483579) (by decide)]
theorem oo(c:Int)(p:PV)(bases:List Int)(hp:aW p=some (bases.map PV.int))(hb:∀ b∈bases,0<b/\b<2^60)(hl:bases.length<=100):∃ xs:List Int,cP [.int c,p]=M.ok (tI xs)/\xs.length=bases.length/\∀ z∈xs.zip bases,0<=z.1/\z.1<z.2:=by
 suffices h:iD (cP [.int c,p]) λq=>∃ xs:List Int,q=tI xs/\xs.length=bases.length/\∀ z∈xs.zip bases,0<=z.1/\z.1<z.2 by
  obtain⟨_,e,xs,rfl,q⟩:=h;exact⟨xs,e,q⟩
 unfold cP dm;dsimp? [iN,hp];refine iD.loop (xs:=bases) (inj:=PV.int) (λr env=>∃ (d xs:List Int) (left:Int) (y:Option SV),env=[some (.sh (.int left)),some (.sh p),some (.ow (xs.map PV.int)),y]/\bases=d++r/\xs.length=d.length/\∀ z∈xs.zip d,0<=z.1/\z.1<z.2) ⟨[],[],c,none,rfl,rfl,rfl,λ_ h=>nomatch h⟩ ?_ ?_
 .rintro b r env ⟨d,xs,left,y,rfl,hd,hx,hz⟩;have MW:=hb b (by rw[hd];simp);have dl:d.length<=100:=by
   have:=congrArg R0 hd;rw[NO] at this;lia
  dsimp? [e6,fV,ownAt,aA (i:=left) MW.1,gG (xs:=xs.map PV.int) (show (xs.map PV.int).length<1000 by simp;lia),kj,bq (i:=left) MW.1 (show b<2^64 by lia)];refine⟨_,rfl,d++[b],xs++[left%b],left/b,_,rfl,by rw[hd];simp,by simp[hx],λz Mj=>?_⟩;rw[List.zip_append hx] at Mj;rcases O0.mp Mj with q | q
  .exact hz z q
  .rw[Tu,List.zip_nil_left] at q;rw[N6.mp q];exact⟨Ot _ (by lia),Od _ MW.1⟩
 .rintro env ⟨d,xs,left,y,rfl,hd,hx,hz⟩;rw[Og] at hd;subst hd;dsimp? [];exact⟨_,rfl,xs,rfl,hx,hz⟩
theorem Am(c:Int):∃ x,dE [.int c]=M.ok (.int x)/\2<=x/\x<=360:=by
 obtain⟨v,hv,ev⟩:=pick [2,3,4,6,8,9,12] (c/3) 7 rfl (by decide);obtain⟨w,hw,ew⟩:=pick [1,2,5,10,30] (c/21) 5 rfl (by decide);rw[show ((7:Nat):Int)=7 from rfl] at ev;rw[show ((5:Nat):Int)=5 from rfl] at ew;have v1:2<=v/\v<=12:=by simp at hv;lia
 have w1:1<=w/\w<=30:=by simp at hw;lia
 unfold dE fH
 by_cases h:c%3=0
 .refine⟨2+c/3%359,?_,by lia,by lia⟩;dsimp? [aA (i:=c) (j:=3) (by decide),h,decide_true,bq (i:=c) (j:=3) (by decide) (by decide),aA (i:=c/3) (j:=359) (by decide)]
 .refine⟨v*w,?_,?_,?_⟩
  .simp only[NX,Qp] at ev ew;dsimp? [aA (i:=c) (j:=3) (by decide),h,decide_false,bq (i:=c) (j:=3) (by decide) (by decide),aA (i:=c/3) (j:=7) (by decide),ev,bq (i:=c) (j:=21) (by decide) (by decide),aA (i:=c/21) (j:=5) (by decide),ew,bu (i:=v) (j:=w) (k:=31) (l:=31) (by lia) (by lia)]
  .have:2*1<=v*w:=UQ v1.1 w1.1 (by decide) (by lia);lia
  .have:v*w<=12*30:=UQ v1.2 w1.2 (by lia) (by decide);lia
theorem oH(c:Int):iD (dS [.int c]) λp=>∃ xs:List Int,p=lI xs/\Sz xs:=by
 unfold dS fe;dsimp? [aA (i:=c) (j:=2) (by decide)];rcases two (c:=c) with h | h
 .obtain⟨m,em,m1,m6⟩:∃ m:Nat,1+c/2%6=(m:Int)/\1<=m/\m<=6:=⟨(1+c/2%6).toNat,by lia,by lia,by lia⟩
  simp only[h,decide_true];obtain⟨xs,ex,xl,xb⟩:=oo (c/12) (.lst (Nv m (.int 359))) (Nv m 359) (by rw[P8];rfl) (λb hb=>by rw[BI hb];decide) (by simp;lia);rw[Q4] at xl;dsimp? [bq (i:=c) (j:=2) (by decide) (by decide),aA (i:=c/2) (j:=6) (by decide),em,bq (i:=c) (j:=12) (by decide) (by decide),gx (.int 359) m (by lia),ex,Nu,au (aH (show xs.length<=1000 by lia)),je (f:=ai bG (λ_=>M.ok (.int 2)) (ah 0)) (inj:=PV.int) (h:=λx=>.int (2+x)) (rest:=[]) (x0:=none) xs λa _=>by dsimp? []];refine⟨_,rfl,xs.map (2+·),by rw[lI,ON];rfl,by simp;lia,by simp;lia,λx hx=>?_⟩;obtain⟨y,hy,rfl⟩:=QY.mp hx;obtain⟨i,hi,rfl⟩:=Oa.mp hy;have:=xb (xs[i],359) (Oa.mpr ⟨i,by simp;lia,by simp⟩);simp at this;lia
 .simp only[h,show ¬ (1:Int)=0 by decide,decide_false];obtain⟨v,hv,ev⟩:=pick [1,2,3,4,2,3,5,6] (c/2) 8 rfl (by decide);rw[show ((8:Nat):Int)=8 from rfl] at ev;simp only[NX,Qp] at ev;obtain⟨m,rfl,m1,m6⟩:∃ m:Nat,v=(m:Int)/\1<=m/\m<=6:=⟨v.toNat,by simp at hv;lia,by simp at hv;lia,by simp at hv;lia⟩
  have ex:∀ k:Nat,∃ x:Int,k<=100->(∃ y,ck [.int (c/16),.int (k:Int)]=M.ok (.int y)/\dE [.int y]=M.ok (.int x))/\2<=x/\x<=360:=λk=>by
   by_cases hk:k<=100
   .obtain⟨y,ey,_⟩:=tK (c/16) k hk;obtain⟨x,e,q⟩:=Am y;exact⟨x,λ_=>⟨⟨y,ey,e⟩,q⟩⟩
   .exact⟨0,λh=>(hk h).elim⟩
  obtain⟨f,hf⟩:=Uv.mp ex;have key:cb (e6 0) none (aj dE (aa (aj ck (aa (ai cN (ah 1) (λ_=>M.ok (.int 16))) (aa (ah 0) ao))) ao)) ((Oz m).map λ(i:Nat)=>.int (i:Int)) [none,some (.sh (.int c))]=M.ok ((Oz m).map λk=>.int (f k)):=by
   refine je (inj:=λ(i:Nat)=>PV.int (i:Int)) (Oz m) λi hi=>?_;have:=Pn.mp hi;obtain⟨⟨y,e1,e2⟩,_⟩:=hf i (by lia);dsimp? [bq (i:=c) (j:=16) (by decide) (by decide),e1,e2]
  dsimp? [bq (i:=c) (j:=2) (by decide) (by decide),aA (i:=c/2) (j:=8) (by decide),ev,m8 (n:=(m:Int)) (by lia) (by lia),Ox,Nu,Uc,au (aH (show m<=1000 by lia)),key];refine⟨_,rfl,(Oz m).map f,by rw[lI,ON];rfl,by simp;lia,by simp;lia,λx hx=>?_⟩;obtain⟨k,hk,rfl⟩:=QY.mp hx;have:=Pn.mp hk;exact(hf k (by lia)).2
theorem DW(hl:xs.length=ys.length)(h:∀ z∈xs.zip ys,0<=z.1/\z.1<z.2):∀ i,i<ys.length->0<=vf xs i/\vf xs i<vf ys i:=λi hi=>by
 have:=h (xs[i]'(by lia),ys[i]) (Oa.mpr ⟨i,by simp;lia,by simp⟩);rw[bC (by lia),bC hi];exact this
theorem Au(i j:Nat)(env:ae)(p q:PV):FE i j env [p,q]=M.ok (.nx ((env.set i (some (.sh p))).set j (some (.sh q)))):=rfl
theorem ue(a b:Nat):dI [.int (a:Int),.int (b:Int)]=M.ok (.int (O_ a b:Nat)):=by
 unfold dI dJ;dsimp? [];refine sL (λenv=>∃ p q:Nat,env=[some (.sh (.int p)),some (.sh (.int q))]/\O_ p q=O_ a b) (λenv=>match env with
  | [_,some (.sh (.int q))]=>q.toNat
  | _=>0) ⟨a,b,rfl,rfl⟩ ?_ ?_
 .rintro env ⟨p,q,rfl,hg⟩
  by_cases h0:(0:Int)<q
  .refine .inr ⟨by dsimp? [h0,decide_true],[some (.sh (.int q)),some (.sh (.int ((p%q:Nat):Int)))],?_,⟨q,p%q,rfl,?_⟩,?_⟩
   .dsimp? [Dg,Au,aA (i:=(p:Int)) h0];rfl
   .rw[<- hg,Nat.gcd_comm p q,Nat.gcd_rec q p,Nat.gcd_comm]
   .show ((p%q:Nat):Int).toNat<(q:Int).toNat;have:=Nat.mod_lt p (show 0<q by lia);lia
  .exact .inl (by dsimp? [h0,decide_false])
 .rintro J2 ⟨p,q,rfl,hg⟩ hu;have hq:q=0:=by
   revert hu;dsimp? [];intro hu;have:(decide ((0:Int)<q))=false:=by injection hu with hu;injection hu
   simp at this;lia
  subst hq;rw[Nat.gcd_zero_right] at hg;subst hg;dsimp? []
theorem A_{X Y:List (List Int)}(h:l<X.length):AA (X++Y) l=AA X l:=by
 unfold AA;rw[NR,NR,N9 h]
theorem xk{X Y:List (List Int)}:AA (X++Y) (X.length+l)=AA Y l:=by
 unfold AA;rw[NR,NR,N2 (by lia),Nat.add_sub_cancel_left]
def dot(F xs:List Int):Int:=((F.zip xs).map λz=>z.1*z.2).sum
theorem BV{F:List Int}(h1:F.length=n)(h2:xs.length=n):dot F xs=gy n λi=>vf F i*vf xs i:=by
 unfold dot;have hl:((F.zip xs).map λz=>z.1*z.2).length=n:=by simp[h1,h2]
 rw[yt,hl];refine lQ λi hi=>?_;rw[bC (by rw[hl];exact hi),bC (by lia),bC (by lia)];simp
theorem B2(F xs:List Int):s_ [.lst ((F.zip xs).map λz=>PV.int (z.1*z.2))]=M.ok (.int (dot F xs)):=by
 have:=xO ((F.zip xs).map λz=>z.1*z.2);rw[ON] at this;exact this
theorem tm(f:α->Int)(xs:List α)(h:i<xs.length):vf (xs.map f) i=f xs[i]:=by
 rw[bC (by rw[Nu];exact h),Uw]
variable{q:PV}
theorem Ar{F:List Int}{n:Int}(hp:aW p=some (F.map PV.int))(hq:aW q=some (xs.map PV.int))(hF:Bd 200 F)(hx:Bd 200 xs)(hl:xs.length<=100)(hn:0<n):fw [p,q,.int n]=M.ok (.int (dot F xs%n)):=by
 have z1:(F.zip xs).length<=sizeLine:=by rw[OO];exact aH (NZ (Qn _ _) (by lia))
 have k:cb (bM 0 1) none (ai bH (ah 0) (ah 1)) ((F.zip xs).map λz=>.tup [.int z.1,.int z.2]) [none,none]=M.ok ((F.zip xs).map λz=>.int (z.1*z.2)):=by
  refine iz (p:=λz:Int×Int=>PV.int z.1) (q:=λz:Int×Int=>PV.int z.2) (F.zip xs) λz hz=>?_;obtain⟨m1,m2⟩:=qv hz;dsimp? [bu (k:=200) (l:=200) (hF _ m1) (hx _ m2)]
 unfold fw gX;dsimp? [gv (p:=p) (q:=q) F xs hp hq,Nu,au z1,k,B2,aA (i:=dot F xs) hn]
structure Gr (f r:List Int) (t:List (List Int)):Prop where
 Sf:Sz f
 Sr:Sz r
 len:t.length=f.length
 row:∀ l∈t,l.length=r.length
 bd:∀ l∈t,∀ x∈l,x.natAbs<2^90
 dv:∀ i,i<f.length->∀ j,j<r.length->vf r j∣vf f i*AA t i j
variable{t:List (List Int)}
section
variable{f:List Int}
theorem Gr.at_(g:Gr f r t)(h:i<f.length):t.getD i []∈t:=getD_mem (by rw[g.len];exact h)
def col(t:List (List Int))(j:Nat):List Int:=t.map λl=>vf l j
theorem DS(g:Gr f r t)(h:i<f.length):vf (col t j) i=AA t i j:=by
 have h':i<t.length:=by rw[g.len];exact h
 rw[col,tm _ _ h'];unfold AA;rw[NR,Nt h',Qs]
theorem Ej(g:Gr f r t)(hj:j<r.length):Bd 200 (col t j):=λx hx=>by
 obtain⟨l,hl,rfl⟩:=QY.mp hx;have:=g.bd l hl (vf l j) (by rw[bC (by rw[g.row l hl];exact hj)];exact N4 _);exact NG this (by decide)
theorem C4(g:Gr f r t){k:List Int->PV}(hk:k=tI\/k=lI)(hp:aW p=some (t.map k))(hj:j<r.length):ik [p,.int (j:Int)]=M.ok (.lst ((col t j).map PV.int)):=by
 have l6:=g.Sf.h6;have tl:=g.len;have key:cb (e6 0) none (ai bo (ah 0) (ah 1)) (t.map k) [none,some (.sh (.int (j:Int)))]=M.ok ((col t j).map PV.int):=by
  rw[col,ON];refine je (inj:=k) t λl hl=>?_;have h:=g.row l hl;have:bo (k l) (.int (j:Int))=M.ok (.int (vf l j)):=br (p:=k l) (Cw hk l) (by rw[NT,bC (by lia),Nt (by lia)];rfl);dsimp? [this];rfl
 have zl:t.length<=sizeLine:=aH (by lia);unfold ik jR;dsimp? [hp,Nu,au zl,key]
def km(r:List Int)(t:List (List Int))(x:List Int):List Int:=r.zipIdx.map λa=>dot x (col t a.2)%a.1
def ph(n:Nat)(t:List (List Int))(x:nA):nA:=λj=>gy n λi=>x i*AA t i j
theorem lD(x:List Int):(km r t x).length=r.length:=by simp[km]
theorem pM(g:Gr f r t){x:List Int}(hx:x.length=f.length)(hj:j<r.length):vf (km r t x) j=ph f.length t (vf x) j%vf r j:=by
 rw[km,tm _ _ (by rw[Oj];exact hj),Pc,bC hj];show dot x (col t (0+j))%r[j]=_;rw[Nat.zero_add,BV hx (by rw[col,Nu,g.len])];congr 1;exact lQ λi hi=>by rw[DS g hi]
theorem D7(g:Gr f r t){x:List Int}(hx:x.length=f.length):Kp r (km r t x):=⟨lD x,λj hj=>by
 rw[pM g hx hj];have:=i_ g.Sr j hj;exact⟨Ot _ (by lia),Od _ (by lia)⟩⟩
theorem Bm(g:Gr f r t){x y:nA}(h:∀ i,i<f.length->vf f i∣x i-y i)(hj:j<r.length):vf r j∣ph f.length t x j-ph f.length t y j:=by
 have e:=lZ 1 (-1) (λi=>x i*AA t i j) (λi=>y i*AA t i j) (λi=>(x i-y i)*AA t i j) f.length λi _=>by rw[Uz];lia
 have d:vf r j∣gy f.length λi=>(x i-y i)*AA t i j:=rE λi hi=>by
  obtain⟨c,hc⟩:=h i hi;rw[hc,show vf f i*c*AA t i j=vf f i*AA t i j*c by rw[Ph,Sv c,<- Ph]];exact R6 (g.dv i hi j hj) (Ud _ _)
 rw[e] at d
 rwa [show ∀ a b:Int,1*a+-1*b=a-b by intros;lia] at d
theorem Ec(a b:Int){x y z:nA}(h:∀ i,i<f.length->z i=a*x i+b*y i)(j:Nat):ph f.length t z j=a*ph f.length t x j+b*ph f.length t y j :=
 lZ a b (λi=>x i*AA t i j) (λi=>y i*AA t i j) _ f.length λi hi=>by rw[h i hi,Int.add_mul,Ph,Ph]
def gF(f r:List Int)(t:List (List Int)):List (Str×PV):=[("front_dials", la f []),("rear_dials", la r []),("tooth_rows", .tup (t.map tI))]
def gO(f r:List Int)(t:List (List Int)):PV:=.obj aQ (gF f r t)
theorem gf:zD (λc=>c==aQ) "front_dials" (gO f r t)=M.ok (la f []):=m_ (beq_self_eq_true _) rfl
theorem gr:zD (λc=>c==aQ) "rear_dials" (gO f r t)=M.ok (la r []):=m_ (beq_self_eq_true _) rfl
theorem gt:zD (λc=>c==aQ) "tooth_rows" (gO f r t)=M.ok (.tup (t.map tI)):=m_ (beq_self_eq_true _) rfl
theorem iJ(g:Gr f r t){x:List Int}(hx:Kp f x):bA [gO f r t,tI x]=M.ok (tI (km r t x)):=by
 have key:cb (bM 0 1) none (aj fw (aa (ah 2) (aa (aj ik (aa (ah 3) (aa (ah 0) ao))) (aa (ah 1) ao)))) (r.zipIdx.map λa=>.tup [.int (a.2:Int),.int a.1]) [none,none,some (.sh (tI x)),some (.sh (.tup (t.map tI)))]=M.ok ((km r t x).map PV.int):=by
  rw[km,ON];refine iz (p:=λa:Int×Nat=>PV.int (a.2:Int)) (q:=λa=>PV.int a.1) r.zipIdx λa ha=>?_;have h2:=RX ha;have h3:=g.Sr.hx _ (OZ ha);have l6:=g.Sf.h6;dsimp? [C4 g (p:=.tup (t.map tI)) (k:=tI) (.inl rfl) rfl (show a.2<r.length by lia),Ar (p:=tI x) (q:=.lst ((col t a.2).map PV.int)) (n:=a.1) rfl rfl (hx.bd g.Sf) (Ej g (show a.2<r.length by lia)) (by rw[col,Nu,g.len];lia) (by lia)];rfl
 have zi:r.zipIdx.length<=sizeLine:=by rw[Oj];exact aH (by have:=g.Sr.h6;lia)
 have rs:fU [tI x,.tup (t.map tI),tI r]=M.ok (tI (km r t x)):=by
  unfold fU fM;dsimp? [Fc,Nu,au zi,key];rfl
 unfold bA ed;dsimp? [u4,gf,gr,gt,Br (levers:=[]) g.Sf hx.JU,gu,Ip,rs]
theorem II(p:PV):uL aQ "led" bA (gO f r t) (M.ok [p])=bA [gO f r t,p]:=(oy (fl:=gF f r t) rfl).trans rfl
theorem Ff(S:Sz J1)(h:xs.length=J1.length/\∀ z∈xs.zip J1,0<=z.1/\z.1<z.2):Kp J1 xs:=⟨h.1,DW h.1 h.2⟩
theorem t6{a b:PV}(x:Int):∃ c,bo (.lst [a,b]) (.int (x%2))=M.ok c/\(c=a\/c=b):=by
 rcases show x%2=0\/x%2=1 by lia with h | h <;> rw[h]
 .exact⟨a,br (p:=.lst [a,b]) (j:=0) rfl rfl,.inl rfl⟩
 .exact⟨b,br (p:=.lst [a,b]) (j:=1) rfl rfl,.inr rfl⟩
theorem vc{x:Int}:vf (xs++[x]) i=if i<xs.length then vf xs i else if i=xs.length then x else vf (xs++[x]) i:=by
 split
 .rename_i h;rw[bC (by simp;lia),bC h,List.getElem_append_left h]
 .split
  .rename_i h;subst h;rw[bC (by simp),List.getElem_append_right (by lia)];simp
  .rfl
theorem uA(g:Gr f r t){x:List Int}(hx:Kp f x):gS [.lst (t.map lI),lI r,tI x]=M.ok (tI (km r t x)):=by
 have f6:=g.Sf.h6;have r6:=g.Sr.h6;have tl:=g.len;have xb:=hx.bd g.Sf;refine iD.eq ?_;unfold gS gN;dsimp? [iN,ki];refine iD.loop (xs:=r.zipIdx) (inj:=λa=>.tup [.int (a.2:Int),.int a.1]) (λzs env=>∃ (F:List Int) (y4 y5:Option SV),env=[some (.sh (.lst (t.map lI))),some (.sh (lI r)),some (.sh (tI x)),some (.ow (F.map PV.int)),y4,y5]/\zs=r.zipIdx.drop F.length/\F.length<=r.length/\F=(r.zipIdx.take F.length).map λa=>dot x (col t a.2)%a.1) ⟨[],none,none,rfl,rfl,Om _,rfl⟩ ?_ ?_
 .rintro a rr env ⟨F,y4,y5,rfl,hd,hF,eF⟩;obtain⟨c1,c2,c3⟩:=drop_cons hd.symm;have c1':F.length<r.length:=by rw[Oj] at c1;exact c1
  rw[Nt c1] at c2;have c2:=NQ c2;have ma:a∈r.zipIdx:=by rw[<- c2];exact N4 _
  have a2:=RX ma;have a1:=g.Sr.hx _ (OZ ma);have key:cb (bM 0 1) none (ai bH (ah 0) (ai bo (ah 1) (ah 2))) ((x.zip t).map λz=>.tup [.int z.1,lI z.2]) [none,none,some (.sh (.int (a.2:Int)))]=M.ok ((x.zip (col t a.2)).map λz=>.int (z.1*z.2)):=by
   rw[col,List.zip_map_right,ON];refine iz (p:=λz:Int×List Int=>PV.int z.1) (q:=λz=>lI z.2) (x.zip t) λz hz=>?_;obtain⟨n1,n2⟩:=O1 (a:=z.1) (b:=z.2) hz;have rl:=g.row _ n2;have b:=g.bd _ n2 (vf z.2 a.2) (by rw[bC (by lia)];exact N4 _);have:bo (lI z.2) (.int (a.2:Int))=M.ok (.int (vf z.2 a.2)):=br (p:=lI z.2) rfl (by rw[NT,bC (by lia),Nt (by lia)];rfl);dsimp? [this,bu (i:=z.1) (j:=vf z.2 a.2) (k:=200) (l:=90) (xb _ n1) b];rfl
  have z1:(x.zip t).length<=sizeLine:=by rw[OO];exact aH (NZ (Qn _ _) (by lia))
  dsimp? [bM,gv (p:=tI x) (q:=.lst (t.map lI)) (f:=PV.int) (g:=lI) x t rfl rfl,Nu,au z1,key,B2,aA (i:=dot x (col t a.2)) (j:=a.1) (by lia),fV,ownAt,gG (xs:=F.map PV.int) (show (F.map PV.int).length<1000 by simp;lia),kj];refine⟨_,rfl,F++[dot x (col t a.2)%a.1],_,_,rfl,by rw[NO];exact c3.symm,by rw[NO];exact c1',?_⟩;rw[NO,Qd,Q0 c1,QF,<- eF,c2];rfl
 .rintro env ⟨F,y4,y5,rfl,hd,hF,eF⟩;have ec:r.zipIdx.length<=F.length:=List.drop_eq_nil_iff.mp hd.symm;rw[P5 ec] at eF;dsimp? [];exact⟨_,rfl,by rw[eF];rfl⟩
theorem y0(Sf:Sz f)(Sr:Sz r)(c:Int):∃ t:List (List Int),dO [.int c,lI f,lI r]=M.ok (.lst (t.map lI))/\Gr f r t:=by
 suffices h:iD (dO [.int c,lI f,lI r]) λp=>∃ t:List (List Int),p=.lst (t.map lI)/\Gr f r t by
  obtain⟨_,e,t,rfl,g⟩:=h;exact⟨t,e,g⟩
 have f6:=Sf.h6;have r6:=Sr.h6;unfold dO eW;dsimp? [iN,ki];refine iD.loop (xs:=f.zipIdx) (inj:=λa=>.tup [.int (a.2:Int),.int a.1]) (λzs env=>∃ (t:List (List Int)) (y4 y5 y6 y7 y8 y9 LD:Option SV),env=[some (.sh (.int c)),some (.sh (lI f)),some (.sh (lI r)),some (.ow (t.map lI)),y4,y5,y6,y7,y8,y9,LD]/\zs=f.zipIdx.drop t.length/\t.length<=f.length/\(∀ l∈t,l.length=r.length)/\(∀ l∈t,∀ x∈l,x.natAbs<2^90)/\∀ i,i<t.length->∀ j,j<r.length->vf r j∣vf f i*AA t i j) ⟨[],none,none,none,none,none,none,none,rfl,rfl,Om _,(λ_ h=>nomatch h),(λ_ h=>nomatch h),λi h=>absurd h (UL i)⟩ ?_ ?_
 .rintro⟨s,i⟩ rr env ⟨t,y4,y5,y6,y7,y8,y9,LD,rfl,hd,ht,tr,tb,td⟩;obtain⟨c1,c2,c3⟩:=drop_cons hd.symm;rw[Oj] at c1;rw[Nt (by rw[Oj];exact c1)] at c2;have c2:=NQ c2;rw[Pc] at c2;have ei:i=t.length:=by have:=congrArg UR c2;simp at this;lia
  have es:f[t.length]=s:=congrArg US c2;subst ei;have ss:=Sf.hx s (by rw[<- es];exact N4 _);dsimp? [bM,iN,ki];refine iD.loop (xs:=r.zipIdx) (inj:=λa=>.tup [.int (a.2:Int),.int a.1]) (λzs env=>∃ (F:List Int) (y7 y8 y9 LD:Option SV),env=[some (.sh (.int c)),some (.sh (lI f)),some (.sh (lI r)),some (.ow (t.map lI)),some (.sh (.int (t.length:Int))),some (.sh (.int s)),some (.ow (F.map PV.int)),y7,y8,y9,LD]/\zs=r.zipIdx.drop F.length/\F.length<=r.length/\(∀ x∈F,x.natAbs<2^90)/\∀ j,j<F.length->vf r j∣s*vf F j) ⟨[],_,_,_,_,rfl,rfl,Om _,(λ_ h=>nomatch h),λj h=>absurd h (UL j)⟩ ?_ ?_
  .rintro⟨o,j⟩ rr env ⟨F,y7,y8,y9,LD,rfl,hd,hF,Fb,Fd⟩;obtain⟨e1,e2,e3⟩:=drop_cons hd.symm;rw[Oj] at e1;rw[Nt (by rw[Oj];exact e1)] at e2;have e2:=NQ e2;rw[Pc] at e2;have ej:j=F.length:=by have:=congrArg UR e2;simp at this;lia
   have eo:r[F.length]=o:=congrArg US e2;subst ej;have so:=Sr.hx o (by rw[<- eo];exact N4 _);have ro:vf r F.length=o:=by rw[bC e1,eo]
   obtain⟨u,hu⟩:=Ow (show 0<=s by lia);obtain⟨n,hn⟩:=Ow (show 0<=o by lia);obtain⟨x,ex,x0,x1⟩:=tK c (10*t.length+F.length) (by lia);rw[show ((10*t.length+F.length:Nat):Int)=10*(t.length:Int)+(F.length:Int) by lia] at ex;have gd:=ue u n;have n0:2<=n/\n<=360:=by lia
   have g1:0<O_ u n:=Nat.gcd_pos_of_pos_right _ (by lia);have g2:O_ u n<=n:=Nat.gcd_le_right _ (by lia);have q1:(n:Int)/((O_ u n:Nat):Int)=((n/O_ u n:Nat):Int):=by simp
   have q2:n/O_ u n<=360:=NZ (UK _ _) n0.2;obtain⟨v,hv⟩:=Ow (show 0<=x/4%12 by lia);have v1:v<12:=by lia
   obtain⟨o1,eo1,ho1⟩:∃ o:Nat,uJ [.bl (decide (0<x%4))]=M.ok (.int (o:Int))/\o<=1:=by
    by_cases q:0<x%4
    .exact⟨1,by rw[decide_eq_true q];rfl,by decide⟩
    .exact⟨0,by rw[decide_eq_false q];rfl,by decide⟩
   obtain⟨q,hq⟩:∃ q:Nat,q=n/O_ u n*v:=⟨_,rfl⟩
   have qb:q<2^18:=by
    rw[hq];exact OC (QZ q2 (by lia:v<=360)) (by decide)
   have dv:n∣u*q:=by
    rw[hq];have h1:O_ u n∣u:=Us _ _;have h2:O_ u n∣n:=Nat.gcd_dvd_right _ _;obtain⟨a,ha⟩:=h1;have:u*(n/O_ u n*v)=n/O_ u n*O_ u n*(v*a):=by
     have e:v*u=O_ u n*(v*a):=by
      conv=>lhs;rw[ha]
      rw[<- QC,Qq v,QC]
     rw[Qq,QC,e,<- QC]
    rw[this,Nat.div_mul_cancel h2];exact R4 _ _
   have m1:bH (.int ((n/O_ u n:Nat):Int)) (.int (v:Int))=M.ok (.int (q:Int)):=by
    rw[hq];generalize n/O_ u n=d at *;rw[bu (k:=31) (l:=31) (by lia) (by lia)];simp
   have m2:bH (.int (q:Int)) (.int (o1:Int))=M.ok (.int ((q*o1:Nat):Int)):=by
    rw[bu (k:=31) (l:=31) (by lia) (by lia)];simp
   have qo:q*o1<2^18:=OC (PR q ho1) (by lia);have p10:vJ (.int 10) (.int 17)=M.ok (.int (10^17)):=by rfl
   have c0:0<=c%10^17/\c%10^17<10^17:=⟨Ot _ (by decide),Od _ (by decide)⟩
   have w0:(x/48%3-1).natAbs<=1:=by lia
   have m3:bH (.int (n:Int)) (.int (x/48%3-1))=M.ok (.int ((n:Int)*(x/48%3-1))):=bu (k:=31) (l:=31) (by lia) (by lia);have b3:((n:Int)*(x/48%3-1)).natAbs<=360:=by
    rw[P0];exact NZ (QZ (show (n:Int).natAbs<=360 by lia) w0) (by decide)
   have m4:bH (.int ((n:Int)*(x/48%3-1))) (.int (c%10^17))=M.ok (.int ((n:Int)*(x/48%3-1)*(c%10^17))):=bu (k:=31) (l:=60) (OC b3 (by decide)) (by lia);have b4:((n:Int)*(x/48%3-1)*(c%10^17)).natAbs<=360*10^17:=by
    rw[P0];exact QZ b3 (by lia)
   have qz:(((q*o1:Nat):Int)+(n:Int)*(x/48%3-1)*(c%10^17)).natAbs<2^90:=by
    generalize (n:Int)*(x/48%3-1)*(c%10^17)=z at b4 ⊢;generalize q*o1=y at qo ⊢;lia
   rw[hn,hu];dsimp? [bM,bu (i:=10) (j:=(t.length:Int)) (k:=31) (l:=31) (by decide) (by lia),ex,gd,bq (i:=(n:Int)) (j:=((O_ u n:Nat):Int)) (by lia) (by lia),q1,bq (i:=x) (j:=4) (by decide) (by decide),aA (i:=x/4) (j:=12) (by decide),hv,m1,aA (i:=x) (j:=4) (by decide),eo1,m2,bq (i:=x) (j:=48) (by decide) (by decide),aA (i:=x/48) (j:=3) (by decide),p10,aA (i:=c) (j:=10^17) (by decide),m3,m4,fV,ownAt,gG (xs:=F.map PV.int) (show (F.map PV.int).length<1000 by simp;lia),kj];refine⟨_,rfl,F++[((q*o1:Nat):Int)+(n:Int)*(x/48%3-1)*(c%10^17)],_,_,_,_,rfl,by rw[NO];exact e3.symm,by rw[NO];exact e1,λy hy=>?_,λi hi=>?_⟩
   .rcases O0.mp hy with h | h
    .exact Fb y h
    .rw[N6.mp h];exact qz
   .rw[NO,Qd] at hi
    by_cases h:i<F.length
    .rw[vc,if_pos h,<- hu];exact Fd i h
    .have:i=F.length:=by lia
     subst this;rw[vc,if_neg h,if_pos rfl,ro,hn];rw[Rl];exact S0 (by exact_mod_cast Nat.dvd_trans dv (by rw[<- QC];exact R4 _ _)) (by rw[Ph,<- Ph (u:Int),Sv (u:Int),Ph];exact Ud _ _)
  .rintro env ⟨F,y7,y8,y9,LD,rfl,hd,hF,Fb,Fd⟩;have ec:F.length=r.length:=by
    have:=congrArg R0 hd;rw[PY,Oj] at this;simp at this;lia
   dsimp? [fV,ownAt,gG (xs:=t.map lI) (show (t.map lI).length<1000 by simp;lia)];refine⟨_,rfl,t++[F],_,_,_,_,_,_,_,by rw[QF];rfl,by rw[NO];exact c3.symm,by rw[NO];exact c1,λl hl=>?_,λl hl=>?_,λi hi j hj=>?_⟩
   .rcases O0.mp hl with h | h
    .exact tr l h
    .rw[N6.mp h];exact ec
   .rcases O0.mp hl with h | h
    .exact tb l h
    .rw[N6.mp h];exact Fb
   .rw[NO,Qd] at hi
    by_cases h:i<t.length
    .rw[A_ h];exact td i h j hj
    .have:i=t.length:=by lia
     subst this;have:=xk (X:=t) (Y:=[F]) (l:=0);rw[Nat.add_zero] at this;rw[this,bC c1,es];exact Fd j (by lia)
 .rintro env ⟨t,y4,y5,y6,y7,y8,y9,LD,rfl,hd,ht,tr,tb,td⟩;have ec:t.length=f.length:=by
   have:=congrArg R0 hd;rw[PY,Oj] at this;simp at this;lia
  dsimp? [];exact⟨_,rfl,t,rfl,Sf,Sr,ec,tr,tb,λi hi=>td i (by lia)⟩
end
theorem oR{set:PV->ae->M ae}{body:ae->M Out}{α:Type}{inj:α->PV}{ok:α->Bool}{stop:α->M Out}(J:List α->ae->Prop)(hs:∀ a k,(stop a).bind (yU k)=stop a)
  (H:∀ a r env,J (a::r) env->∃ e',set (inj a) env=M.ok e'/\(ok a=true->∃ J2,body e'=M.ok (.nx J2)/\J r J2)/\(ok a=false->body e'=stop a)):∀ (xs:List α) (env:ae),J xs env ->
  (∃ J2,xs.find? (λa=>!ok a)=none/\fm set body (xs.map inj) env=M.ok (.nx J2)/\J [] J2)\/∃ a,xs.find? (λa=>!ok a)=some a/\fm set body (xs.map inj) env=stop a
 | [],env,h=>.inl ⟨env,rfl,rfl,h⟩
 | a::r,env,h=>by
  obtain⟨e',h1,h2,h3⟩:=H a r env h;rw[NX,fm,h1,M.aT,List.find?_cons];cases e:ok a with
  | true =>
   obtain⟨J2,h4,h5⟩:=h2 e;rw[h4];exact oR J hs H r J2 h5
  | false =>
   rw[h3 e];exact .inr ⟨a,rfl,hs a _⟩
theorem jn{β:Type}{k:Out->M β}{r:M β}{set:PV->ae->M ae}{body:ae->M Out}{inj:α->PV}(ok:α->Bool)(stop:α->M Out)(xs:List α){env:ae}(J:List α->ae->Prop)(h:J xs env)(hs:∀ a k,(stop a).bind (yU k)=stop a)
  (H:∀ a r env,J (a::r) env->∃ e',set (inj a) env=M.ok e'/\(ok a=true->∃ J2,body e'=M.ok (.nx J2)/\J r J2)/\(ok a=false->body e'=stop a))
  (h1:xs.find? (λa=>!ok a)=none->∀ J2,J [] J2->k (.nx J2)=r) (h2:∀ a,xs.find? (λa=>!ok a)=some a->(stop a).bind k=r):M.bind (fm set body (xs.map inj) env) k=r:=by
 rcases oR J hs H xs env h with ⟨J2,e1,e2,e3⟩ | ⟨a,e1,e2⟩
 .rw[e2,M.aT];exact h1 e1 J2 e3
 .rw[e2];exact h2 a e1
theorem wc(d:α)(f:α->Nat->PV):∀ (xs:List α),xs.zipIdx.map (λz=>f z.1 z.2)=(Oz xs.length).map λk=>f (xs.getD k d) k:=λxs=>by
 apply Ut
 .simp
 .intro i h1 h2;simp at h1 h2;simp[NR,Nt h2]
def fb(n:Nat)(ok:Nat->Bool):Option Nat:=(Oz n).find? λk=>!ok k
theorem BC{ok:Nat->Bool}(h:fb n ok=none):∀ k,k<n->ok k=true:=λk hk=>by
 have:=RU.mp h k (Pn.mpr hk);simpa using this
theorem Eh:1<=sizeLine:=by decide
def EW(S:List Int)(k:Nat):Bool:=decide (2<=S.getD k 0/\S.getD k 0<=360)
def mE(k:Nat):EX:=(aY,some [("dial", .int (k:Int))])
theorem vU(xs:List Int)(hp:aW p=some (xs.map PV.int))(h:6<xs.length):aV [p]=some (.error (bf,none)):=by
 unfold aV cF;have a1:(6:Int)<xs.length:=by lia
 dsimp? [a1,decide_true,aJ hp,Nu,iE,au Eh]
theorem yT(hp:aW p=some []):aV [p]=some (.error (mE 0)):=by
 unfold aV cF;have l:nW p=M.ok (.int 0):=aJ hp;dsimp? [l,cV,(show decide ((6:Int)<0)=false from rfl),decide_true];rfl
theorem tQ(xs:List Int)(hp:aW p=some (xs.map PV.int))(h1:1<=xs.length)(h6:xs.length<=6):aV [p]=match fb xs.length (EW xs) with | none=>M.ok .bz | some k=>some (.error (mE k)):=by
 unfold aV cF;have a1:¬ (6:Int)<xs.length:=by lia
 have a2:¬ (xs.length:Int)=0:=by lia
 have z:(xs.zipIdx.map λz=>PV.tup [.int (z.2:Int),.int z.1])=(Oz xs.length).map λk=>.tup [.int (k:Int),.int (xs.getD k 0)]:=wc 0 (λa k=>PV.tup [.int (k:Int),.int a]) xs;dsimp? [a1,a2,decide_false,aJ hp,Nu,jT xs hp,z];refine jn (EW xs) (λk=>some (.error (mE k))) (Oz xs.length) (λr env=>∃ b c,env=[some (.sh p),b,c]) ⟨_,_,rfl⟩ (λ_ _=>rfl) ?_ (λe J2 hj=>?_) λk e=>?_
 .rintro k r env ⟨b,c,rfl⟩;refine⟨[some (.sh p),some (.sh (.int k)),some (.sh (.int (xs.getD k 0)))],rfl,λhk=>⟨[some (.sh p),some (.sh (.int k)),some (.sh (.int (xs.getD k 0)))],?_,_,_,rfl⟩,λhk=>?_⟩
  .have:=of_decide_eq_true hk;dsimp? [within_int,this,and_self,decide_true]
  .have:=of_decide_eq_false hk;dsimp? [within_int,this,decide_false,cV];rfl
 .obtain⟨b,c,rfl⟩:=hj;rw[show fb xs.length (EW xs)=none from e];rfl
 .rw[show fb xs.length (EW xs)=some k from e];rfl
variable{rows:List PV}{pf:PV}
section
variable{f:List Int}{pt:PV}
theorem sq(g:Gr f r t)(hq:aW q=some (r.map PV.int))(hi:i<f.length):aO [lI (t.getD i []),.int (vf f i),q]=M.ok (.bl true):=by
 have l6:=g.Sr.h6;obtain⟨l,hl⟩:∃ l,l=t.getD i []:=⟨_,rfl⟩
 have ml:l∈t:=by rw[hl];exact g.at_ hi
 have rl:=g.row l ml;have fi:=i_ g.Sf i hi;have key:cb (bM 0 1) none (ai rg (ai bT (ai bH (ah 2) (ah 0)) (ah 1)) (λ_=>M.ok (.int 0))) ((l.zip r).map λa=>.tup [.int a.1,.int a.2]) [none,none,some (.sh (.int (vf f i)))]=M.ok ((l.zip r).map λa=>.bl true):=by
  refine iz (p:=λa:Int×Int=>PV.int a.1) (q:=λa:Int×Int=>PV.int a.2) (l.zip r) λa ha=>?_;obtain⟨m1,m2⟩:=qv ha;have a2:=g.Sr.hx _ m2;have d:a.2∣vf f i*a.1:=by
   obtain⟨j,hj,e⟩:=Oa.mp ha;rw[List.getElem_zip] at e;have M5:j<r.length:=by rw[OO] at hj;lia
   have:=g.dv i hi j M5;unfold AA at this;rw[<- hl,bC M5,bC (xs:=l) (by lia)] at this;rw[<- e];exact this
  dsimp? [bu (i:=vf f i) (j:=a.1) (k:=31) (l:=90) (by lia) (g.bd l ml _ m1),aA (i:=vf f i*a.1) (j:=a.2) (by lia),Sj d,decide_true]
 have z1:(l.zip r).length<=sizeLine:=by rw[OO];exact aH (NZ (Qn _ _) (by lia))
 have ea:((l.zip r).all λ_=>true)=true:=by simp
 rw[<- hl];unfold aO cw;dsimp? [aJ hq,l7 l (r.length:Int) (aH (by lia)),rl,decide_true,gv (p:=lI l) (q:=q) l r rfl hq,Nu,au z1,key,sJ (λ_:Int×Int=>true),ea]
theorem zT{x:Int}(hq:aW q=some (r.map PV.int))(h:bB [p,.int (r.length:Int)]=M.ok (.bl false)):aO [p,.int x,q]=M.ok (.bl false):=by
 unfold aO cw;dsimp? [aJ hq,Nu,h]
def fk(k:Nat):EX:=(bh,some [("dial", .int (k:Int))])
theorem nB(ok:Nat->Bool)(hf:aW pf=some (f.map PV.int))(hp:aW pt=some rows)(f6:f.length<=6)(r9:rows.length<=100)(bw:∀ i,(h1:i<f.length)->(h2:i<rows.length)->aO [rows[i],.int (vf f i),q]=M.ok (.bl (ok i))) :
  a_ [pf,q,pt]=match fb (max f.length rows.length) (λi=>decide (i<f.length)&&decide (i<rows.length)&&ok i) with | none=>M.ok .bz | some k=>some (.error (fk k)):=by
 have mx:rV (λi j=>if j>i then j else i) [.int (f.length:Int),.int (rows.length:Int)]=M.ok (.int ((max f.length rows.length:Nat):Int)):=by
  show M.ok (PV.int (if (rows.length:Int)>f.length then (rows.length:Int) else f.length))=_;congr 2
  split <;> lia
 unfold a_ dZ;dsimp? [aJ hf,aJ hp,Nu,mx,m8 (n:=((max f.length rows.length:Nat):Int)) (by lia) (by lia),Ox];refine jn (λi=>decide (i<f.length)&&decide (i<rows.length)&&ok i) (λk=>some (.error (fk k))) (Oz (max f.length rows.length)) (λzs env=>∃ y3,env=[some (.sh pf),some (.sh q),some (.sh pt),y3]) ⟨_,rfl⟩ (λ_ _=>rfl) ?_ (λe J2 hj=>?_) λk e=>?_
 .rintro i zs env ⟨y3,rfl⟩;refine⟨[some (.sh pf),some (.sh q),some (.sh pt),some (.sh (.int i))],rfl,λh=>⟨[some (.sh pf),some (.sh q),some (.sh pt),some (.sh (.int i))],?_,_,rfl⟩,λh=>?_⟩
  .simp only[Ou,decide_eq_true_eq] at h;obtain⟨⟨h1,h2⟩,h3⟩:=h;have n1:¬ (f.length:Int)<=(i:Int):=by lia
   have n2:¬ (rows.length:Int)<=(i:Int):=by lia
   have i1:bo pt (.int (i:Int))=M.ok rows[i]:=br hp (Nt h2);have i2:bo pf (.int (i:Int))=M.ok (.int (vf f i)):=br hf (by rw[NT,bC h1,Nt h1];rfl);dsimp? [aJ hf,aJ hp,Nu,n1,n2,decide_false,i1,i2,bw i h1 h2,h3]
  .by_cases h1:i<f.length
   .have n1:¬ (f.length:Int)<=(i:Int):=by lia
    by_cases h2:i<rows.length
    .have n2:¬ (rows.length:Int)<=(i:Int):=by lia
     have h3:ok i=false:=by simpa [h1,h2] using h
     have i1:bo pt (.int (i:Int))=M.ok rows[i]:=br hp (Nt h2);have i2:bo pf (.int (i:Int))=M.ok (.int (vf f i)):=br hf (by rw[NT,bC h1,Nt h1];rfl);dsimp? [aJ hf,aJ hp,Nu,n1,n2,decide_false,i1,i2,bw i h1 h2,h3,cV];rfl
    .have n2:(rows.length:Int)<=(i:Int):=by lia
     dsimp? [aJ hf,aJ hp,Nu,n1,n2,decide_false,decide_true,cV];rfl
   .have n1:(f.length:Int)<=(i:Int):=by lia
    dsimp? [aJ hf,aJ hp,Nu,n1,decide_true,cV];rfl
 .obtain⟨y3,rfl⟩:=hj;rw[show fb (max f.length rows.length) (λi=>decide (i<f.length)&&decide (i<rows.length)&&ok i)=none from e];rfl
 .rw[show fb (max f.length rows.length) (λi=>decide (i<f.length)&&decide (i<rows.length)&&ok i)=some k from e];rfl
theorem FV{ok:Nat->Bool}(h:∀ k,k<n->ok k=true):fb n ok=none:=by
 unfold fb;rw[RU];intro k hk;simp[h k (Pn.mp hk)]
theorem FD{ok:Nat->Bool}(hk:k<n)(h:∀ j,j<k->ok j=true)(h':ok k=false):fb n ok=some k:=by
 cases e:fb n ok with
 | none=>rw[BC e k hk] at h';cases h'
 | some j =>
  have e1:=List.find?_some e;have:ok j=false:=by simpa using e1
  rcases Nat.lt_trichotomy j k with z | z | z
  .rw[h j z] at this;cases this
  .rw[z]
  .exfalso;have:=R8.mp e;have:=this.2.2 k z;rw[h'] at this;cases this
end
variable{e:EX}
section
variable{f:List Int}{pt:PV}
theorem oq(h:aV [p]=some (.error e)):bZ aP cu [.bz] [p,.lst []]=some (.error e):=by
 have key:∀ a,cu a ([p,.lst []]++[.bz])=some (.error e):=λa=>by
  unfold cu e8;simp only[ku];rw[au (show ([p,PV.lst []]++([.bz]:List PV)).length+1=4 from rfl)];simp only[nM,nQ];dsimp? [h]
 unfold bZ;rw[kG key];rfl
theorem qd(h:aV [pf]=some (.error e)):bZ aQ bW [] [pf,q,pt]=some (.error e):=by
 have mf:=oq h;have key:∀ a,bW a ([pf,q,pt]++[])=some (.error e):=λa=>by
  unfold bW dC;simp only[ku];rw[au (show ([pf,q,pt]++([]:List PV)).length+1=4 from rfl)];simp only[nM,nQ];dsimp? [f9,mf]
 unfold bZ;rw[kG key];rfl
theorem uY(S:Sz f)(hf:aW pf=some (f.map PV.int))(h:aV [q]=some (.error e)):bZ aQ bW [] [pf,q,pt]=some (.error e):=by
 have mf:bZ aP cu [.bz] [pf,.lst []]=M.ok (la f []):=jU (p:=pf) (f:=tI) (.inl rfl) f [] hf S (by decide) (by simp);have mr:=oq h;have key:∀ a,bW a ([pf,q,pt]++[])=some (.error e):=λa=>by
  unfold bW dC;simp only[ku];rw[au (show ([pf,q,pt]++([]:List PV)).length+1=4 from rfl)];simp only[nM,nQ];dsimp? [f9,mf];rw[eA _ _ _ _ _ _ (by simp)];dsimp? [f9,mr]
 unfold bZ;rw[kG key];rfl
theorem u6(Sf:Sz f)(Sr:Sz r)(hf:aW pf=some (f.map PV.int))(hr:aW q=some (r.map PV.int))(h:a_ [pf,q,pt]=some (.error e)):bZ aQ bW [] [pf,q,pt]=some (.error e):=by
 have mf:bZ aP cu [.bz] [pf,.lst []]=M.ok (la f []):=jU (p:=pf) (f:=tI) (.inl rfl) f [] hf Sf (by decide) (by simp);have mr:bZ aP cu [.bz] [q,.lst []]=M.ok (la r []):=jU (p:=q) (f:=tI) (.inl rfl) r [] hr Sr (by decide) (by simp);have key:∀ a,bW a ([pf,q,pt]++[])=some (.error e):=λa=>by
  unfold bW dC;simp only[ku];rw[au (show ([pf,q,pt]++([]:List PV)).length+1=4 from rfl)];simp only[nM,nQ];dsimp? [f9,mf];rw[eA _ _ _ _ _ _ (by simp)];dsimp? [f9,mr];rw[eA _ _ _ _ _ _ (OC (gj (Om 0)) (by decide))];dsimp? [f9,h]
 unfold bZ;rw[kG key];rfl
theorem nY(g:Gr f r t)(hf:aW pf=some (f.map PV.int))(hr:aW q=some (r.map PV.int))(hp:aW pt=some (t.map lI)):a_ [pf,q,pt]=M.ok .bz:=by
 have tl:=g.len;have:=nB (pt:=pt) (q:=q) (f:=f) (λ_=>true) hf hp g.Sf.h6 (by rw[Nu];have:=g.Sf.h6;lia) λi h1 h2=>by
  have:=sq g hr h1;rw[NR,Nt (by lia)] at this;rw[Uw];exact this
 rw[this,FV λk hk=>by simp;rw[Nu] at hk;lia]
theorem ux(g:Gr f r t)(hf:aW pf=some (f.map PV.int))(hr:aW q=some (r.map PV.int))(hp:aW pt=some (t.map lI)):bZ aQ bW [] [pf,q,pt]=M.ok (gO f r t):=by
 have mf:bZ aP cu [.bz] [pf,.lst []]=M.ok (la f []):=jU (p:=pf) (f:=tI) (.inl rfl) f [] hf g.Sf (by decide) (by simp);have mr:bZ aP cu [.bz] [q,.lst []]=M.ok (la r []):=jU (p:=q) (f:=tI) (.inl rfl) r [] hr g.Sr (by decide) (by simp);have kt:cb (e6 0) none (aj cG (aa (ah 0) ao)) (t.map lI) [none]=M.ok (t.map tI):=je (inj:=lI) (h:=tI) t λl _=>by dsimp? [];rfl
 have zl:t.length<=sizeLine:=aH (by have:=g.Sf.h6;have:=g.len;lia);have key:∀ a,bW a ([pf,q,pt]++[])=M.ok (gF f r t):=by
  intro a;unfold bW dC;simp only[ku];rw[au (show ([pf,q,pt]++([]:List PV)).length+1=4 from rfl)];simp only[nM,nQ];dsimp? [f9,mf];rw[eA _ _ _ _ _ _ (by simp)];dsimp? [f9,mr];rw[eA _ _ _ _ _ _ (OC (gj (Om 0)) (by decide))];dsimp? [f9,nY g hf hr hp,hp,Nu,au zl,kt];rw[eA _ _ _ _ _ _ (OC (gj (gj (Om 0))) (by decide))];dsimp? [];show cp _ _=_;rw[au ⟨rfl,rfl⟩];rfl
 unfold bZ;rw[kG key];rfl
def sO:PV:=.lst [.bl false,.bl false,.bl false]
theorem oN{x:PV}(h:bZ aQ bW [] [pf,q,pt]=some (.error (fk k))):bF [pf,q,pt,x]=M.ok (.tup [.str (NF "gear"),.int k,sO]):=by
 unfold bF cX;dsimp? [sW,dF,h,mq,fS];rfl
theorem kz{x:PV}(h:bZ aQ bW [] [pf,q,pt]=some (.error (mE k))):bF [pf,q,pt,x]=M.ok (.tup [.str (NF "dial"),.int k,sO]):=by
 unfold bF cX;dsimp? [sW,dF,h,mq,fS];rfl
theorem o6{x:PV}(h:bZ aQ bW [] [pf,q,pt]=some (.error (bf,none))):bF [pf,q,pt,x]=M.ok (.tup [.str (NF "too many"),.bz,sO]):=by
 unfold bF cX;dsimp? [sW,dF,h,mq,fS];rfl
theorem told_set{x:PV}(h:bZ aQ bW [] [pf,q,pt]=M.ok (gO f r t))(h2:bO [la f [],x]=some (.error (aM,none))):bF [pf,q,pt,x]=M.ok (.tup [.str (NF "no setting"),.bz,sO]):=by
 have hl:bA [gO f r t,x]=some (.error (aM,none)):=by
  unfold bA ed;dsimp? [u4,gf,h2]
 unfold bF cX;dsimp? [sW,gu,h,II,hl,mq,fS];rfl
end
theorem w9(xs:List PV)(k:Nat):sx (.lst xs) none (some (k:Int))=M.ok (.lst (xs.take k)):=by
 show M.ok (PV.lst (i7 xs none (some (k:Int))))=_;rw[i7,HT.l4,HT.lC,SX,Ua,<- List.take_take,P5 (l:=xs) (NC _)]
theorem pV(xs:List PV)(k:Nat):sx (.lst xs) (some ((k:Int)+1)) none=M.ok (.lst (xs.drop (k+1))):=by
 show M.ok (PV.lst (i7 xs (some ((k:Int)+1)) none))=_;rw[show ((k:Int)+1)=((k+1:Nat):Int) by lia,i7,HT.l4,HT.lC];rcases Nat.le_total (k+1) xs.length with h | h
 .rw[Nat.min_eq_left h,P5 (by rw[PY];lia)]
 .rw[Nat.min_eq_right h,Sy (by lia),Sy h];simp
theorem Ef{xs:List PV}(h:1<=xs.length):sx (.lst xs) none (some (-1))=M.ok (.lst (xs.take (xs.length-1))):=by
 show M.ok (PV.lst (i7 xs none (some (-1))))=_;unfold i7;have e:HT.cS xs.length xs.length (some (-1))=xs.length-1:=by
  unfold HT.cS;simp only[show (-1:Int)<0 by decide,if_true];lia
 rw[HT.l4,e,SX,Ua]
theorem dh(xs ys:List PV)(h:xs.length+ys.length<=1000):bG (.lst xs) (.lst ys)=M.ok (.lst (xs++ys)):=by
 rw[bG,au (aH h)]
theorem B9{Q:PV->Prop}{ws:List PV}(h:∀ p∈ws,Q p){j:Int}(h0:0<=j)(h1:j<ws.length):∃ p,bo (.lst ws) (.int j)=M.ok p/\Q p:=by
 obtain⟨k,rfl⟩:=Ow h0;have hk:k<ws.length:=by lia
 exact⟨ws[k],br (xs:=ws) rfl (Nt hk),h _ (N4 hk)⟩
section
variable{f:List Int}{pt:PV}
theorem f7(hf:aW pf=some (f.map PV.int))(hp:aW pt=some rows)(f6:f.length<=6)(r9:rows.length<=100)(hk:k<max f.length rows.length)(good:∀ i,i<k->i<f.length/\∃ p,rows[i]?=some p/\aO [p,.int (vf f i),q]=M.ok (.bl true))
  (bad:∀ p,k<f.length->rows[k]?=some p->aO [p,.int (vf f k),q]=M.ok (.bl false)):a_ [pf,q,pt]=some (.error (fk k)):=by
 have mx:rV (λi j=>if j>i then j else i) [.int (f.length:Int),.int (rows.length:Int)]=M.ok (.int ((max f.length rows.length:Nat):Int)):=by
  show M.ok (PV.int (if (rows.length:Int)>f.length then (rows.length:Int) else f.length))=_;congr 2
  split <;> lia
 unfold a_ dZ;dsimp? [aJ hf,aJ hp,Nu,mx,m8 (n:=((max f.length rows.length:Nat):Int)) (by lia) (by lia),Ox];have i2:∀ i:Nat,i<f.length->bo pf (.int (i:Int))=M.ok (.int (vf f i)):=λi h1=>br hf (by rw[NT,bC h1,Nt h1];rfl);refine jn (λi=>decide (i<k)) (λk=>some (.error (fk k))) (Oz (max f.length rows.length)) (λzs env=>(∃ j,j<=k/\zs=(Oz (max f.length rows.length)).drop j)/\∃ y3,env=[some (.sh pf),some (.sh q),some (.sh pt),y3]) ⟨⟨0,Om _,rfl⟩,_,rfl⟩ (λ_ _=>rfl) ?_ (λe J2 hj=>?_) λj e=>?_
 .rintro i zs env ⟨⟨j,hj,hz⟩,y3,rfl⟩;obtain⟨c1,c2,c3⟩:=drop_cons hz.symm;rw[Uc] at c1;rw[S7 c1] at c2;have ei:i=j:=(NQ c2).symm;subst ei;refine⟨[some (.sh pf),some (.sh q),some (.sh pt),some (.sh (.int i))],rfl,λh=>⟨[some (.sh pf),some (.sh q),some (.sh pt),some (.sh (.int i))],?_,⟨i+1,of_decide_eq_true h,c3.symm⟩,_,rfl⟩,λh=>?_⟩
  .obtain⟨h1,p,h2,h3⟩:=good i (of_decide_eq_true h);have h2':=(N8.mp h2).1;have n1:¬ (f.length:Int)<=(i:Int):=by lia
   have n2:¬ (rows.length:Int)<=(i:Int):=by lia
   dsimp? [aJ hf,aJ hp,Nu,n1,n2,decide_false,br hp h2,i2 i h1,h3]
  .have ek:i=k:=by have:=of_decide_eq_false h;lia
   subst ek
   by_cases h1:i<f.length
   .have n1:¬ (f.length:Int)<=(i:Int):=by lia
    by_cases h2:i<rows.length
    .have n2:¬ (rows.length:Int)<=(i:Int):=by lia
     dsimp? [aJ hf,aJ hp,Nu,n1,n2,decide_false,br hp (Nt h2),i2 i h1,bad _ h1 (Nt h2),cV];rfl
    .have n2:(rows.length:Int)<=(i:Int):=by lia
     dsimp? [aJ hf,aJ hp,Nu,n1,n2,decide_false,decide_true,cV];rfl
   .have n1:(f.length:Int)<=(i:Int):=by lia
    dsimp? [aJ hf,aJ hp,Nu,n1,decide_true,cV];rfl
 .have:=RU.mp e k (Pn.mpr hk);simp at this
 .have e1:=R8.mp e;have:j=k:=by
   have a:=e1.1;simp at a;rcases Sx k j with z | z
   .have:=e1.2.2 k z;simp at this
   .lia
  rw[this];rfl
theorem mJ(g:Gr f r t)(hq:aW q=some (r.map PV.int))(hi:i<f.length):aO [lI (t[i]'(by rw[g.len];exact hi)),.int (vf f i),q]=M.ok (.bl true):=by
 have:=sq g hq hi
 rwa [NR,Nt (by rw[g.len];exact hi)] at this
theorem oj(g:Gr f r t)(hf:aW pf=some (f.map PV.int))(hq:aW q=some (r.map PV.int))(hk:k<f.length){bad:PV}{Z:List PV}(hz:Z.length<=20)(hb:aO [bad,.int (vf f k),q]=M.ok (.bl false)) :
  a_ [pf,q,.lst ((t.map lI).take k++[bad]++Z)]=some (.error (fk k)):=by
 have f6:=g.Sf.h6;have tl:=g.len;have l1:((t.map lI).take k).length=k:=by rw[Pj,Nu];lia
 refine f7 (pt:=.lst ((t.map lI).take k++[bad]++Z)) hf rfl f6 (by simp;lia) (by lia) (λi hi=>⟨by lia,lI (t[i]'(by lia)),?_,mJ g hq (by lia)⟩) λp h1 h2=>?_
 .rw[PD,N9 (by lia),PK hi,NT,Nt (by lia)];rfl
 .rw[PD,N2 (by lia),l1,Nat.sub_self] at h2;cases h2;exact hb
theorem sj(g:Gr f r t)(hf:aW pf=some (f.map PV.int))(hq:aW q=some (r.map PV.int))(hk:k<f.length):a_ [pf,q,.lst ((t.map lI).take k)]=some (.error (fk k)):=by
 have f6:=g.Sf.h6;have tl:=g.len;have l1:((t.map lI).take k).length=k:=by rw[Pj,Nu];lia
 refine f7 (pt:=.lst ((t.map lI).take k)) hf rfl f6 (by lia) (by lia) (λi hi=>⟨by lia,lI (t[i]'(by lia)),?_,mJ g hq (by lia)⟩) λp h1 h2=>?_
 .rw[PK hi,NT,Nt (by lia)];rfl
 .rw[SJ (by lia)] at h2;cases h2
theorem wA(g:Gr f r t)(hf:aW pf=some (f.map PV.int))(hq:aW q=some (r.map PV.int))(x:PV):a_ [pf,q,.lst (t.map lI++[x])]=some (.error (fk f.length)):=by
 have f6:=g.Sf.h6;have tl:=g.len;refine f7 (pt:=.lst (t.map lI++[x])) hf rfl f6 (by simp;lia) (by simp;lia) (λi hi=>⟨hi,lI (t[i]'(by lia)),?_,mJ g hq (by lia)⟩) λp h1 h2=>by lia
 rw[N9 (by simp;lia),NT,Nt (by lia)];rfl
end
theorem AM(n:Int):bB [.bz,.int n]=M.ok (.bl false):=by
 unfold bB dY;dsimp? []
theorem Bk(n:Int):bB [.emp,.int n]=M.ok (.bl false):=by
 unfold bB dY;dsimp? []
theorem AO(x:Str)(n:Int):bB [.str x,.int n]=M.ok (.bl false):=by
 unfold bB dY;dsimp? []
theorem BJ(b:Bool)(k:Nat)(n:Int)(h:1<=k)(hz:k<=1000):bB [.lst (Nv k (.bl b)),.int n]=M.ok (.bl false):=by
 rw[lA (p:=.lst (Nv k (.bl b))) (inj:=PV.bl) (h:=λ_=>false) (Nv k b) n (.inr (by rw[P8])) (λa _=>xJ a) (by simp;exact aH hz)];obtain⟨m,rfl⟩:∃ m,k=m+1:=⟨k-1,by lia⟩
 rw[Oo,Tc];simp
def JC:PV->Bool
 | .int _=>true
 | _=>false
theorem zm(l:List Int)(k:Nat)(n:Int)(hl:l.length<=100):bB [.lst ((l.map PV.int).take k++[.bz]++(l.map PV.int).drop (k+1)),.int n]=M.ok (.bl false):=by
 rw[lA (p:=.lst ((l.map PV.int).take k++[PV.bz]++(l.map PV.int).drop (k+1))) (α:=PV) (inj:=λx=>x) (h:=JC) ((l.map PV.int).take k++[PV.bz]++(l.map PV.int).drop (k+1)) n (.inr (by rw[List.map_id''];intro;rfl)) (λa ha=>?_) (aH (by simp;lia))]
 .simp[JC]
 .rcases O0.mp ha with h | h
  .rcases O0.mp h with h | h
   .obtain⟨x,_,rfl⟩:=QY.mp (List.mem_of_mem_take h);exact gB x
   .rw[N6.mp h];exact vo
  .obtain⟨x,_,rfl⟩:=QY.mp (List.mem_of_mem_drop h);exact gB x
section
variable{f:List Int}{pt:PV}
theorem tV(g:Gr f r t)(c:Int):∃ (k:Nat) (rows:List PV),dX [.int c,lI f,lI r,.lst (t.map lI)]=M.ok (.tup [.int k,.lst rows])/\a_ [lI f,lI r,.lst rows]=some (.error (fk k)):=by
 have f6:=g.Sf.h6;have f1:=g.Sf.h1;have r6:=g.Sr.h6;have r1:=g.Sr.h1;have tl:=g.len;obtain⟨k,ek⟩:=Ow (Ot (c/7) (show (f.length:Int)≠0 by lia));have hk:k<f.length:=by have:=Od (c/7) (show 0<(f.length:Int) by lia);lia
 obtain⟨Lv,ep⟩:=Ow (Ot (c/42) (show (r.length:Int)≠0 by lia));have Ka:Lv<r.length:=by have:=Od (c/42) (show 0<(r.length:Int) by lia);lia
 obtain⟨l,hl⟩:∃ l,l=t[k]'(by lia):=⟨_,rfl⟩
 have ll:l.length=r.length:=g.row l (by rw[hl];exact N4 _);have i1:bo (.lst (t.map lI)) (.int (k:Int))=M.ok (lI l):=br (p:=.lst (t.map lI)) rfl (by rw[NT,Nt (by lia),hl];rfl);obtain⟨bad,eb,hb⟩:=B9 (Q:=λp=>bB [p,.int (r.length:Int)]=M.ok (.bl false)) (ws:=[.lst (l.map PV.int++[.int 0]),.lst ((l.map PV.int).take ((l.map PV.int).length-1)),.bz,.emp,.lst (Nv r.length (.bl true)),.str (NF "teeth"),.lst ((l.map PV.int).take Lv++[.bz]++(l.map PV.int).drop (Lv+1))]) (λp hp=>by
  simp only[NJ,Sk,or_false] at hp;rcases hp with rfl | rfl | rfl | rfl | rfl | rfl | rfl
  .have:=l7 (l++[0]) (r.length:Int) (aH (by simp;lia));rw[decide_eq_false (by simp;lia)] at this
   rwa [lI,QF] at this
  .have:=l7 (l.take (l.length-1)) (r.length:Int) (aH (by simp;lia));rw[decide_eq_false (by simp;lia)] at this;rw[Nu,<- R7];exact this
  .exact AM _
  .exact Bk _
  .exact BJ true _ _ r1 (by lia)
  .exact AO _ _
  .exact zm l Lv _ (by lia)) (j:=c%7) (by lia) (by show c%7<7;lia)
 have tb:=zT (r:=r) (q:=lI r) (x:=vf f k) rfl hb;obtain⟨Z,eZ,hZ⟩:∃ Z,bo (.lst [.lst ((t.map lI).drop (k+1)),.lst (Nv f.length (.str (NF "teeth")))]) (.int (c/756%2))=M.ok (.lst Z)/\Z.length<=20:=by
  rcases t6 (a:=PV.lst ((t.map lI).drop (k+1))) (b:=.lst (Nv f.length (.str (NF "teeth")))) (c/756) with ⟨x,e,rfl | rfl⟩
  .exact⟨_,e,by simp;lia⟩
  .exact⟨_,e,by simp;lia⟩
 unfold dX dR;have a1:bG (lI l) (.lst [.int 0])=M.ok (.lst (l.map PV.int++[.int 0])):=dh _ _ (by simp;lia);have a2:sx (lI l) none (some (-1))=M.ok (.lst ((l.map PV.int).take ((l.map PV.int).length-1))):=Ef (by simp;lia);have a3:bH (.lst [.bl true]) (.int (r.length:Int))=M.ok (.lst (Nv r.length (.bl true))):=gx (.bl true) r.length (by lia);have a4:sx (lI l) none (some (Lv:Int))=M.ok (.lst ((l.map PV.int).take Lv)):=w9 _ _;have a5:bG (.lst ((l.map PV.int).take Lv)) (.lst [.bz])=M.ok (.lst ((l.map PV.int).take Lv++[.bz])):=dh _ _ (by simp;lia);have a6:sx (lI l) (some ((Lv:Int)+1)) none=M.ok (.lst ((l.map PV.int).drop (Lv+1))):=pV _ _;have a7:bG (.lst ((l.map PV.int).take Lv++[.bz])) (.lst ((l.map PV.int).drop (Lv+1)))=M.ok (.lst ((l.map PV.int).take Lv++[.bz]++(l.map PV.int).drop (Lv+1))):=dh _ _ (by simp;lia);have a8:sx (.lst (t.map lI)) none (some (k:Int))=M.ok (.lst ((t.map lI).take k)):=w9 _ _;have a9:bG (.lst ((t.map lI).take k)) (.lst [bad])=M.ok (.lst ((t.map lI).take k++[bad])):=dh _ _ (by simp;lia);have MP:sx (.lst (t.map lI)) (some ((k:Int)+1)) none=M.ok (.lst ((t.map lI).drop (k+1))):=pV _ _;have MQ:bH (.lst [.str (NF "teeth")]) (.int (f.length:Int))=M.ok (.lst (Nv f.length (.str (NF "teeth")))):=gx _ f.length (by lia);have MR:bG (.lst ((t.map lI).take k++[bad])) (.lst Z)=M.ok (.lst ((t.map lI).take k++[bad]++Z)):=dh _ _ (by simp;lia);have a13:bG (.lst (t.map lI)) (.lst [lI l])=M.ok (.lst (t.map lI++[lI l])):=dh _ _ (by simp;lia);have d1:=bq (i:=c) (j:=7) (by decide) (by decide);have d2:=bq (i:=c) (j:=42) (by decide) (by decide);have d3:=bq (i:=c) (j:=756) (by decide) (by decide);have d4:=bq (i:=c) (j:=252) (by decide) (by decide);have e1:=aA (i:=c/7) (j:=(f.length:Int)) (by lia);have e2:=aA (i:=c/42) (j:=(r.length:Int)) (by lia);have e3:=aA (i:=c) (j:=7) (by decide);have e4:=aA (i:=c/756) (j:=2) (by decide);have e5:=aA (i:=c/252) (j:=3) (by decide);have s6:6<=sizeLine:=aH (by decide);rw[Nu] at a2 eb;have ak:=λenv=>gG (i:=7) (env:=env) (xs:=[.lst (l.map PV.int++[.int 0]),.lst ((l.map PV.int).take (l.length-1)),.bz,.emp,.lst (Nv r.length (.bl true)),.str (NF "teeth")]) (p:=.lst ((l.map PV.int).take Lv++[.bz]++(l.map PV.int).drop (Lv+1))) (show 6<1000 by decide);rcases show c/252%3=0\/c/252%3=1\/c/252%3=2 by lia with z | z | z
 .refine⟨k,(t.map lI).take k++[bad]++Z,?_,oj g rfl rfl hk hZ tb⟩;dsimp? [Nu,d1,e1,ek,d2,e2,ep,i1,fJ,s6,if_true,cK,ix,cz,uk,kD,a1,a2,a3,a4,a5,a6,a7,a8,a9,MP,MQ,MR,a13,fV,ownAt,ak,Qt,P_,e3,eb,d3,e4,eZ,d4,e5,z,decide_true]
 .refine⟨k,(t.map lI).take k,?_,sj g rfl rfl hk⟩;dsimp? [Nu,d1,e1,ek,d2,e2,ep,i1,fJ,s6,if_true,cK,ix,cz,uk,kD,a1,a2,a3,a4,a5,a6,a7,a8,a9,MP,MQ,MR,a13,fV,ownAt,ak,Qt,P_,e3,eb,d3,e4,eZ,d4,e5,z,decide_true,show decide ((1:Int)=0)=false from rfl]
 .refine⟨f.length,t.map lI++[lI l],?_,wA g rfl rfl _⟩;dsimp? [Nu,d1,e1,ek,d2,e2,ep,i1,fJ,s6,if_true,cK,ix,cz,uk,kD,a1,a2,a3,a4,a5,a6,a7,a8,a9,MP,MQ,MR,a13,fV,ownAt,ak,Qt,P_,e3,eb,d3,e4,eZ,d4,e5,z,show decide ((2:Int)=0)=false from rfl,show decide ((2:Int)=1)=false from rfl]
end
section
variable{f:List Int}{pt:PV}
theorem vC{l:List Int}(Sr:Sz r)(hl:l.length=r.length)(hb:∀ x∈l,x.natAbs<2^91){x:Int}(hx:x.natAbs<2^31)(hq:aW q=some (r.map PV.int)):aO [lI l,.int x,q]=M.ok (.bl ((l.zip r).all λa=>decide (x*a.1%a.2=0))):=by
 have l6:=Sr.h6;have key:cb (bM 0 1) none (ai rg (ai bT (ai bH (ah 2) (ah 0)) (ah 1)) (λ_=>M.ok (.int 0))) ((l.zip r).map λa=>.tup [.int a.1,.int a.2]) [none,none,some (.sh (.int x))]=M.ok ((l.zip r).map λa=>.bl (decide (x*a.1%a.2=0))):=by
  refine iz (p:=λa:Int×Int=>PV.int a.1) (q:=λa:Int×Int=>PV.int a.2) (l.zip r) λa ha=>?_;obtain⟨m1,m2⟩:=qv ha;have a2:=Sr.hx _ m2;dsimp? [bu (i:=x) (j:=a.1) (k:=31) (l:=91) hx (hb _ m1),aA (i:=x*a.1) (j:=a.2) (by lia)]
 have z1:(l.zip r).length<=sizeLine:=by rw[OO];exact aH (NZ (Qn _ _) (by lia))
 unfold aO cw;dsimp? [aJ hq,l7 l (r.length:Int) (aH (by lia)),hl,decide_true,gv (p:=lI l) (q:=q) l r rfl hq,Nu,au z1,key,sJ (λa:Int×Int=>decide (x*a.1%a.2=0))]
theorem sG(g:Gr f r t)(hi:i<f.length)(hj:j<r.length)(h:0<vf f i%vf r j):aO [lI ((t[i]'(by rw[g.len];exact hi)).set j (vf (t[i]'(by rw[g.len];exact hi)) j+1)),.int (vf f i),lI r]=M.ok (.bl false):=by
 obtain⟨l,hl⟩:∃ l,l=t[i]'(by rw[g.len];exact hi):=⟨_,rfl⟩
 rw[<- hl];have ml:l∈t:=by rw[hl];exact N4 _
 have ll:=g.row l ml;have fi:=i_ g.Sf i hi;have rj:=i_ g.Sr j hj;have bl:=g.bd l ml;have vm:vf l j∈l:=by rw[bC (by lia)];exact N4 _
 have vb:=bl _ vm;rw[vC g.Sr (by rw[P9];exact ll) (λx hx=>?_) (by lia) rfl]
 .have d:vf r j∣vf f i*vf l j:=by
   have:=g.dv i hi j hj;unfold AA at this
   rwa [NR,Nt (by rw[g.len];exact hi),Qs,<- hl] at this
  congr 2;rw[List.all_eq_false];refine⟨(vf l j+1,vf r j),Oa.mpr ⟨j,by simp;lia,by simp[bC hj]⟩,?_⟩;simp only[decide_eq_true_eq];intro z;have e1:=Int.emod_emod_of_dvd;have:vf r j∣vf f i*(vf l j+1):=Int.dvd_of_emod_eq_zero z;rw[Rl,Int.mul_one] at this;have:vf r j∣vf f i:=(Int.dvd_add_right d).mp this;have:=Sj this;lia
 .rcases List.mem_or_eq_of_mem_set hx with h | h
  .have:=bl x h;lia
  .rw[h];lia
theorem zj(g:Gr f r t)(c:Int):∃ (k:Nat) (rows:List PV),cx [.int c,lI f,lI r,.lst (t.map lI)]=M.ok (.tup [.int k,.lst rows])/\a_ [lI f,lI r,.lst rows]=some (.error (fk k)):=by
 have f6:=g.Sf.h6;have f1:=g.Sf.h1;have r6:=g.Sr.h6;have tl:=g.len
 suffices h:iD (cx [.int c,lI f,lI r,.lst (t.map lI)]) λp=>∃ (k:Nat) (rows:List PV),p=.tup [.int k,.lst rows]/\a_ [lI f,lI r,.lst rows]=some (.error (fk k)) by
  obtain⟨_,e,k,rows,rfl,q⟩:=h;exact⟨k,rows,e,q⟩
 unfold cx dg;dsimp? [ki];refine iD.Ce (xs:=f.zipIdx) (inj:=λa=>.tup [.int (a.2:Int),.int a.1]) (λzs env=>(∃ y4 y5 y6 y7 y8 y9:Option SV,env=[some (.sh (.int c)),some (.sh (lI f)),some (.sh (lI r)),some (.sh (.lst (t.map lI))),y4,y5,y6,y7,y8,y9])/\∀ z∈zs,z∈f.zipIdx) ⟨⟨_,_,_,_,_,_,rfl⟩,λz h=>h⟩ ?_ ?_
 .rintro⟨s,i⟩ rr env ⟨⟨y4,y5,y6,y7,y8,y9,rfl⟩,hm⟩;have hm1:=hm (s,i) NU;have hi:i<f.length:=jt hm1;have es:s=vf f i:=by
   obtain⟨j,hj,e⟩:=Oa.mp hm1;rw[Pc] at e;have e1:=congrArg US e;have e2:=congrArg UR e;simp at e1 e2;subst e2;rw[bC hi,e1]
  have fi:=i_ g.Sf i hi;dsimp? [bM,ki];refine iD.Ce (xs:=r.zipIdx) (inj:=λa=>.tup [.int (a.2:Int),.int a.1]) (λzs env=>(∃ y6 y7 y8 y9:Option SV,env=[some (.sh (.int c)),some (.sh (lI f)),some (.sh (lI r)),some (.sh (.lst (t.map lI))),some (.sh (.int (i:Int))),some (.sh (.int s)),y6,y7,y8,y9])/\∀ z∈zs,z∈r.zipIdx) ⟨⟨_,_,_,_,rfl⟩,λz h=>h⟩ ?_ ?_
  .rintro⟨o,j⟩ rr env ⟨⟨y6,y7,y8,y9,rfl⟩,hn⟩;have hn1:=hn (o,j) NU;have hj:j<r.length:=jt hn1;have eo:o=vf r j:=by
    obtain⟨j',M5,e⟩:=Oa.mp hn1;rw[Pc] at e;have e1:=congrArg US e;have e2:=congrArg UR e;simp at e1 e2;subst e2;rw[bC hj,e1]
   have rj:=i_ g.Sr j hj
   by_cases h1:0<s%o
   .by_cases h2:(c+(i:Int)+(j:Int))%2=0
    .obtain⟨l,hl⟩:∃ l,l=t[i]'(by lia):=⟨_,rfl⟩
     have ml:l∈t:=by rw[hl];exact N4 _
     have ll:=g.row l ml;have i1:bo (.lst (t.map lI)) (.int (i:Int))=M.ok (lI l):=br (p:=.lst (t.map lI)) rfl (by rw[NT,Nt (by lia),hl];rfl);have i2:bo (lI l) (.int (j:Int))=M.ok (.int (vf l j)):=br (p:=lI l) rfl (by rw[NT,bC (by lia),Nt (by lia)];rfl);have a8:sx (.lst (t.map lI)) none (some (i:Int))=M.ok (.lst ((t.map lI).take i)):=w9 _ _;have MP:sx (.lst (t.map lI)) (some ((i:Int)+1)) none=M.ok (.lst ((t.map lI).drop (i+1))):=pV _ _;have a9:∀ x,bG (.lst ((t.map lI).take i)) (.lst [x])=M.ok (.lst ((t.map lI).take i++[x])):=λx=>dh _ _ (by simp;lia);have MQ:bH (.lst [.bz]) (.int (((t.map lI).drop (i+1)).length:Int))=M.ok (.lst (Nv ((t.map lI).drop (i+1)).length .bz)):=gx _ _ (by simp;lia);obtain⟨Z,eZ,hZ⟩:∃ Z,bo (.lst [.lst ((t.map lI).drop (i+1)),.lst (Nv ((t.map lI).drop (i+1)).length .bz)]) (.int (c%2))=M.ok (.lst Z)/\Z.length<=20:=by
      rcases t6 (a:=PV.lst ((t.map lI).drop (i+1))) (b:=.lst (Nv ((t.map lI).drop (i+1)).length .bz)) c with ⟨x,e,rfl | rfl⟩
      .exact⟨_,e,by simp;lia⟩
      .exact⟨_,e,by simp;lia⟩
     have MR:∀ x,bG (.lst ((t.map lI).take i++[x])) (.lst Z)=M.ok (.lst ((t.map lI).take i++[x]++Z)):=λx=>dh _ _ (by simp;lia);have tb:=sG g hi hj (by rw[<- es,<- eo];exact h1);rw[<- hl] at tb;have fin:=oj (pf:=lI f) (q:=lI r) (Z:=Z) g rfl rfl hi hZ tb;dsimp? [bM,aA (i:=s) (j:=o) (by lia),h1,decide_true,aA (i:=c+(i:Int)+(j:Int)) (j:=2) (by decide),h2,o3,i1,IM,yS,ownAt,lX,i2,r_];have i2':bo (PV.lst (l.map PV.int)) (.int (j:Int))=M.ok (.int (vf l j)):=i2;have px:=λenv=>xw (i:=8) (j:=j) (xs:=l) (v:=vf l j+1) (env:=env) (by lia);dsimp? [i2',r_,px,cK,ix,cz,uk,MP,MQ,aA (i:=c) (j:=2) (by decide),eZ,lX,a8,a9,MR];exact⟨_,rfl,_,rfl,_,rfl,i,_,rfl,fin⟩
    .dsimp? [bM,aA (i:=s) (j:=o) (by lia),h1,decide_true,aA (i:=c+(i:Int)+(j:Int)) (j:=2) (by decide),h2,decide_false];exact⟨_,rfl,⟨_,_,_,_,rfl⟩,λz h=>hn z (NH _ h)⟩
   .dsimp? [bM,aA (i:=s) (j:=o) (by lia),h1,decide_false];exact⟨_,rfl,⟨_,_,_,_,rfl⟩,λz h=>hn z (NH _ h)⟩
  .rintro env ⟨⟨y6,y7,y8,y9,rfl⟩,_⟩;dsimp? [];exact⟨_,rfl,⟨_,_,_,_,_,_,rfl⟩,λz h=>hm z (NH _ h)⟩
 .rintro env ⟨⟨y4,y5,y6,y7,y8,y9,rfl⟩,_⟩;dsimp? [];exact⟨_,rfl,0,[],rfl,sj (k:=0) g rfl rfl (by lia)⟩
end
theorem yJ{o:Bool->PV}{d:PyData}(h1:dat p=some d)(h2:Tz d=true):wz o p p=M.ok (o true):=by
 unfold wz;rw[h1];show C3 _ d d=_;unfold C3;rw[au ⟨h2,h2⟩,SeqAt.eqv_refl d (SeqAt.canLay_of_shaped h2)]
structure Du where
 s:Str
 k:Option Nat
def Du.x(u:Du):PV:=match u.k with
 | none=>.bz
 | some k=>.int (k:Int)
def Du.ok(u:Du):Prop:=u.s=NF "too many" /\ u.k=none\/u.s=NF "no setting" /\ u.k=none\/(u.s=NF "dial" \/ u.s=NF "gear")/\∃ k,u.k=some k
theorem Du.dat(u:Du)(h:u.ok):∃ d,L2.dat (.tup [.str u.s,u.x,sO])=some d/\Tz d=true:=by
 obtain⟨s,k⟩:=u;have hs:PyData.strOk s=true:=by
  rcases h with ⟨h,h2⟩ | ⟨h,h2⟩ | ⟨h | h,k',h2⟩ <;> (simp only at h;subst h;decide +kernel)
 cases k with
 | none=>exact⟨_,rfl,by simp[Ue,OY,PF,Pe,Qa,hs]⟩
 | some k=>exact⟨_,rfl,by simp[Ue,OY,PF,Pe,Qa,hs]⟩
theorem Du.ne(u:Du)(h:u.ok):Fm (.tup [.str u.s,u.x,sO]) (.tup [.str u.s,u.x,sO])=M.ok (.bl false):=by
 obtain⟨d,h1,h2⟩:=u.dat h;exact yJ (o:=λb=>.bl (!b)) h1 h2
theorem Du.eq(u:Du)(h:u.ok):Co (.tup [.str u.s,u.x,sO]) (.tup [.str u.s,u.x,sO])=M.ok (.bl true):=by
 obtain⟨d,h1,h2⟩:=u.dat h;exact yJ (o:=λb=>.bl b) h1 h2
theorem xI(xs ys:List PV)(h:xs.length+ys.length<=1000):bG (.tup xs) (.tup ys)=M.ok (.tup (xs++ys)):=by
 rw[bG,au (aH h)]
section
variable{f:List Int}{pt:PV}
theorem oU(S:Sz xs){x:Int}(hx:¬ (2<=x/\x<=360)):aV [lI (xs.take (xs.length-1)++[x])]=some (.error (mE (xs.length-1))):=by
 have h1:=S.h1;have h6:=S.h6;have hl:(xs.take (xs.length-1)++[x]).length=xs.length:=by simp;lia
 have:=tQ (p:=lI (xs.take (xs.length-1)++[x])) _ rfl (by lia) (by lia);have e:fb xs.length (EW (xs.take (xs.length-1)++[x]))=some (xs.length-1):=by
  refine FD (by lia) (λj hj=>?_) ?_
  .unfold EW;rw[NR,N9 (by simp;lia),PK hj,Nt (by lia)];exact decide_eq_true (S.hx _ (N4 _))
  .unfold EW;rw[NR,N2 (by simp),Pj,show xs.length-1-min (xs.length-1) xs.length=0 by lia];exact decide_eq_false hx
 rw[hl,e] at this;exact this
theorem xQ:aV [.lst (Nv 7 (.int 2))]=some (.error (bf,none)):=vU (p:=.lst (Nv 7 (.int 2))) (Nv 7 2) rfl (by decide)
abbrev Rw:=PV×PV×PV×Du
def Jk(z:Rw):PV:=.tup [z.1,z.2.1,z.2.2.1,.tup [.str z.2.2.2.s,z.2.2.2.x]]
theorem uq(g:Gr f r t)(c:Int):dH [.int c,lI f,lI r,.lst (t.map lI)]=M.ok (.bl true):=by
 have f6:=g.Sf.h6;have f1:=g.Sf.h1;have r6:=g.Sr.h6;have r1:=g.Sr.h1;have tl:=g.len;obtain⟨k,W,es,ew⟩:=tV g c;obtain⟨k2,W2,es2,ew2⟩:=zj g c;have c0:0<=c%10^9:=Ot _ (by decide)
 let z:List Rw:=[(.lst (Nv 7 (.int 2)),.lst [],.lst W,⟨NF "too many", none⟩),(.lst [],.lst (Nv 7 (.int 2)),.lst W,⟨NF "dial", some 0⟩),(lI (f.take (f.length-1)++[361+c%10^9]),.lst [],.lst W,⟨NF "dial", some (f.length-1)⟩),
  (lI f,.lst (Nv 7 (.int 2)),.lst W,⟨NF "too many", none⟩),(lI f,lI (r.take (r.length-1)++[1]),.lst W,⟨NF "dial", some (r.length-1)⟩),(lI f,lI r,.lst W,⟨NF "gear", some k⟩),(lI f,lI r,.lst W2,⟨NF "gear", some k2⟩)]
 have hz:∀ w∈z,bF [w.1,w.2.1,w.2.2.1,.bz]=M.ok (.tup [.str w.2.2.2.s,w.2.2.2.x,sO])/\w.2.2.2.ok:=λw hw=>by
  simp only[z,NJ,Sk,or_false] at hw;rcases hw with rfl | rfl | rfl | rfl | rfl | rfl | rfl
  .exact⟨o6 (qd xQ),.inl ⟨rfl,rfl⟩⟩
  .exact⟨kz (qd (yT (p:=.lst []) rfl)),.inr (.inr ⟨.inl rfl,_,rfl⟩)⟩
  .exact⟨kz (qd (oU g.Sf (by lia))),.inr (.inr ⟨.inl rfl,_,rfl⟩)⟩
  .exact⟨o6 (uY (pf:=lI f) g.Sf rfl xQ),.inl ⟨rfl,rfl⟩⟩
  .exact⟨kz (uY (pf:=lI f) g.Sf rfl (oU g.Sr (by lia))),.inr (.inr ⟨.inl rfl,_,rfl⟩)⟩
  .exact⟨oN (u6 (pf:=lI f) (q:=lI r) g.Sf g.Sr rfl rfl ew),.inr (.inr ⟨.inr rfl,_,rfl⟩)⟩
  .exact⟨oN (u6 (pf:=lI f) (q:=lI r) g.Sf g.Sr rfl rfl ew2),.inr (.inr ⟨.inr rfl,_,rfl⟩)⟩
 have m7:bH (.lst [.int 2]) (.int 7)=M.ok (.lst (Nv 7 (.int 2))):=gx (.int 2) 7 (by decide);have cf:sx (lI f) none (some (-1))=M.ok (.lst ((f.map PV.int).take ((f.map PV.int).length-1))):=Ef (by simp;lia);have cr:sx (lI r) none (some (-1))=M.ok (.lst ((r.map PV.int).take ((r.map PV.int).length-1))):=Ef (by simp;lia);have p9:vJ (.int 10) (.int 9)=M.ok (.int (10^9)):=by rfl
 have af:∀ x:Int,bG (.lst ((f.map PV.int).take (f.length-1))) (.lst [.int x])=M.ok (lI (f.take (f.length-1)++[x])):=λx=>by
  rw[dh _ _ (by simp;lia),lI,QF,R7];rfl
 have ar:∀ x:Int,bG (.lst ((r.map PV.int).take (r.length-1))) (.lst [.int x])=M.ok (lI (r.take (r.length-1)++[x])):=λx=>by
  rw[dh _ _ (by simp;lia),lI,QF,R7];rfl
 have sf:(f.length:Int)-1=((f.length-1:Nat):Int):=by lia
 have sr:(r.length:Int)-1=((r.length-1:Nat):Int):=by lia
 refine iD.eq ?_;unfold dH dU;have s2:2<=sizeLine:=aH (by decide);have s3:3<=sizeLine:=aH (by decide);have s7:7<=sizeLine:=aH (by decide);have ak3:=λenv a b c p=>gG (i:=8) (env:=env) (xs:=[a,b,c]) (p:=p) (show 3<1000 by decide);have ak4:=λenv a b c d p=>gG (i:=8) (env:=env) (xs:=[a,b,c,d]) (p:=p) (show 4<1000 by decide);dsimp? [es,es2,Bj,bM,m7,fJ,s2,if_true,Ag,Cb,cK,ix,cz,uk,kD,cf,p9,aA (i:=c) (j:=10^9) (by decide),af,Nu,sf,lX,au,cr,ar,sr,fV,ownAt,au s3,au s7,ak3,ak4,Qt,P_];have st4:∀ (a b c d:PV) (env:ae),zV [9,10,11,12] (.tup [a,b,c,d]) env=M.ok ((((env.set 9 (some (.sh a))).set 10 (some (.sh b))).set 11 (some (.sh c))).set 12 (some (.sh d))):=λa b c d env=>au rfl;refine iD.loop (xs:=z) (inj:=Jk) (λzs env=>(∃ y8 y9 LD y11 y12:Option SV,env=[some (.sh (.int c)),some (.sh (lI f)),some (.sh (lI r)),some (.sh (.lst (t.map lI))),some (.sh (.int k)),some (.sh (.lst W)),some (.sh (.int k2)),some (.sh (.lst W2)),y8,y9,LD,y11,y12,none])/\∀ w∈zs,w∈z) ⟨⟨_,_,_,_,_,rfl⟩,λw h=>h⟩ ?_ ?_
 .rintro w zs env ⟨⟨y8,y9,LD,y11,y12,rfl⟩,hm⟩;obtain⟨h1,h2⟩:=hz w (hm w NU);have a1:bG (.tup [.str w.2.2.2.s,w.2.2.2.x]) (.tup [.lst [.bl false,.bl false,.bl false]])=M.ok (.tup [.str w.2.2.2.s,w.2.2.2.x,sO]):=xI _ _ (show 2+1<=1000 by decide);rw[Jk,st4];dsimp? [h1,a1,w.2.2.2.ne h2];exact⟨_,rfl,⟨_,_,_,_,_,rfl⟩,λw h=>hm w (NH _ h)⟩
 .rintro env ⟨⟨y8,y9,LD,y11,y12,rfl⟩,_⟩;have m1:bH (.tup [.int 0]) (.int ((f.length:Int)+1))=M.ok (.tup (Nv (f.length+1) (.int 0))):=by
   have:=mul_one (.int 0) (f.length+1) (by lia)
   rwa [show ((f.length+1:Nat):Int)=(f.length:Int)+1 by lia] at this
  have m2:bH (.lst [.int 0]) (.int (f.length:Int))=M.ok (.lst (Nv f.length (.int 0))):=gx _ _ (by lia);obtain⟨b,eb,hb⟩:=B9 (Q:=λp=>bO [la f [],p]=some (.error (aM,none))) (ws:=[.tup (Nv (f.length+1) (.int 0)),tI f,.lst (Nv f.length (.int 0)),.bz]) (λp hp=>by
   simp only[NJ,Sk,or_false] at hp;rcases hp with rfl | rfl | rfl | rfl
   .refine jX ?_;have:=yO (Ls:=[]) g.Sf (xs:=Nv (f.length+1) 0) (by simp;lia) (by
     cases e:uo f (Nv (f.length+1) 0) with
     | false=>rfl
     | true=>have:=(p5.mp e).len;simp at this)
    rwa [tI,P8] at this
   .refine jX (yO g.Sf (by lia) ?_);cases e:uo f f with
    | false=>rfl
    | true =>
     have:=(p5.mp e).w_ (f[0],f[0]) (Oa.mpr ⟨0,by simp;lia,by simp⟩);simp at this
   .exact jX (BB _)
   .exact jX Bv) (j:=c%4) (by lia) (by show c%4<4;lia)
  dsimp? [m1,m2,aA (i:=c) (j:=4) (by decide)];have eb':bo (PV.lst [PV.tup (PV.int 0::Nv f.length (PV.int 0)),PV.tup (f.map PV.int),PV.lst (Nv f.length (PV.int 0)),PV.bz]) (.int (c%4))=M.ok b:=eb;rw[eb',M.aT,told_set (ux (pf:=lI f) (q:=lI r) (pt:=.lst (t.map lI)) g rfl rfl rfl) hb,M.aT];have e:=Du.eq ⟨NF "no setting", none⟩ (.inr (.inl ⟨rfl,rfl⟩));show iD ((Co (.tup [.str (NF "no setting"),.bz,sO]) (.tup [.str (NF "no setting"),.bz,sO])).bind λa=>M.ok a) _;rw[show Co (.tup [.str (NF "no setting"),.bz,sO]) (.tup [.str (NF "no setting"),.bz,sO])=M.ok (.bl true) from e];exact⟨_,rfl,rfl⟩
end
def pQ(xs ys ss:List Int):List Int:=(xs.zip (ys.zip ss)).map λz=>(z.1+z.2.1)%z.2.2
section
variable{f:List Int}{pt:PV}
theorem j3(h1:xs.length=J1.length)(h2:ys.length=J1.length):(pQ xs ys J1).length=J1.length:=by simp[pQ,h1,h2]
theorem sR(h1:xs.length=J1.length)(h2:ys.length=J1.length)(hi:i<J1.length):vf (pQ xs ys J1) i=(vf xs i+vf ys i)%vf J1 i:=by
 rw[bC (by rw[j3 h1 h2];exact hi),bC (by lia),bC (by lia),bC hi];simp[pQ]
theorem um(S:Sz J1)(h1:xs.length=J1.length)(h2:ys.length=J1.length):Kp J1 (pQ xs ys J1):=⟨j3 h1 h2,λi hi=>by
 rw[sR h1 h2 hi];have:=i_ S i hi;exact⟨Ot _ (by lia),Od _ (by lia)⟩⟩
theorem qt(S:Sz J1){u:PV}(hp:aW p=some (xs.map PV.int))(hq:aW q=some (ys.map PV.int))(hu:aW u=some (J1.map PV.int))(e0 e1 e2:Option SV) :
  qE [p,q,u]=M.ok ((xs.zip (ys.zip J1)).map λz=>.tup [.int z.1,.int z.2.1,.int z.2.2])/\(xs.zip (ys.zip J1)).length<=sizeLine/\cb (mz 0 1 2) none (ai bT (ai bG (ah 0) (ah 1)) (ah 2)) ((xs.zip (ys.zip J1)).map λz=>.tup [.int z.1,.int z.2.1,.int z.2.2]) [e0,e1,e2]=M.ok ((pQ xs ys J1).map PV.int):=by
 refine⟨zy xs ys J1 hp hq hu,?_,?_⟩
 .have:=S.h6;rw[OO,OO];exact aH (by lia)
 .rw[pQ,ON];refine Eb (p:=λz:Int×Int×Int=>PV.int z.1) (q:=λz=>PV.int z.2.1) (s:=λz=>PV.int z.2.2) (xs.zip (ys.zip J1)) λz hz=>?_;have m:2<=z.2.2/\z.2.2<=360:=S.hx _ (O1 (a:=z.2.1) (b:=z.2.2) (O1 (a:=z.1) (b:=z.2) hz).2).2;dsimp? [aA (i:=z.1+z.2.1) (j:=z.2.2) (by lia)];rfl
theorem uK(g:Gr f r t){b x:List Int}(hb:Kp f b)(hx:Kp f x):km r t (pQ b x f)=pQ (km r t b) (km r t x) r:=by
 have l1:=lD (r:=r) (t:=t) b;have l2:=lD (r:=r) (t:=t) x;refine Af (J1:=r) (lD _) (j3 l1 l2) (D7 g (j3 hb.1 hx.1)).2 (um g.Sr l1 l2).2 λj hj=>?_;rw[pM g (j3 hb.1 hx.1) hj,sR l1 l2 hj,pM g hb.1 hj,pM g hx.1 hj];have d:=Bm g (x:=vf (pQ b x f)) (y:=λi=>vf b i+vf x i) (λi hi=>by
  rw[sR hb.1 hx.1 hi];exact⟨-((vf b i+vf x i)/vf f i),by have:=Pw (vf b i+vf x i) (vf f i);rw[Int.mul_neg];lia⟩) hj
 rw[Ec (f:=f) (t:=t) 1 1 (x:=vf b) (y:=vf x) (z:=λi=>vf b i+vf x i) (λi _=>by lia) j,Int.one_mul,Int.one_mul] at d;generalize ph f.length t (vf (pQ b x f)) j=A at *;generalize ph f.length t (vf b) j=B at *;generalize ph f.length t (vf x) j=C at *;generalize vf r j=m at *;obtain⟨e,he⟩:=d;have q1:=Pw A m;have q2:=Pw B m;have q3:=Pw C m;have q4:=Pw (B%m+C%m) m;refine⟨e-A/m+B/m+C/m+(B%m+C%m)/m,?_⟩;rw[Rl,Rl,Rl,Int.mul_sub];lia
theorem Dv(xs:List (List Int)):kh (xs.map lI)=some (xs.map λr=>.list (r.map O4)):=by
 induction xs with
 | nil=>rfl
 | cons a r ih=>simp[kh,dat,lI,oX] at ih ⊢;simp[ih]
theorem zb(xs:List (List Int)):PF (xs.map λr=>.list (r.map O4))=true:=by
 induction xs with
 | nil=>rfl
 | cons a r ih=>simp[PF,OY,ih,kM]
theorem BL(xs:List (List Int)):Qa (xs.map λr=>.list (r.map O4))<=1:=by
 induction xs with
 | nil=>exact Om _
 | cons a r ih=>simp[Qa,Pe,mF,ih]
theorem u_:∀ (xs ys:List (List Int)),Q2 (xs.map λr=>.list (r.map O4)) (ys.map λr=>.list (r.map O4))=true
 | [],[]=>by simp[Q2]
 | [],_::_=>by simp[Q2]
 | _::_,[]=>by simp[Q2]
 | a::r,b::s=>by simp[Q2,U6,L2.noMix_ints,u_ r s]
theorem zA:∀ (xs ys:List (List Int)),RE (xs.map λr=>.list (r.map O4)) (ys.map λr=>.list (r.map O4))=decide (xs=ys)
 | [],[]=>by simp[RE]
 | [],_::_=>by simp[RE]
 | _::_,[]=>by simp[RE]
 | a::r,b::s=>by
  simp only[NX,RE,zA r s];unfold Spec.same;rw[L2.same_ints,SA];simp
theorem Gz(xs:List (List Int)):pG (.lst (xs.map lI)) (.lst (xs.map lI))=M.ok (.bl false):=by
 simp only[pG,n9,dat,Dv,UG,DI];have h1:=BL xs;rw[au (by simp[Ue,OY,Pe,zb,U6,u_];lia)];unfold Spec.same;rw[zA,decide_eq_true rfl];rfl
theorem vX(xs:List Int)(h:xs.length<=100):bG (.lst [.int 0]) (.lst (xs.map PV.int))=M.ok (.lst ((0::xs).map PV.int)):=by
 rw[bG,au (aH (by simp;lia))];rfl
theorem BD(f r:List Int)(t:List (List Int)):ng (gO f r t)=true:=by
 have tI2:∀ xs:List Int,ng (tI xs)=true:=λxs=>by
  show oB (xs.map PV.int)=true
  induction xs with
  | nil=>rfl
  | cons x xs ih=>exact OU.mpr ⟨rfl,ih⟩
 have tT:∀ ts:List (List Int),ng (.tup (ts.map tI))=true:=λts=>by
  show oB (ts.map tI)=true
  induction ts with
  | nil=>rfl
  | cons x xs ih=>exact OU.mpr ⟨tI2 x,ih⟩
 have tv:∀ xs:List Int,ng (la xs [])=true:=λxs=>by
  show kL (qZ xs [])=true;simp only[qZ,kL,tI2,Qp];rfl
 show kL (gF f r t)=true;simp only[gF,kL,tv,tT];rfl
theorem vI(S:Sz f)(a:Int):∃ ys:List Int,cb (bM 0 1) none (ai bT (aj ck (aa (ah 2) (aa (ai bG (λ_=>M.ok (.int 30)) (ah 0)) ao))) (ah 1)) (f.zipIdx.map λa=>.tup [.int (a.2:Int),.int a.1]) [none,none,some (.sh (.int a))]=M.ok (ys.map PV.int)/\Kp f ys:=by
 have f6:=S.h6;have ex:∀ k:Nat,∃ y:Int,k<=70->ck [.int a,.int (30+(k:Int))]=M.ok (.int y):=λk=>by
  by_cases hk:k<=70
  .obtain⟨y,ey,_⟩:=tK a (30+k) (by lia);rw[show ((30+k:Nat):Int)=30+(k:Int) by lia] at ey;exact⟨y,λ_=>ey⟩
  .exact⟨0,λh=>(hk h).elim⟩
 obtain⟨m,hm⟩:=Uv.mp ex;refine⟨f.zipIdx.map λz=>m z.2%z.1,?_,by simp,λi hi=>?_⟩
 .rw[ON];refine iz (p:=λz:Int×Nat=>PV.int (z.2:Int)) (q:=λz=>PV.int z.1) f.zipIdx λz hz=>?_;have h1:=jt hz;have h2:=S.hx _ (OZ hz);dsimp? [hm z.2 (by lia),aA (i:=m z.2) (j:=z.1) (by lia)];rfl
 .have h2:=i_ S i hi;rw[tm _ _ (by rw[Oj];exact hi),Pc,<- bC hi];exact⟨Ot _ (by lia),Od _ (by lia)⟩
theorem E6(ns:List Int):o8 [.iw (ns.map PV.int)]=M.ok (.bl true):=by
 obtain⟨c0,ec0⟩:=qh ns 0 (by decide);rw[show ((0:Nat):Int)=0 from rfl] at ec0;obtain⟨c1,ec1⟩:=qh ns 1 (by decide);rw[show ((1:Nat):Int)=1 from rfl] at ec1;obtain⟨c2,ec2⟩:=qh ns 2 (by decide);rw[show ((2:Nat):Int)=2 from rfl] at ec2;obtain⟨_,es,f,rfl,Sf⟩:=oH c0;obtain⟨_,er,r,rfl,Sr⟩:=oH c1;obtain⟨t,et,g⟩:=y0 Sf Sr c2;have f6:=Sf.h6;have f1:=Sf.h1;have tl:=g.len;have zt:t.length<=sizeLine:=aH (by lia);have kc:cb (e6 0) none (cM (o3 (ah 0))) (t.map lI) [none]=M.ok (t.map lI):=je (inj:=lI) (h:=lI) t λl _=>by dsimp? [cM,o3];rfl
 obtain⟨w,ew,hw⟩:∃ w,bo (.lst [.lst (t.map lI),.tup (t.map lI)]) (.int (c0%2))=M.ok w/\aW w=some (t.map lI):=by
  rcases t6 (a:=PV.lst (t.map lI)) (b:=.tup (t.map lI)) c0 with ⟨x,e,rfl | rfl⟩
  .exact⟨_,e,rfl⟩
  .exact⟨_,e,rfl⟩
 have gm:=ux (pf:=lI f) (q:=tI r) (pt:=w) g rfl rfl hw;have gw:(zo [some (.sh (.iw (ns.map PV.int))),some (.sh (lI f)),some (.sh (lI r)),some (.sh (.lst (t.map lI))),none,none,none,none,none,none,none]=true/\4<11):=⟨rfl,by decide⟩
 refine iD.eq ?_;unfold o8 zO xY;dsimp? [ec0,es,ec1,er,ec2,et];rw[au gw];have z0:bH (.tup [.int 0]) (.int (f.length:Int))=M.ok (tI (Nv f.length 0)):=by
  have:=mul_one (.int 0) f.length (by lia);rw[this,tI,P8]
 have bg:zZ (M.ok (gO f r t))=M.ok (gO f r t):=au (BD f r t);have gm':bZ aQ bW [] [lI f,.tup (r.map PV.int),w]=M.ok (gO f r t):=gm;have nr:=Gz t;have bb:xZ (M.ok false)=M.ok false:=rfl;have tn:t.map lI≠[]:=λh=>by
  have:=congrArg R0 h;rw[Nu,List.length_nil] at this;lia
 dsimp? [Nu,au zt,kc,aA (i:=c0) (j:=2) (by decide),ew,gm',bg,nr,bb,au tn,z0,cK,cz,uk,show sx (.iw (ns.map PV.int)) (some 3) (some 63)=M.ok (.lst ((l0 ns 3 63).map PV.int)) from AR ns 3 63,vX (l0 ns 3 63) (by have:=vW ns 3 63;lia)];have ze:f.zipIdx.length<=sizeLine:=by rw[Oj];exact aH (by lia)
 refine iD.loop (xs:=0::l0 ns 3 63) (inj:=PV.int) (λzs env=>∃ (b:List Int) (y7 y8 y9 LD:Option SV),env=[some (.sh (.iw (ns.map PV.int))),some (.sh (lI f)),some (.sh (lI r)),some (.sh (.lst (t.map lI))),none,some (.sh (gO f r t)),some (.sh (tI b)),y7,y8,y9,LD]/\Kp f b) ⟨_,_,_,_,_,rfl,by simp,xn Sf⟩ ?_ ?_
 .rintro a rr env ⟨b,y7,y8,y9,LD,rfl,kb⟩;obtain⟨xs,ex,xl,xz⟩:=oo (a/2) (lI f) f rfl (λs hs=>by have:=Sf.hx s hs;lia) (by lia);have kx:Kp f xs:=Ff Sf ⟨xl,xz⟩;obtain⟨ys,ey,ky⟩:=vI Sf a;rcases two (c:=a) with h | h
  .skip
   have ks:=um Sf kb.1 kx.1;obtain⟨a1,a2,a3⟩:=qt Sf (p:=tI b) (q:=tI xs) (u:=lI f) rfl rfl rfl none none none;obtain⟨b1,b2,b3⟩:=qt Sr (p:=tI (km r t b)) (q:=tI (km r t xs)) (u:=lI r) rfl rfl rfl none none none;have ls:=uK g kb kx;dsimp? [e6,bq (i:=a) (j:=2) (by decide) (by decide),ex,aA (i:=a) (j:=2) (by decide),h,show decide ((0:Int)=1)=false from rfl,gu,II,iJ g kx,iJ g kb,uA g kx,qm,decide_true,a1,Nu,au a2,a3,b1,au b2,b3,show bA [gO f r t,.tup ((pQ b xs f).map PV.int)]=M.ok (tI (km r t (pQ b xs f))) from iJ g ks,ls,show pG (tI (pQ (km r t b) (km r t xs) r)) (.tup ((pQ (km r t b) (km r t xs) r).map PV.int))=_ from qm _ _];exact⟨_,rfl,xs,_,_,_,_,rfl,kx⟩
  .have ty:PV.tup (ys.map PV.int)=tI ys:=rfl;have ks:=um Sf kb.1 ky.1;obtain⟨a1,a2,a3⟩:=qt Sf (p:=tI b) (q:=tI ys) (u:=lI f) rfl rfl rfl none none none;obtain⟨b1,b2,b3⟩:=qt Sr (p:=tI (km r t b)) (q:=tI (km r t ys)) (u:=lI r) rfl rfl rfl none none none;have ls:=uK g kb ky;dsimp? [e6,bq (i:=a) (j:=2) (by decide) (by decide),ex,aA (i:=a) (j:=2) (by decide),h,ki,au ze,ey,ty,gu,II,iJ g ky,iJ g kb,uA g ky,qm,decide_true,a1,Nu,au a2,a3,b1,au b2,b3,show bA [gO f r t,.tup ((pQ b ys f).map PV.int)]=M.ok (tI (km r t (pQ b ys f))) from iJ g ks,ls,show pG (tI (pQ (km r t b) (km r t ys) r)) (.tup ((pQ (km r t b) (km r t ys) r).map PV.int))=_ from qm _ _];exact⟨_,rfl,ys,_,_,_,_,rfl,ky⟩
 .rintro env ⟨b,y7,y8,y9,LD,rfl,kb⟩;dsimp? [ec2,uq g c2];exact⟨_,rfl,rfl⟩
end
end sy
theorem PySem.Challenge.cw_dialvault_k54_settings_led_holds : PySem.Challenge.rw_dialvault_k54_settings_led.Holds :=
  sy.hold HD.said λns _ _ => sy.E6 ns
end